import PyProof.Rows.All
import Wide.All
import OpenK.AllK
import Wide.FinOn
import Lean
import PyProof.EqAt
import PyProof.EqKinds
import PyProof.TupleCall
import PySem.Challenge.RW_roadsall_k41_facts_without_knowing
set_option Elab.async false
set_option linter.all false
set_option maxRecDepth 100000
set_option maxHeartbeats 4000000
noncomputable section
abbrev VP:=PySem.Value->PySem.Shared->Prop
abbrev PN:=List (PySem.Addr×PySem.Obj)
abbrev SV:=PySem.Str->Option PySem.Value
abbrev Aa:=PySem.Addr->Prop
abbrev LS:=List PySem.Str
abbrev LV:=List PySem.Value
abbrev Ab:=List PySem.Expr
abbrev OV:=Option PySem.Value
abbrev FG:=PySem.W.Frag
open PySem.PyData renaming strOk->az,eqv->b9,depthAll->rN,eqvAll->rL,canLayAll0->wO,depth->t3,canLay0->Eb
open PySem.Builtin.Tuple renaming tupleExact->zI,tupleItemsOf->D_,tupleHashOf->Ki,tupleTooMany->K7
open Classical renaming choose_spec->rQ,propDecidable->El
open PySem.W renaming findIn->dj,keepIn->iH,emptyDict->kE,instObj->lu,fnOf->jZ,plainGet->rO,nsIn->oN,codeIn->rM,hasDictIn->vo,kas_sort->vg,lookIn->u_,plainGet_of->yG,callWith_K->yF,plainOver->yE,methodObj->yD,isFn->u1,takerIn->yC,makesIn->yB,mg_of->uX,cellsFrom_some->Ek,methodCall_KW->Ej,pyHash_slot->Ei,specialIn->Eh,handedIn->Eg,kia_one->Ef,OpenLaw->Ee,KasFin->Ed,WalkO->Ec
open PySem renaming wpAny_bind->ae,wpAny_pure->aC,wpAny_mono->cM,wpAny_field->eP,wpAny_holding->iG,wpAny_truthy_bool->lr,wpAny_seqItems->kq,wpAny_Call_Name_kw->mM,call_meets->jk,wpAny_loadPart'->mL,mem_of_lookup->rK,wpAny_setField_rec->rJ,tupleKind_room_in1->rH,wpAny_callSpecial?_slot->uK,wpAny_newObj_type->rG,wpAny_call_entry->rF,wpAny_passesOwn->rD,sizeLine_eq->oM,wpAny_typeOf->rj,wpAny_nextOf_list_item->yA,wpAny_Call_method_late->yz,call_meetsIn->ri,typeIs_int->rh,wpAny_pyIter_list->yy,wpAny_Call_method->yx,slot_dict_getitem->yw,codeAny_mono->uJ,wpAny_pyIter_zip->yv,wpAny_Dict_empty->yu,noFill_tuple_add->yt,wpAny_execs_nil->yr,Within->yq,wpAny_rule->uI,wpAny_newTuple->yp,wpAny_binaryOp_repeat_ref->Ea,wpAny_standAt->yo,wpAny_onRaise->yn,seq_tuple_add->ym,wpAny_Assign_Subscript->D',seqSlot_of->D9,seqIndex_neg->yk,concat_meets->yj,wpAny_nextOf_list_end->D8,builtinLookup_eq_fast->D7,wpAny_updateSeq_pair->D6,wpAny_loadName_local->D5,seqIndex_of->yi,wpAny_loadName_cell->D4,wpAny_setItem_heap->D3,wpAny_pyIter_tuple->D2,wpAny_getItem_heap->D1,wpAny_Name->yh,wpAny_sequenceKey->D0,wpAny_pyIter_enum->DZ,wpAny_assign_Name->DY,slot_list_getitem->DX,wpAny_pyHash_str->DW,wpAny_pyHash_int->DV,wpAny_isInstance->DU,wpAny_forIn_list->BB,wpAny_execs_cons->BA,wpAny_eqBool_str->Bz,wpAny_eqBool_int->By,beq_builtin_none->Bx,typeLookup_type->Bw,codeAny_builtin->Bv,wpAny_setField->Bu,wpAny_newList->Bt,rangeSize_one->Bs,plainId_quiet->Br,eval_ListComp->Bq,evalPart_none->Bp,call_list_seq->Bo
open Array renaming length_toList->nI,forIn_toList->qO,getElem?_eq_some_iff->Bn,getElem?_append_left->Bm,getElem?_eq_getElem->Bl,toList->vD,size_append->Bk,all_append->Bj
open PySem.Around renaming in1_units->qN,under->vA,under_plainId->Bi
open Bool renaming and_eq_true->av,false_ne_true->bP,eq_iff_iff->kF,and_true->lY,not_eq_true'->qM,false_or->nH,and_eq_true_iff->vx,false_eq_true->vw,true_or->vu,or_eq_false_iff->Bh,or_eq_true->Bg,false_and->Bf,true_and->Be,not_true->Bc
open List renaming mem_cons_of_mem->aH,mem_cons_self->aF,getElem?_set_ne->aO,map_cons->aG,length_cons->aR,getElem?_append_left->bF,getElem?_eq_getElem->bA,getElem?_eq_some_iff->bO,mem_of_getElem?->bq,mem_cons->aQ,getElem?_append_right->cy,size_toArray->bf,length_map->aZ,length_append->bz,getElem?_set_self->cj,all_eq_true->bw,replicate_succ->cS,nodup_cons->ci,not_mem_nil->cJ,mem_map->bN,mem_append->cI,getElem?_map->dJ,eq_nil_of_length_eq_zero->i7,append_assoc->eD,mem_append_right->fV,length_set->dn,getElem?_take_of_lt->ik,getElem_mem->eC,set_set->cR,nil_append->eB,append_nil->eA,mem_singleton->fU,set_getElem_self->ij,length_filter_le->ig,mem_flatMap->fy,flatten_cons->fS,any_cons->dI,getD_eq_getElem?_getD->kD,flatMap_cons->ie,all_cons->fx,mem_filter->gA,map_nil->eS,foldl_cons->gy,length_take->ib,find?_cons->h_,mem_range->i6,forIn_cons->jI,mem_iff_getElem->lX,lookup->gx,mem_append_left->nG,map_id->i5,any_eq_true->lW,filterMap_cons->nE,map_append->lV,nodup_append->nD,getElem?_eq_none->qL,take_length->nC,isEmpty_iff->nB,filter_cons->nA,cons_append->nz,mem_of_mem_take->qK,filter_eq_self->qJ,map_map->lU,mem_replicate->qI,mem_filterMap->qH,pairwise_map->qG,lookup_cons->qF,getElem?_replicate->vr,filter_cons_of_pos->vq,filter_cons_of_neg->vp,drop_length->qE,find?_cons_of_neg->vn,filter_map->qD,pairwise_flatMap->vm,mem_of_mem_drop->vl,drop_zero->qC,zip_cons_cons->vk,findIdx?_eq_some_iff_getElem->Bb,take_sublist->vj,all_nil->qB,range'_succ->vh,nodup_range->vf,length_drop->ve,length->qA,of_mem_zip->vd,nodup_nil->vc,foldl->qz,pairwise_iff_getElem->Ba,mem_or_eq_of_mem_set->A',mem_of_find?_eq_some->A_,getElem?_eq_none_iff->A9,drop_eq_getElem_cons->A8,mem_of_mem_eraseIdx->A7,map_take->u9,pairwise_singleton->A6,length_eraseIdx_le->A5,take_of_length_le->A4,find?_cons_of_pos->A3,filter_eq_nil_iff->A2,length_singleton->A1,length_replicate->A0,map_congr_left->AZ,length_pos_iff->AY,map_inj_right->AX,filter_congr->AW,mem_reverse->AV,getElem_map->AU,flatMap_def->AT,length_nil->AS,find?_some->AR,forIn_nil->AQ,drop_drop->AO,range'->AN
open Nat renaming le_refl->al,le_trans->aI,lt_of_lt_of_le->cg,ne_of_lt->bK,ne_of_gt->cx,zero_le->cQ,add_assoc->ee,zero_add->d_,lt_succ_self->jH,lt_of_le_of_lt->kC,le_of_lt->i4,lt_irrefl->jG,le_add_right->ny,lt_trans->lT,le_succ->nw,mul_comm->qy,le_of_succ_le->u7,le_of_eq->qx,ble->kB,min_eq_left->u6,add_sub_cancel_left->AM,succ_mul->u5,pow_succ->u4,add_comm->u3,ble_eq_true_of_le->AL,mul_le_mul_left->AK,eq_zero_or_pos->AJ,add_sub_cancel->AI,le_succ_of_le->AH,min_eq_right->AG,mul_assoc->AF,sub_zero->AE,mul_succ->AD,lt_or_ge->AC,log2_lt->AB,not_lt->AA
abbrev aM:=@of_decide_eq_true
abbrev af:=@if_pos
abbrev be:=@decide_eq_false
abbrev ah:=@if_neg
abbrev fR:=@decide_eq_true
abbrev cH:=@or_false
abbrev jF:=@beq_eq_false_iff_ne
abbrev dh:=@congrArg
abbrev gw:=@if_true
abbrev kA:=@if_false
abbrev kz:=@and_true
abbrev i3:=@not_or
abbrev u0:=@decide_eq_true_iff
abbrev nv:=@beq_iff_eq
abbrev uZ:=@decide_eq_decide
abbrev uY:=@beq_false_of_ne
open PySem.SeqAt renaming readOf->kx,eqv_refl->qw,readsAll_map->Az,items_eqAt->Ay,shaped->Ax,eqAt_reads->Ie
open Sum.inr renaming inj->jE
open PySem.Heap renaming get?_push_of_some->ba,lt_size->aJ,get?_push_size->cw,SameBut->fw,get?_update_self->uW,size_push->uV,get?_update_other->Aw,ExtBut->Av
open Option.some renaming inj->dH,injEq->Ic
open Ne renaming symm->aS
open PySem.Calls renaming spliced_cons->fu,spliced_nil->i0,callWith_builtin->lS,evalArgs_plain->lR,Name_function_global->Au
open PyProof.Rows renaming callWith_type1->lQ,slot_tuple_getitem->ku,boot_list->qv,boot_zip->As,tail_any->nu,reads_list_at->uU,subscriptTail_builtinR->Ar,lt_int->Aq,entry_tuple_getitem->Ap,args_tuple_getitem->Ao,get?_update_seq->An,callWith_builtin1->Ib,boot_tuple->Ia,boot_sorted->H_,boot_isinstance->H0,boot_int->HZ,boot_dict->HY,boot_bool->HX,boot_abs->HW,slicePart_none->Am,UnaryOp_->uT,tupleItemsOf_->Al,listUpdate_at->Ak
open PySem.EqNone renaming ne_str_none->HV,ne_none_str->HU,ne_none_none->HS,ne_none_int->HR,ne_none_bool->HQ,ne_int_none->HP,ne_bool_none->HN,eq_str_none->HM,eq_none_str->HL,eq_none_none->HK,eq_none_int->HJ,eq_none_bool->HI,eq_int_none->HH,eq_bool_none->HG
open PySem.EqMixed renaming ne_str_int->HF,ne_str_bool->HD,ne_int_str->HC,ne_bool_str->HA,eq_str_int->Hz,eq_str_bool->Hy,eq_int_str->Hx,eq_bool_str->Hw
open Option renaming map_eq_some_iff->eR,isSome_iff_exists->nr,bind_eq_some_iff->qu,map->kt,bind_some->qq,isSome_map->Aj,getD_none->Ai
open PySem.F renaming slot_dict_get->lP,plainAttrs_list->qo,slot_tuple_mul->qm,entry_dict_get->qk,slot_int_rmul->qj,args_tuple_add_2->uS,plainAttrs_dict->uR,entry_tuple_add->uQ,slot_tuple_add->uP,slot_zip_getattribute->uO,slot_dict_setdefault->Ah,slot_tuple_index->Ag,args_tuple_mul_2->Af,slot_tuple_rmul->Ae,slot_list_index->Ad,slot_list_count->Ac,entry_tuple_mul->z_,args_dict_get_3->z5,args_dict_get_2->z4,type_dict_get->z3,slot_tuple_iterator_next->z0,slot_list_extend->zZ,slot_list_append->zY,args_int_rmul_2->zX,slot_int_index->zW,entry_int_rmul->zV,fills_int_mul->zU,slot_zip_next->zT
open Int renaming emod_lt_of_pos->dG,emod_nonneg->dg,zero_add->cG,toNat_natCast->uN,add_assoc->uM,toNat_of_nonneg->zS,natCast_mul->zR,lt_irrefl->zQ,le_of_lt->zP
open PySem.Builtin.Slice renaming slicePlaces->qh,sliceAdjust->uL,sliceApplied->zO,slicePartIndex->Hv,sliceFields->Hu
open PySem.Str renaming length->nq,ofString_eq_toList->zN
open PySem.Obj renaming mapSeq->kr,mapFields->zM
open PySem.Builtin.List renaming listTooLong->qg
open PySem.AutoSeq1 renaming sub_tuple_tuple->zL,idx_int->zK
open List.cons renaming injEq->iY
open PySem.Heap.SameBut renaming update->qf
open PySem.Builtin.SmallTypes renaming nextOf->iX,ownedTupleIsFree->qe,ownedTupleHandOut->Ht
open PySem.Builtin.Dict renaming updateFrom->zJ,selfAndRest->Hs,pairItems->Hr,addKeywords->Hq
set_option tactic.hygienic false
namespace Nk
open PySem
mutual
noncomputable def kd:PyData->Bool
 | .none=>true
 | .int _=>true
 | .str x=>Eb (.str x)
 | .tuple xs=>kds xs
 | .bool _=>false
 | .list _=>false
 | .dict _=>false
noncomputable def kds:List PyData->Bool
 | []=>true
 |x::xs=>kd x && kds xs
end
mutual
noncomputable def hk(w:World):PyData->Int
 | .none=>PySem.W.hashW w.params .none
 | .int i=>hashInt i
 | .str x=>hashStr w x
 | .tuple xs=>reduceHash (Ki (PM w xs))
 | .bool _=>0
 | .list _=>0
 | .dict _=>0
noncomputable def PM(w:World):List PyData->List Int
 | []=>[]
 |x::xs=>hk w x::PM w xs
end
mutual
noncomputable def dr:PyData->Nat
 | .tuple xs=>QW xs+1
 | .none=>1
 | .int _=>1
 | .str _=>1
 | .bool _=>0
 | .list _=>0
 | .dict _=>0
noncomputable def QW:List PyData->Nat
 | []=>0
 |x::xs=>dr x+QW xs
end
noncomputable instance decPD:DecidableEq PyData:=λa b=>El (a=b)
section
variable{f:Program}{w:World}{E:VP}
mutual
theorem Cs:∀(d:PyData)(v:Value)(as:List Addr)(A:Around)(s:Shared)(Q:Int->Shared->Prop),kd d=true->Reads s.heap v d as->A.units+d.depth < cLine->Q (hk w d) { s with toks:=s.toks+dr d }->wpAny (model f w) A (pyHash v) Q E s
 | .none,_,_,A,s,Q,_,r,hu,h=>by cases r;exact Ei (T:="NoneType") rfl F.slot_NoneType_hash F.entry_NoneType_hash (F.args_NoneType_hash_1 _) (Bx _) (.inr (by lia)) (ae (aC (ae (wpAny_mkInt (aC ⟨_,_,rfl,h⟩)))))
 | .int _,_,_,_,_,_,_,r,_,h=>by cases r;exact DV h
 | .str _,_,_,_,_,_,_,r,_,h=>by cases r;exact DW h
 | .tuple xs,_,_,A,s,Q,k,r,hu,h=>by
  cases r with
  | @tuple a o vs n _ _ g1 g2 g3 g4=>simp only[t3]at hu;refine Ei ⟨o,g1,g2⟩ F.slot_tuple_hash F.entry_tuple_hash (F.args_tuple_hash_1 _) (Bx _) (.inr (by lia)) ?_;show wpAny _ _ (D_ (.ref a) >>= _) _ _ s;refine ae (wpAny_tupleItemsOf g1 g3 (ae ?_));rw[<- qO];refine xH xs vs.toList _ A.in1 s #[] _ k g4 (by rw[qN];lia) λb e=>?_;show wpAny _ _ (retInt (Ki b.toList)) _ _ _;rw[e];exact ae (wpAny_mkInt (aC ⟨_,_,rfl,h⟩))
 | .bool _,_,_,_,_,_,k,_,_,_ | .list _,_,_,_,_,_,k,_,_,_ | .dict _,_,_,_,_,_,k,_,_,_=>nomatch k
theorem xH:∀(xs:List PyData)(vs:LV)(as:List Addr)(A:Around)(s:Shared)(b:Array Int)(Q:Array Int->Shared->Prop),kds xs=true->ReadsAll s.heap vs xs as->A.units+rN xs < cLine ->
  (∀b',b'.toList=b.toList++PM w xs->Q b' { s with toks:=s.toks+QW xs })->wpAny (model f w) A (forIn vs b λx r=>do let h <- pyHash x;pure PUnit.unit;pure (ForInStep.yield (r.push h))) Q E s
 | [],_,_,_,s,b,_,_,r,_,h=>by cases r;exact aC (h b (by simp[PM]))
 |d::xs,_,_,A,s,b,Q,k,r,hu,h=>by
  cases r with
  |cons r1 r2=>
   simp only[kds,av]at k;simp only[rN]at hu;rw[jI];refine ae (ae (Cs d _ _ A s _ k.1 r1 (by lia) ?_));refine aC (xH xs _ _ A { s with toks:=s.toks+dr d } _ Q k.2 r2 (by lia) λb' e=>?_);have:=h b' (by rw[e];simp[PM])
   simpa[QW,ee] using this
end
end
mutual
theorem Jz:∀d:PyData,kd d=true->d.canLay0=true
 | .none,_ | .int _,_=>rfl
 | .str _,k=>k
 | .tuple xs,k=>by have:=xx xs k;simpa[Eb] using this
 | .bool _,k | .list _,k | .dict _,k=>nomatch k
theorem xx:∀xs:List PyData,kds xs=true->wO xs=true
 | [],_=>rfl
 |d::xs,k=>by simp only[kds,av]at k;simp[wO,Jz d k.1,xx xs k.2]
end
mutual
theorem eqv_kd:∀a b:PyData,kd a=true->kd b=true->(b9 a b=true↔a=b)
 | .none,.none,_,_=>by simp[b9]
 | .none,.int _,_,_ | .none,.str _,_,_ | .none,.tuple _,_,_=>by simp[b9]
 | .int _,.none,_,_ | .int _,.str _,_,_ | .int _,.tuple _,_,_ | .int _,.int _,_,_=>by simp[b9]
 | .str _,.none,_,_ | .str _,.str _,_,_ | .str _,.tuple _,_,_ | .str _,.int _,_,_=>by simp[b9]
 | .tuple _,.none,_,_ | .tuple _,.str _,_,_ | .tuple _,.int _,_,_=>by simp[b9]
 | .tuple xs,.tuple ys,h,k=>by have:=Cy xs ys h k;simp[b9,this]
 | .bool _,_,k,_ | .list _,_,k,_ | .dict _,_,k,_=>nomatch k
 | .none,.bool _,_,k | .none,.list _,_,k | .none,.dict _,_,k | .int _,.bool _,_,k | .int _,.list _,_,k | .int _,.dict _,_,k=>nomatch k
 | .str _,.bool _,_,k | .str _,.list _,_,k | .str _,.dict _,_,k | .tuple _,.bool _,_,k | .tuple _,.list _,_,k | .tuple _,.dict _,_,k=>nomatch k
theorem Cy:∀xs ys:List PyData,kds xs=true->kds ys=true->(rL xs ys=true↔xs=ys)
 | [],[],_,_=>by simp[rL]
 | [],_::_,_,_|_::_,[],_,_=>by simp[rL]
 |x::xs,y::ys,h,k=>by simp only[kds,av]at h k;simp[rL,eqv_kd x y h.1 k.1,Cy xs ys h.2 k.2]
end
mutual
theorem stay:∀(x:PyData){h h':Heap}{v:Value}{as:List Addr},kd x=true->Reads h v x as->(∀b o,h.get? b=some o->o.cls=.type "tuple"->(∃vs n,o.data=.seq vs n)->h'.get? b=some o)->Reads h' v x as
 | .none,_,_,_,_,_,r,_ | .int _,_,_,_,_,_,r,_ | .str _,_,_,_,_,_,r,_=>by cases r;constructor
 | .tuple xs,_,_,_,_,k,r,q=>by
  cases r with
  |tuple g1 g2 g3 g4=>exact .tuple (q _ _ g1 g2 ⟨_,_,g3⟩) g2 g3 (stays xs k g4 q)
 | .bool _,_,_,_,_,k,_,_ | .list _,_,_,_,_,k,_,_ | .dict _,_,_,_,_,k,_,_=>nomatch k
theorem stays:∀(xs:List PyData){h h':Heap}{vs:LV}{as:List Addr},kds xs=true->ReadsAll h vs xs as->(∀b o,h.get? b=some o->o.cls=.type "tuple"->(∃vs n,o.data=.seq vs n)->h'.get? b=some o)->ReadsAll h' vs xs as
 | [],_,_,_,_,_,r,_=>by cases r;constructor
 |x::xs,_,_,_,_,k,r,q=>by
  simp only[kds,av]at k;cases r with
  |cons r1 r2=>exact .cons (stay x k.1 r1 q) (stays xs k.2 r2 q)
end
section
variable{f:Program}{w:World}{E:VP}
mutual
theorem xb:∀(d:PyData)(n:Nat)(v:Value)(as:List Addr)(A:Around)(s:Shared)(Q:Bool->Shared->Prop),kd d=true->d.depth≤n->Reads s.heap v d as->Q true s->wpAny (model f w) A (eqIsQuiet n v) Q E s
 | .none,n,_,_,_,_,_,_,_,r,q | .int _,n,_,_,_,_,_,_,_,r,q | .str _,n,_,_,_,_,_,_,_,r,q=>by cases r;rw[eqIsQuiet_byValue n rfl];exact aC q
 | .tuple xs,n,_,_,A,s,Q,k,l,r,q=>by
  simp only[t3]at l;obtain⟨n,rfl⟩:∃m,n=m+1:=⟨n-1,by lia⟩;cases r with
  | @tuple a o vs m _ _ g1 g2 g3 g4=>
   have T:s.TypeIs (.ref a) "tuple":=⟨o,g1,g2⟩;unfold eqIsQuiet;refine ae (wpAny_specialOf T F.slot_tuple_eq.lookup ?_);show wpAny _ _ (isInstance (.ref a) (.type "tuple") >>= _) _ _ s;refine ae (DU T isSubtype_tuple_tuple ?_);simp only[Bc,vw,kA];refine ae (kq g1 g3 (ae ?_));show wpAny _ _ (forIn vs _ _) _ _ s;rw[<- qO];have all:=ug xs n vs.toList _ A s k (by lia) g4;refine BB _ (λrest r s'=>r.1=none/\s'=s/\∀v ∈ rest,∀Q:Bool->Shared->Prop,Q true s->wpAny (model f w) A (eqIsQuiet n v) Q E s) _ ?_ ?_ _ _ ⟨rfl,rfl,λv hv Q=>all v hv Q⟩
   .rintro v rest ⟨r1,r2⟩ s' ⟨e1,e2,hall⟩;subst e2;refine ae (hall v aF _ ?_);simp only[Bc,vw,kA];exact aC ⟨rfl,rfl,λu hu=>hall u (aH _ hu)⟩
   .rintro ⟨r1,r2⟩ s' ⟨e1,e2,_⟩;cases e1;cases e2;exact aC q
 | .bool _,_,_,_,_,_,_,k,_,_,_ | .list _,_,_,_,_,_,_,k,_,_,_ | .dict _,_,_,_,_,_,_,k,_,_,_=>nomatch k
theorem ug:∀(xs:List PyData)(n:Nat)(vs:LV)(as:List Addr)(A:Around)(s:Shared),kds xs=true->rN xs≤n->ReadsAll s.heap vs xs as->∀v ∈ vs,∀Q:Bool->Shared->Prop,Q true s->wpAny (model f w) A (eqIsQuiet n v) Q E s
 | [],_,_,_,_,_,_,_,r,v,hv,_,_=>by cases r;cases hv
 |x::xs,n,_,_,A,s,k,l,r,v,hv,Q,q=>by
  simp only[kds,av]at k;simp only[rN]at l;cases r with
  |cons r1 r2=>
   rcases aQ.mp hv with rfl|hv
   .exact xb x n _ _ A s Q k.1 (by lia) r1 q
   .exact ug xs n _ _ A s k.2 (by lia) r2 v hv Q q
end
end
def nest(f:Program)(w:World):HeapKind f w PyData where
 is:=λh d a=>kd d=true/\d.depth≤8/\∃n,Reads h (.ref a) d n
 hash:=hk w
 draws:=dr
 room:=λA=>A.units+8 < cLine
 inj:=λx y=>by obtain⟨k,_,_,r⟩:=x;obtain⟨_,_,_,t⟩:=y;exact PySem.SeqAt.Reads.unique _ _ _ _ _ (Jz _ k) r t
 keeps:=λx hd v j=>by obtain⟨k,l,n,r⟩:=x;refine⟨k,l,n,stay _ k r λb o m _ c=>?_⟩;refine(j.2 b λe=>?_).trans m;subst e;obtain⟨_,_,c⟩:=c;rw[hd]at m;cases m;rw[v]at c;cases c
 pyHash:=λu x q=>by obtain⟨k,l,n,r⟩:=x;exact Cs _ _ _ _ _ _ k r (by lia) q
 eqBool:=λ{A E s x y a b Q} u g i q=>by
  obtain⟨k,l,n,r⟩:=g;obtain⟨p,z,bs,t⟩:=i;have e:=Ie x y A s _ _ n bs r t (Jz _ k) (Jz _ p) (by lia);refine e f w E Q ?_;have:b9 x y=decide (x=y):=by rw[kF,eqv_kd x y k p,u0]
  rw[this];exact q
 quiet:=λx q=>by obtain⟨k,l,n,r⟩:=x;exact xb _ 8 _ _ _ _ _ k l r q
end Nk
set_option Elab.async false
set_option linter.all false
set_option maxRecDepth 100000
namespace L2
open PySem PySem.Spec PyProof.Rows
noncomputable abbrev cu:=Sum Int Str
noncomputable def uq:cu->Value->Bool
 | .inl k,v=>Value.isInt k v
 | .inr x,v=>Value.isStrOf x v
noncomputable def Su(w:World):cu->Int
 | .inl k=>hashInt k
 | .inr x=>hashStr w x
theorem du:∀{k:cu}{v:Value},uq k v=true->(∃i t,k=Sum.inl i/\v=Value.int i t)\/(∃x t,k=Sum.inr x/\v=Value.str x t)
 | .inl i,v,h=>by obtain⟨t,e⟩:=Value.isInt_shape (k:=i) (v:=v) h;exact .inl ⟨i,t,rfl,e⟩
 | .inr x,v,h=>by obtain⟨t,e⟩:=Value.isStrOf_shape (x:=x) (v:=v) h;exact .inr ⟨x,t,rfl,e⟩
theorem Dm(i:Int)(t:Tok):uq (.inl i) (.int i t)=true:=by simp[uq,Value.isInt]
theorem Dl(x:Str)(t:Tok):uq (.inr x) (.str x t)=true:=by simp[uq,Value.isStrOf]
theorem MS(a b:Int):decide ((Sum.inl a:cu)=Sum.inl b)=(a == b):=by
 by_cases e:a=b
 .subst e;simp
 .have h:¬(Sum.inl a:cu)=Sum.inl b:=λq=>e (Sum.inl.inj q);rw[be h];exact(jF.mpr e).symm
theorem MP(a b:Str):decide ((Sum.inr a:cu)=Sum.inr b)=decide (a=b):=by
 by_cases e:a=b
 .subst e;simp
 .have h:¬(Sum.inr a:cu)=Sum.inr b:=λq=>e (jE q);rw[be h,be e]
theorem MR(a:Int)(b:Str):decide ((Sum.inl a:cu)=Sum.inr b)=false:=be (λq=>nomatch q)
theorem MQ(a:Str)(b:Int):decide ((Sum.inr a:cu)=Sum.inl b)=false:=be (λq=>nomatch q)
def cL(prog:Program)(w:World):PySem.KeyKind prog w cu where
 is:=uq
 hash:=Su w
 inj:=λv a b c f=>by
  rcases du c with ⟨i,t,rfl,rfl⟩|⟨x,t,rfl,rfl⟩
  .rcases du f with ⟨j,u,rfl,e⟩|⟨y,u,rfl,e⟩
   .injection e with s _;rw[s]
   .exact nomatch e
  .rcases du f with ⟨j,u,rfl,e⟩|⟨y,u,rfl,e⟩
   .exact nomatch e
   .injection e with s _;rw[s]
 byValue:=λk v h=>by rcases du h with ⟨i,t,rfl,rfl⟩|⟨x,t,rfl,rfl⟩<;>rfl
 pyHash:=λn h=>by
  rcases du n with ⟨i,t,rfl,rfl⟩|⟨x,t,rfl,rfl⟩
  .exact DV h
  .exact DW h
 eqBool:=λm n h=>by
  rcases du m with ⟨i,t,rfl,rfl⟩|⟨x,t,rfl,rfl⟩
  .rcases du n with ⟨j,u,rfl,rfl⟩|⟨y,u,rfl,rfl⟩
   .rw [MS]at h;exact By h
   .rw [MR]at h;exact SeqAt.EqAt.int_str i t y u _ _ _ _ h
  .rcases du n with ⟨j,u,rfl,rfl⟩|⟨y,u,rfl,rfl⟩
   .rw [MQ]at h;exact SeqAt.EqAt.str_int x t j u _ _ _ _ h
   .rw [MP]at h;exact Bz h
 «strs»:=λk x t v h=>by
  rcases du h with ⟨i,u,rfl,e⟩|⟨y,u,rfl,e⟩
  .exact nomatch e
  .injection e with s _;subst s;cases v<;>rfl
theorem xt(prog:Program)(w:World)(i:Int)(t:Tok):(cL prog w).is (.inl i) (.int i t)=true:=Dm i t
theorem xr(prog:Program)(w:World)(x:Str)(t:Tok):(cL prog w).is (.inr x) (.str x t)=true:=Dl x t
inductive V where
 |non|bl (b:Bool)|int (i:Int)|str (x:Str)|byt (b:Array UInt8)|flt (b:UInt64)|ref (a:Addr)|ty (n:String)
 deriving DecidableEq
def RelV:V->Value->Prop
 | .non,u=>u=Value.none
 | .bl b,u=>u=Value.bool b
 | .int i,u=>∃t,u=Value.int i t
 | .str x,u=>∃t,u=Value.str x t
 | .byt b,u=>∃t,u=Value.bytes b t
 | .flt b,u=>∃t,u=Value.float b t
 | .ref a,u=>u=Value.ref a
 | .ty n,u=>u=Value.type n
abbrev bb:List V->LV->Prop:=Paired RelV
variable{j:LV}
theorem bb.length(r:bb xs j):xs.length=j.length:=Paired.length r
theorem bb.get:∀{xs:List V}{j:LV}{i:Nat}{x:V},bb xs j->xs[i]? = some x->∃u,j[i]? = some u/\RelV x u
 |_,_,_,_,.nil,e=>by simp at e
 |_,_,0,_,.cons r _,e=>by simp at e;subst e;exact⟨_,rfl,r⟩
 |_,_,i+1,x,.cons _ t,e=>by obtain⟨u,h1,h2⟩:=bb.get (i:=i) (x:=x) t (by simpa using e);exact⟨u,by simpa using h1,h2⟩
variable{u:Value}
theorem bb.set(r:RelV x u):∀{xs:List V}{j:LV}(i:Nat),bb xs j->bb (xs.set i x) (j.set i u)
 |_,_,_,.nil=>.nil
 |_,_,0,.cons _ t=>.cons r t
 |_,_,i+1,.cons q t=>.cons q (bb.set r i t)
theorem bb.append:∀{xs ys:List V}{j w:LV},bb xs j->bb ys w->bb (xs++ys) (j++w)
 |_,_,_,_,.nil,s=>s
 |_,_,_,_,.cons r t,s=>.cons r (bb.append t s)
theorem bb.take:∀{xs:List V}{j:LV}(n:Nat),bb xs j->bb (xs.take n) (j.take n)
 |_,_,0,_=>.nil
 |_,_,_+1,.nil=>.nil
 |_,_,n+1,.cons r t=>.cons r (bb.take n t)
theorem bb.drop:∀{xs:List V}{j:LV}(n:Nat),bb xs j->bb (xs.drop n) (j.drop n)
 |_,_,0,r=>r
 |_,_,_+1,.nil=>.nil
 |_,_,n+1,.cons _ t=>bb.drop n t
def lq:Option V->OV->Prop
 |some v,some u=>RelV v u
 |none,none=>True
 |_,_=>False
def KV:List (κ×V)->List (κ×Value)->Prop:=Paired λ(p:κ×V)(q:κ×Value)=>p.1=q.1/\RelV p.2 q.2
noncomputable def kV:cu->V
 | .inl i=>.int i
 | .inr x=>.str x
def pq(h:Heap)(a:Addr)(i:Array Value):Prop:=∃o,h.get? a=some o/\(o.cls=.type "tuple"/\∃n,o.data=.seq i n)/\o.dict=none
variable{h:Heap}{a:Addr}
theorem pq.tup(x:pq h a q):IsTup h a q:=by obtain⟨o,e,c,_⟩:=x;exact⟨o,e,c⟩
theorem pq.lt(x:pq h a q):a < h.objs.size:=x.tup.lt
theorem pq.new(h:Heap)(i:Array Value):pq (h.push { cls:=.type "tuple",data:=.seq i }) h.objs.size i:=⟨_,cw _ rfl,⟨rfl,_,rfl⟩,rfl⟩
inductive HO where
 |lst (xs:List V)
 |tup (xs:List V)
 |dK (kvs:List (cu×V))|dT (kvs:List (List cu×V))|dN (kvs:List (PyData×V×V))
 |set (S:Int->Bool) (n:Nat)
 |ins (C dx:Addr) (fs:List (Str×V))
 |own (x:Addr)
 |xd (fs:List (Str×V))
 |met (f x:Addr)
 |rng (lo hi:Int)
 |frz (o:Obj) (u:HO)
 |tbl (ps:Array Value)
 |ext (φ:Heap->Prop)
noncomputable abbrev Hp:=Addr->Option HO
noncomputable def cq(H:Hp)(a:Addr)(o:HO):Hp:=λb=>if b=a then some o else H b
variable{H:Hp}
theorem aV:cq H a o a=some o:=by unfold cq;rw[af rfl]
variable{b:Addr}
theorem aN(h:b≠a):cq H a o b=H b:=by unfold cq;rw[ah h]
theorem Ps{H:Hp}{a b:Addr}{o u:HO}(h:H a=some o)(h':H b=some u)(d:o≠u):a≠b:=by intro e;subst e;rw[h]at h';exact d (dH h')
theorem b7(h:H a=some o)(h':H b=none):a≠b:=by intro e;subst e;rw[h]at h';cases h'
section
variable(P:Program)(w:World)
def dC(H:Hp)(h:Heap)(a:Addr):HO->Prop
 | .lst xs=>xs.length≤sizeLine/\∃(its:LV)(n:Nat),bb xs its/\h.get? a=some { cls:=.type "list",data:=.seq its.toArray n }
 | .tup xs=>xs.length≤sizeLine/\∃its:LV,bb xs its/\pq h a its.toArray
 | .dK kvs=>kvs.length≤sizeLine/\(a == sysModules)=false/\∃vs,KV kvs vs/\h.DictOf (cL P w) a vs
 | .dT kvs=>kvs.length≤sizeLine/\(a == sysModules)=false/\∃xs:List (List cu×Addr×Value),
   Paired (λ(p:List cu×V)(q:List cu×Addr×Value)=>p.1=q.1/\H q.2.1=some (.tup (p.1.map kV))/\RelV p.2 q.2.2) kvs xs /\
   ∃o es ep,h.get? a=some o/\o.ExactDict/\o.data=.dict es ep/\es.toList=xs.map (entryOfKey (tupleKind (cL P w)))/\(xs.map (·.1)).Nodup
 | .dN kvs=>kvs.length≤sizeLine/\(a == sysModules)=false/\∃xs:List (PyData×Addr×Value),Paired (λ(p:PyData×V×V)(q:PyData×Addr×Value)=>p.1=q.1/\p.2.1=V.ref q.2.1/\RelV p.2.2 q.2.2) kvs xs /\
   ∃o es ep,h.get? a=some o/\o.ExactDict/\o.data=.dict es ep/\es.toList=xs.map (entryOfKey (Nk.nest P w))/\(xs.map (·.1)).Nodup
 | .set S n=>h.SetOf (intKind P w) a S n
 | .ins C dx fs=>H dx=some (.own a)/\fs.length≤1000/\dx≠a/\h.get? a=some (lu C dx) /\
   ∃mA,h.Ns1 dx mA/\(∀f,lq (fs.lookup f) (mA f))/\yq mA (fs.map (·.1))
 | .own _=>∃o,h.get? a=some o
 | .xd fs=>∃mA,h.Ns1 a mA/\∀f,lq (fs.lookup f) (mA f)
 | .rng lo hi=>∃t u v,h.get? a=some { cls:=.type "range",data:=.fields #[.int lo t,.int hi u,.int 1 v] }
 | .frz o u=>h.get? a=some o/\dC H h a u
 | .tbl ps=>h.get? a=some { cls:=.none,data:=.fields ps }
 | .met f x=>h.get? a=some (yD (.ref f) (.ref x))
 | .ext φ=>φ h/\(∃o,h.get? a=some o)/\∀h1 h2:Heap,φ h1->(∀o,h1.get? a=some o->h2.get? a=some o)->φ h2
def mh(H:Hp)(h:Heap):Prop:=∀a o,H a=some o->dC P w H h a o
end
section
variable{P:Program}{w:World}{H H':Hp}{h h':Heap}{a:Addr}{o:HO}
theorem dC.lt(x:dC P w H h a o):a < h.objs.size:=by
 cases o with
 |lst xs=>obtain⟨_,_,_,_,e⟩:=x;exact aJ e
 |tup xs=>obtain⟨_,_,_,p⟩:=x;exact p.lt
 |dK kvs=>obtain⟨_,_,_,_,o,_,_,e,_⟩:=x;exact aJ e
 |dT kvs=>obtain⟨_,_,_,_,o,_,_,e,_⟩:=x;exact aJ e
 |dN kvs=>obtain⟨_,_,_,_,o,_,_,e,_⟩:=x;exact aJ e
 |set S n=>obtain⟨o,_,_,_,e,_⟩:=x;exact aJ e
 |ins C dx fs=>obtain⟨_,_,_,e,_⟩:=x;exact aJ e
 |own y=>obtain⟨_,e⟩:=x;exact aJ e
 |xd fs=>obtain⟨_,⟨_,_,_,e,_⟩,_⟩:=x;exact aJ e
 |rng lo hi=>obtain⟨_,_,_,e⟩:=x;exact aJ e
 |frz ob u=>obtain⟨e,_⟩:=x;exact aJ e
 |tbl ps=>exact aJ (show h.get? a=some _ from x)
 |met f y=>exact aJ (show h.get? a=some _ from x)
 |ext φ=>obtain⟨_,⟨_,e⟩,_⟩:=x;exact aJ e
theorem Paired.mapP:∀{l:List α}{h:List z},Paired F l h->(∀a b,F a b->q a b)->Paired q l h
 |_,_,.nil,_=>.nil
 |_,_,.cons r t,f=>.cons (f _ _ r) (Paired.mapP t f)
theorem dC.stay(x:dC P w H h a o)(k:∀b u,(b=a\/H b=some (.own a))->h.get? b=some u->h'.get? b=some u)
  (ho:∀b,H b=some (.own a)->H' b=some (.own a)) (ht:∀b xs,H b=some (.tup xs)->H' b=some (.tup xs)):dC P w H' h' a o:=by
 induction o with
 |lst xs=>obtain⟨z,its,n,r,e⟩:=x;exact⟨z,its,n,r,k _ _ (.inl rfl) e⟩
 |tup xs=>obtain⟨z,its,r,ob,e,c⟩:=x;exact⟨z,its,r,ob,k _ _ (.inl rfl) e,c⟩
 |dK kvs=>obtain⟨z,y,vs,r,ob,es,ep,e,c⟩:=x;exact⟨z,y,vs,r,ob,es,ep,k _ _ (.inl rfl) e,c⟩
 |dT kvs=>obtain⟨z,y,xs,r,ob,es,ep,e,c⟩:=x;exact⟨z,y,xs,Paired.mapP r λp q z=>⟨z.1,ht _ _ z.2.1,z.2.2⟩,ob,es,ep,k _ _ (.inl rfl) e,c⟩
 |dN kvs=>obtain⟨z,y,xs,r,ob,es,ep,e,c⟩:=x;exact⟨z,y,xs,r,ob,es,ep,k _ _ (.inl rfl) e,c⟩
 |set S n=>obtain⟨ob,es,ep,t,e,c⟩:=x;exact⟨ob,es,ep,t,k _ _ (.inl rfl) e,c⟩
 |ins C dx fs=>obtain⟨d,z,ne,e,mA,⟨od,es,ep,e2,c⟩,r⟩:=x;exact⟨ho _ d,z,ne,k _ _ (.inl rfl) e,mA,⟨od,es,ep,k _ _ (.inr d) e2,c⟩,r⟩
 |own y=>obtain⟨ob,e⟩:=x;exact⟨ob,k _ _ (.inl rfl) e⟩
 |xd fs=>obtain⟨mA,⟨od,es,ep,e,c⟩,r⟩:=x;exact⟨mA,⟨od,es,ep,k _ _ (.inl rfl) e,c⟩,r⟩
 |rng lo hi=>obtain⟨t,u,v,e⟩:=x;exact⟨t,u,v,k _ _ (.inl rfl) e⟩
 |frz ob u ih=>obtain⟨e,q⟩:=x;exact⟨k _ _ (.inl rfl) e,ih q⟩
 |tbl ps=>have e:h.get? a=some { cls:=.none,data:=.fields ps }:=x;show h'.get? a=some { cls:=.none,data:=.fields ps };exact k a _ (.inl rfl) e
 |met f y=>have e:h.get? a=some (yD (.ref f) (.ref y)):=x;show h'.get? a=some (yD (.ref f) (.ref y));exact k a _ (.inl rfl) e
 |ext φ=>obtain⟨p,⟨o,e⟩,st⟩:=x;exact⟨st _ _ p λo q=>k _ _ (.inl rfl) q,⟨o,k _ _ (.inl rfl) e⟩,st⟩
theorem mh.lt(x:mh P w H h)(e:H a=some o):a < h.objs.size:=(x a o e).lt
theorem mh.fresh(x:mh P w H h)(e:h.objs.size≤a):H a=none:=by
 cases q:H a with
 |none=>rfl
 |some u=>exact absurd (cg (x.lt q) e) (jG _)
theorem mh.kept(x:mh P w H h)(k:∀b u,h.get? b=some u->h'.get? b=some u):mh P w H h':=λa o e=>
 (x a o e).stay (λb u _ q=>k b u q) (λ_ q=>q) λ_ _ q=>q
theorem mh.laid(x:mh P w H h)(k:∀b u,h.get? b=some u->h'.get? b=some u)(p:h.objs.size≤a)(n:dC P w (cq H a o) h' a o):mh P w (cq H a o) h':=λb u e=>by
 have f:=x.fresh p;by_cases s:b=a
 .subst s;rw[aV]at e;cases e;exact n
 .rw [aN s]at e;exact(x b u e).stay (λc v _ q=>k c v q) (λc q=>by rw[aN (b7 q f)];exact q) λc xs q=>by rw[aN (b7 q f)];exact q
end
def Rd(H:Hp)(a:Addr)(u:HO):Prop:=H a=some u\/∃o,H a=some (.frz o u)
theorem Rd.ok{P:Program}{w:World}{H:Hp}{h:Heap}{a:Addr}{u:HO}(r:Rd H a u)(x:mh P w H h):dC P w H h a u:=by
 rcases r with r|⟨o,r⟩
 .exact x a u r
 .obtain⟨_,q⟩:=x a _ r;exact q
def Qy:Option HO->Prop
 |some (.lst _)=>True
 |some (.dK _)=>True
 |some (.dT _)=>True
 |some (.dN _)=>True
 |some (.set _ _)=>True
 |some (.ins _ _ _)=>True
 |some (.ext _)=>True
 |_=>False
section
variable{P:Program}{w:World}{H:Hp}{h h':Heap}{x e:Addr}{o':HO}
theorem mh.write(ok:mh P w H h)(m:Qy (H x))(d:e=x\/H e=some (.own x))(k:∀b u,b≠e->h.get? b=some u->h'.get? b=some u)(o:∃u,h'.get? e=some u)
  (p:dC P w (cq H x o') h' x o'):mh P w (cq H x o') h':=λb u q=>by
 have n:∀c y,H c=some (.own y)->c≠x:=λc y r z=>by subst z;rw[r]at m;exact m
 have t:∀c xs,H c=some (.tup xs)->c≠x:=λc xs r z=>by subst z;rw[r]at m;exact m
 by_cases s:b=x
 .subst s;rw[aV]at q;cases q;exact p
 .rw [aN s]at q;by_cases a:b=e
  .have g:H b=some (.own x):=by
    rcases d with z|z
    .exact absurd (a.trans z) s
    .rw [a];exact z
   rw[q]at g;cases g;obtain⟨v,i⟩:=o;exact⟨v,by rw[a];exact i⟩
  .refine (ok b u q).stay (λc v f r=>k c v ?_ r) (λc r=>by rw[aN (n c b r)];exact r) λc xs r=>by rw[aN (t c xs r)];exact r
   rcases f with rfl|f
   .exact a
   .rintro rfl;rcases d with z|z
    .exact n c b f z
    .rw [f]at z;cases z;exact s rfl
end
structure Un(fs ex:List Addr)(H H':Hp)(h h':Heap):Prop where
 keep:∀b o,h.get? b=some o->H b=none->b ∉ fs->b ∉ ex->h'.get? b=some o
 slot:∀b o,h.get? b=some o->H b=none->b ∈ fs->b ∉ ex->∃sl,h'.get? b=some { o with slots:=sl }
 free:∀b o,h.get? b=some o->H b=none->b ∉ ex->H' b=none
 there:∀b o,h.get? b=some o->b ∉ ex->∃o',h'.get? b=some o'
 tups:∀b xs,H b=some (.tup xs)->H' b=some (.tup xs)
 frzs:∀b o u,H b=some (.frz o u)->H' b=some (.frz o u)
 tbls:∀b ps,H b=some (.tbl ps)->∃more,H' b=some (.tbl (ps++more))
section
variable{fs fs' ex ex':List Addr}{H G H2:Hp}{h h1 h2 h':Heap}{a x e:Addr}{o:HO}
theorem Un.any(u:Un fs ex H G h h1)(q:h.get? b=some z)(n:H b=none)(a:b ∉ ex):∃s,h1.get? b=some { z with slots:=s }:=by
 by_cases x:b ∈ fs
 .exact u.slot b z q n x a
 .exact⟨z.slots,u.keep b z q n x a⟩
theorem Un.kept(k:∀b u,h.get? b=some u->h'.get? b=some u):Un fs ex H H h h':=
 ⟨λb o q _ _ _=>k b o q,λb o q _ _ _=>⟨o.slots,k b o q⟩,λ_ _ _ n _=>n,λb o q _=>⟨o,k b o q⟩,λ_ _ q=>q,λ_ _ _ q=>q,λ_ ps q=>⟨#[],by rw[q];simp⟩⟩
theorem Un.refl:Un fs ex H H h h:=Un.kept λ_ _ q=>q
theorem Un.laid(k:∀b u,h.get? b=some u->h'.get? b=some u)(p:h.objs.size≤a)(x:H a=none):Un fs ex H (cq H a o) h h' where
 keep:=λb u q _ _ _=>k b u q
 slot:=λb u q _ _ _=>⟨u.slots,k b u q⟩
 free:=λb u q n _=>by rw[aN (bK (cg (aJ q) p))];exact n
 there:=λb u q _=>⟨u,k b u q⟩
 tups:=λb xs q=>by rw[aN (b7 q x)];exact q
 frzs:=λb u xs q=>by rw[aN (b7 q x)];exact q
 tbls:=λb ps q=>⟨#[],by rw[aN (b7 q x),q];simp⟩
theorem Un.write(m:Qy (H x))(p:e=x\/H e=some (.own x))(k:∀b u,b≠e->h.get? b=some u->h'.get? b=some u)(s:∃u,h'.get? e=some u):Un fs ex H (cq H x o) h h':=by
 have t:∀b,H b=none->b≠x:=λb n z=>by subst z;rw[n]at m;exact m
 have c:∀b,H b=none->b≠e:=λb n z=>by
  subst z;rcases p with r|r
  .exact t b n r
  .rw [n]at r;cases r
 have f:∀b u,H b=some u->¬Qy (some u)->b≠x:=λb u q nm z=>by subst z;rw[q]at m;exact nm m
 refine⟨fun b u q n _ _=>k b u (c b n) q,fun b u q n _ _=>⟨u.slots,k b u (c b n) q⟩,fun b u q n _=>by rw [aN (t b n)];exact n,fun b u q _=>?_,
  λb xs q=>by rw[aN (f b _ q λz=>z)];exact q,λb u xs q=>by rw[aN (f b _ q λz=>z)];exact q,λb ps q=>⟨#[],by rw[aN (f b _ q λz=>z),q];simp⟩⟩
 by_cases a:b=e
 .subst a;exact s
 .exact⟨u,k b u a q⟩
end
noncomputable def trk(h:Heap)(H:Hp):List Addr:=(List.range h.objs.size).filter λa=>(H a).isSome
def wk(h:Heap)(H:Hp):Heap:=PySem.W.hideAll h (trk h H)
theorem Dt(h:Heap)(H:Hp):(wk h H).objs.size=h.objs.size:=PySem.W.hideAll_size _ _
variable{o:Obj}
theorem Gx(e:h.get? b=some o)(n:H b=none):(wk h H).get? b=some o:=
 PySem.W.hideAll_get _ e λm=>by have q:(H b).isSome=true:=(gA.mp m).2;rw[n]at q;simp at q
theorem Jp(e:(wk h H).get? b=some o):h.get? b=some o/\H b=none:=by
 have a:h.get? b=some o:=PySem.W.of_hideAll (trk h H) e;refine⟨a,?_⟩;cases q:H b with
 |none=>rfl
 |some x=>have m:b ∈ trk h H:=gA.mpr ⟨i6.mpr (aJ a),by simp[q]⟩;have z:(wk h H).get? b=none:=PySem.W.hideAll_none (trk h H) m;rw[z]at e;cases e
noncomputable def oH(g h:Heap)(L:Addr):PN:=(List.range h.objs.size).filterMap λa=>if a=L\/(g.get? a).isSome=true then none else (h.get? a).map λo=>(a,o)
variable{g:Heap}{L:Addr}
theorem xu(h1:a≠L)(h2:g.get? a=none)(x:h.get? a=some o):(a,o) ∈ oH g h L:=
 qH.mpr ⟨a,i6.mpr (aJ x),by simp[h1,h2,x]⟩
set_option tactic.hygienic true in
theorem sv(x:p ∈ oH g h L):p.1≠L/\g.get? p.1=none/\h.get? p.1=some p.2:=by
 obtain⟨b,_,e⟩:=qH.mp x;split at e
 .cases e
 .rename_i n;cases q:h.get? b with
  |none=>rw[q]at e;simp at e
  |some u=>
   rw[q]at e;simp only[Option.map_some,Ic]at e;subst e;refine⟨λz=>n (.inl z),?_,q⟩;show g.get? b=none;cases r:g.get? b with
   |none=>rfl
   |some v=>exact(n (.inr (by simp[r]))).elim
theorem FQ:News g L h (oH g h L):=λp x=>let ⟨a,b,c⟩:=sv x;⟨c,a,b⟩
structure Mod(K:FG)(mg:SV)(base:Heap):Prop where
 kin:K.In base
 glob:base.Ns mainGlobals mg
 blt:∃mb,base.Ns builtinsNs mb/\∀x:Str,x≠"__name__"->mb x=bootBuiltins x
 nolimit:base.NoLimit
structure Cx where
 p:Program
 w:World
 K:FG
 g:SV
 b:Heap
 A:Around
 N:LS
 z:Shared
 y:Hp
 e:Env
 o:List Env
 k:List Env
 ex:List Addr
 fn:Str->Bool
 c:Bool
 pn:PN
 xe:VP
noncomputable def GD(l:List Env):List Addr:=l.filterMap (·.frame)
abbrev Cx.fs(X:Cx):List Addr:=GD X.o
def Nz(sc:Scope)(x:Str):Prop:=sc.names.lookup x=some .local\/sc.names.lookup x=some .cell\/sc.names.lookup x=some .free
def Loc(sc:Scope)(x:Str):Prop:=sc.names.lookup x=some .local\/sc.names.lookup x=some .cell
def Look(e:Env)(h:Heap)(m:SV)(x:Str)(u:Value):Prop:=
 (e.kindOf x=some .local/\m x=some u)\/((e.kindOf x=some .cell\/e.kindOf x=some .free)/\∃c,e.cells.lookup x=some c/\h.IsCell c (some u))
structure Cx.Ok(X:Cx):Prop where
 mod:Mod X.K X.g X.b
 kind:X.e.scope.kind=.function
 glob:X.e.globals=mainGlobals
 blt:X.e.builtins=builtinsNs
 above:X.z.heap.objs.size≤X.e.locals
 inj:∀x y c,X.e.cells.lookup x=some c->X.e.cells.lookup y=some c->x=y
 has:∀x,(X.e.kindOf x=some .cell\/X.e.kindOf x=some .free)->∃c,X.e.cells.lookup x=some c
 cab:∀x c,X.fn x=true->X.e.cells.lookup x=some c->X.z.heap.objs.size≤c
 hd:X.c=true->X.A.handled=none
 frames:X.A.frames=some X.k
 stk:X.k=X.o\/(X.k=X.e::X.o/\X.e.frame=some X.e.locals)
 exf:∀b ∈ X.ex,b≠X.e.locals/\∀x c,X.e.cells.lookup x=some c->c≠b
 bs:∀b o,X.b.get? b=some o->X.z.heap.get? b=some o/\X.y b=none
 bsz:X.b.objs.size≤X.z.heap.objs.size
 noex:∀b o,X.b.get? b=some o->b ∉ X.ex
 exfs:∀b ∈ X.ex,b ∉ X.fs
 funs:X.z.heap.FunFrames X.b X.o
 frf:∀b ∈ X.fs,X.y b=none
structure Inv(X:Cx)(pins:PN)(J:List (Option V))(H:Hp)(s:Shared):Prop where
 o:X.Ok
 os:s.os=X.z.os
 bare:AllBare s.gens
 base:Un X.fs X.ex X.y H X.z.heap s.heap
 loc:∃m,s.heap.Ns X.e.locals m/\∀(i:Nat)(x:Str)(v:V),X.N[i]? = some x->J[i]? = some (some v)->Nz X.e.scope x->∃u,RelV v u/\Look X.e s.heap m x u
 cell:∀x c,X.e.cells.lookup x=some c->∃v,s.heap.IsCell c v
 free:H X.e.locals=none
 freeC:∀x c,X.e.cells.lookup x=some c->H c=none
 pin:∀p ∈ X.pn++pins,s.heap.get? p.1=some p.2/\H p.1=none/\p.1≠X.e.locals/\p.1 ∉ X.fs/\∀v,p.2.data≠.cell v
 h:mh X.p X.w H s.heap
 len:J.length=X.N.length
section
variable{X:Cx}{pins:PN}{J:List (Option V)}{H H':Hp}{s:Shared}{h':Heap}
theorem Cx.Ok.nofr(ok:X.Ok)(e:X.b.get? b=some o):b ∉ X.fs:=λh=>by have:=(ok.funs.mem h).1;rw[e]at this;cases this
theorem Inv.bs(I:Inv X pins J H s):∀b o,X.b.get? b=some o->s.heap.get? b=some o/\H b=none:=λb o e=>
 ⟨I.base.keep b o (I.o.bs b o e).1 (I.o.bs b o e).2 (I.o.nofr e) (I.o.noex b o e),I.base.free b o (I.o.bs b o e).1 (I.o.bs b o e).2 (I.o.noex b o e)⟩
theorem Inv.bk(I:Inv X pins J H s):∀b o,X.b.get? b=some o->s.heap.get? b=some o:=λb o e=>(I.bs b o e).1
theorem Inv.mod(I:Inv X pins J H s):Mod X.K X.g X.b:=I.o.mod
theorem Inv.kIn(I:Inv X pins J H s):X.K.In s.heap:=I.o.mod.kin.keeps I.bk
theorem Inv.fr(I:Inv X pins J H s):∃m,Fr X.b X.e.locals s.heap m:=
 let ⟨m,h,_⟩:=I.loc
 ⟨m,h,I.bk,aI I.o.bsz I.o.above⟩
theorem Inv.lt(I:Inv X pins J H s):X.e.locals < s.heap.objs.size:=let ⟨_,h,_⟩:=I.loc;h.lt
theorem Inv.sz(I:Inv X pins J H s):X.z.heap.objs.size≤s.heap.objs.size:=aI I.o.above (i4 I.lt)
theorem Inv.nofs(I:Inv X pins J H s)(h:s.heap.objs.size≤a):a ∉ X.fs:=λb=>by obtain⟨_,o,x,_⟩:=I.o.funs.mem b;exact absurd (cg (aJ x) (aI I.sz h)) (jG _)
theorem Inv.cne(I:Inv X pins J H s):∀x c,X.e.cells.lookup x=some c->c≠X.e.locals:=λx c e z=>by obtain⟨v,o,n,hd⟩:=I.cell x c e;obtain⟨m,⟨o',es,p,a,h,_⟩,_⟩:=I.loc;rw[z,a]at n;cases n;rw[h]at hd;cases hd
theorem Inv.funs(I:Inv X pins J H s):s.heap.FunFrames X.b X.o:=by
 have all:∀(l:List Env),(∀b ∈ GD l,b ∈ X.fs)->X.z.heap.FunFrames X.b l->s.heap.FunFrames X.b l:=by
  intro l;induction l with
  |nil=>intro _ _;trivial
  |cons n r i=>
   intro a k;obtain⟨hk,⟨L,o,f,c,m,hd⟩,t⟩:=k;have h:L ∈ X.fs:=a L (by unfold GD;rw[nE,f];exact aF);obtain⟨p,e⟩:=I.base.slot L o m (I.o.frf L h) h λz=>I.o.exfs L z h
   exact⟨hk,⟨L,_,f,c,e,hd⟩,i (λb x=>a b (by unfold GD;rw[nE,f];exact aH _ x)) t⟩
 exact all X.o (λ_ x=>x) I.o.funs
theorem Inv.stack(I:Inv X pins J H s):s.heap.FunFrames X.b X.k:=by
 rcases I.o.stk with e|⟨e,h⟩
 .rw [e];exact I.funs
 .rw [e];obtain⟨m,n,_⟩:=I.loc;refine .cons (by rw[I.o.kind];decide) h n ?_ I.funs;exact Heap.get?_none_of_le (aI I.o.bsz I.o.above)
theorem Inv.stkSub(I:Inv X pins J H s):∀b ∈ GD X.k,b ∈ X.e.locals::X.fs:=λb h=>by
 rcases I.o.stk with e|⟨e,f⟩
 .rw [e]at h;exact aH _ h
 .rw [e]at h;unfold GD at h;rw[nE,f]at h;exact h
theorem Inv.stkFree(I:Inv X pins J H s):∀b ∈ GD X.k,H b=none:=λb h=>by
 rcases aQ.mp (I.stkSub b h) with e|h
 .rw [e];exact I.free
 .obtain⟨_,o,x,_⟩:=I.o.funs.mem h;exact I.base.free b o x (I.o.frf b h) λz=>I.o.exfs b z h
theorem Inv.step{g':Array GenState}{t':Nat}{d':Drawn}{ch:List Addr}(I:Inv X pins J H s)
  (a:∀b ∈ ch,(b ∈ X.ex\/X.z.heap.objs.size≤b)/\b≠X.e.locals/\(∀x c,X.e.cells.lookup x=some c->c≠b)/\∀p ∈ X.pn++pins,p.1≠b)
  (t:∀b o,b≠X.e.locals->b ∉ X.fs->b ∉ ch->s.heap.get? b=some o->H b=none->h'.get? b=some o)
  (slot:∀b o,b≠X.e.locals->b ∈ X.fs->b ∉ ch->s.heap.get? b=some o->H b=none->∃E,h'.get? b=some { o with slots:=E }) (f:∀b o,b ∉ ch->s.heap.get? b=some o->H b=none->H' b=none)
  (y:∀b o,b ∉ ch->s.heap.get? b=some o->∃o',h'.get? b=some o')
  (B:∀b xs,H b=some (.tup xs)->H' b=some (.tup xs)) (P:∀b o u,H b=some (.frz o u)->H' b=some (.frz o u)) (A:∀b ps,H b=some (.tbl ps)->∃more,H' b=some (.tbl (ps++more)))
  (ns:∀m,s.heap.Ns X.e.locals m->h'.Ns X.e.locals m) (D:mh X.p X.w H' h') (V:AllBare g') :
  Inv X pins J H' { s with heap:=h',gens:=g',drawn:=d',toks:=t' }:=by
 have L:∀b o,X.z.heap.get? b=some o->b≠X.e.locals:=λb o e=>bK (cg (aJ e) I.o.above);have C:∀b o,X.z.heap.get? b=some o->b ∉ X.ex->b ∉ ch:=λb o e h j=>by
  rcases(a b j).1 with z|z
  .exact h z
  .exact absurd (cg (aJ e) z) (jG _)
 have K:∀x c,X.e.cells.lookup x=some c->∀v,s.heap.IsCell c v->h'.IsCell c v:=λx c e v hz=>by
  obtain⟨o,S,hd⟩:=hz;have w:c ∉ ch:=λz=>(a c z).2.2.1 x c e rfl;by_cases M:c ∈ X.fs
  .obtain⟨E,q⟩:=slot c o (I.cne x c e) M w S (I.freeC x c e);exact⟨_,q,hd⟩
  .exact⟨o,t c o (I.cne x c e) M w S (I.freeC x c e),hd⟩
 refine⟨I.o,I.os,V,⟨λb o e n j h=>?_,λb o e n j h=>?_,λb o e n h=>?_,λb o e h=>?_,λb xs e=>B b xs (I.base.tups b xs e),λb o xs e=>P b o xs (I.base.frzs b o xs e),λb ps e=>?_⟩,?_,λx c e=>?_,?_,λx c e=>?_,λp N=>?_,D,I.len⟩
 .exact t b o (L b o e) j (C b o e h) (I.base.keep b o e n j h) (I.base.free b o e n h)
 .obtain⟨E,g⟩:=I.base.slot b o e n j h;obtain⟨G,F⟩:=slot b _ (L b o e) j (C b o e h) g (I.base.free b o e n h);exact⟨G,F⟩
 .obtain⟨o',g⟩:=I.base.there b o e h;exact f b o' (C b o e h) g (I.base.free b o e n h)
 .obtain⟨o',g⟩:=I.base.there b o e h;exact y b o' (C b o e h) g
 .obtain⟨m1,g⟩:=I.base.tbls b ps e;obtain⟨m2,F⟩:=A b _ g;exact⟨m1++m2,by rw[F,Array.append_assoc]⟩
 .obtain⟨m,Z,W⟩:=I.loc;refine⟨m,ns m Z,λi x v g F T=>?_⟩;obtain⟨u,r,l⟩:=W i x v g F T;refine⟨u,r,?_⟩;rcases l with l|⟨k,c,e,z⟩
  .exact .inl l
  .exact .inr ⟨k,c,e,K x c e _ z⟩
 .obtain⟨v,z⟩:=I.cell x c e;exact⟨v,K x c e v z⟩
 .obtain⟨m,⟨o,_,_,S,_⟩,_⟩:=I.loc;exact f _ o (λz=>(a _ z).2.1 rfl) S I.free
 .obtain⟨v,o,S,hd⟩:=I.cell x c e;exact f c o (λz=>(a c z).2.2.1 x c e rfl) S (I.freeC x c e)
 .obtain⟨e,n,Q,R,d⟩:=I.pin p N;have w:p.1 ∉ ch:=λz=>(a p.1 z).2.2.2 p N rfl;exact⟨t p.1 p.2 Q R w e n,f p.1 p.2 w e n,Q,R,d⟩
theorem Inv.un{t':Nat}(I:Inv X pins J H s)(u:Un X.fs [] H H' s.heap h')(k:mh X.p X.w H' h'):Inv X pins J H' { s with heap:=h',toks:=t' }:=by
 obtain⟨m,⟨o,es,q,f,r⟩,_⟩:=id I.loc;obtain⟨l,L⟩:=u.any f I.free (by simp);exact I.step (g':=s.gens) (d':=s.drawn) (ch:=[]) (λ_ z=>nomatch z) (λb o _ a _ e n=>u.keep b o e n a (by simp)) (λb o _ a _ e n=>u.slot b o e n a (by simp)) (λb o _ e n=>u.free b o e n (by simp)) (λb o _ e=>u.there b o e (by simp)) u.tups u.frzs u.tbls (λv c=>by obtain⟨o',x,p,h,t⟩:=c;rw[f]at h;cases h;exact⟨_,x,p,L,t⟩) k I.bare
theorem Inv.call{g':Array GenState}{t':Nat}{d':Drawn}{ch:List Addr}(I:Inv X pins J H s)(u:Un (GD X.k) ch H H' s.heap h')(q:mh X.p X.w H' h')(g:AllBare g')
  (a:∀b ∈ ch,(b ∈ X.ex\/X.z.heap.objs.size≤b)/\b≠X.e.locals/\(∀x c,X.e.cells.lookup x=some c->c≠b)/\∀p ∈ X.pn++pins,p.1≠b) :
  Inv X pins J H' { s with heap:=h',gens:=g',drawn:=d',toks:=t' }:=by
 obtain⟨m,⟨o,es,j,v,r⟩,_⟩:=id I.loc;obtain⟨y,L⟩:=u.any v I.free λz=>(a _ z).2.1 rfl;exact I.step (ch:=ch) a (λb o L d h e n=>u.keep b o e n (λz=>(aQ.mp (I.stkSub b z)).elim L d) h) (λb o _ _ h e n=>u.any e n h) (λb o h e n=>u.free b o e n h) (λb o h e=>u.there b o e h) u.tups u.frzs u.tbls (λl w=>by obtain⟨o',t,f,k,i⟩:=w;rw[v]at k;cases k;exact⟨_,t,f,L,i⟩) q g
theorem Inv.turned{t':Nat}{i:Addr}(I:Inv X pins J H s)(k:∀b o,b≠i->s.heap.get? b=some o->h'.get? b=some o)(g:H i=none)(L:i≠X.e.locals)
  (h1:i ∈ X.ex\/X.z.heap.objs.size≤i) (h2:∀x c,X.e.cells.lookup x=some c->c≠i) (f:∀p ∈ X.pn++pins,p.1≠i):Inv X pins J H { s with heap:=h',toks:=t' }:=by
 have t:∀b u,H b=some u->b≠i:=λb u e z=>by rw[z,g]at e;cases e
 refine I.step (g':=s.gens) (d':=s.drawn) (ch:=[i]) (λb d=>?_) (λb o _ _ h e _=>k b o (λz=>h (by simp[z])) e) (λb o _ _ h e _=>⟨o.slots,k b o (λz=>h (by simp[z])) e⟩) (λ_ _ _ _ n=>n)
  (λb o h e=>⟨o,k b o (λz=>h (by simp[z])) e⟩) (λ_ _ e=>e) (λ_ _ _ e=>e) (λb ps e=>⟨#[],by rw[e];simp⟩) (λm w=>?_) (λb u e=>?_) I.bare
 .have e:b=i:=by simpa using d
  subst e;exact⟨h1,L,h2,f⟩
 .obtain⟨o,es,a,j,r⟩:=w;exact⟨o,es,a,k _ o (aS L) j,r⟩
 .refine (I.h b u e).stay (λc v h q=>k c v ?_ q) (λ_ q=>q) λ_ _ q=>q;rcases h with z|z
  .rw [z];exact t b u e
  .exact t c _ z
theorem Inv.tok(I:Inv X pins J H s)(t:Nat):Inv X pins J H { s with toks:=t }:=I.un (h':=s.heap) (t':=t) Un.refl I.h
theorem Inv.kept{t':Nat}(I:Inv X pins J H s)(k:∀b u,s.heap.get? b=some u->h'.get? b=some u):Inv X pins J H { s with heap:=h',toks:=t' }:=I.un (Un.kept k) (I.h.kept k)
theorem Inv.laid{a:Addr}{o:HO}{t':Nat}(I:Inv X pins J H s)(k:∀b u,s.heap.get? b=some u->h'.get? b=some u)(h:s.heap.objs.size≤a)(n:dC X.p X.w (cq H a o) h' a o) :
  Inv X pins J (cq H a o) { s with heap:=h',toks:=t' }:=I.un (Un.laid k h (I.h.fresh h)) (I.h.laid k h n)
theorem Inv.write{x e:Addr}{o:HO}{t:Nat}(I:Inv X pins J H s)(m:Qy (H x))(a:e=x\/H e=some (.own x))(k:∀b u,b≠e->s.heap.get? b=some u->h'.get? b=some u)(h:∃u,h'.get? e=some u)
  (n:dC X.p X.w (cq H x o) h' x o):Inv X pins J (cq H x o) { s with heap:=h',toks:=t }:=I.un (Un.write m a k h) (I.h.write m a k h n)
theorem Inv.pins_of(I:Inv X pins J H s)(h:∀p ∈ q,s.heap.get? p.1=some p.2/\H p.1=none/\p.1≠X.e.locals/\p.1 ∉ X.fs/\∀v,p.2.data≠.cell v):Inv X q J H s:=
 ⟨I.o,I.os,I.bare,I.base,I.loc,I.cell,I.free,I.freeC,λp x=>(cI.mp x).elim (λz=>I.pin p (nG _ z)) (h p),I.h,I.len⟩
theorem xn{N:LS}(s:N.Nodup){i j:Nat}{x:Str}(a:N[i]? = some x)(b:N[j]? = some x):i=j:=by obtain⟨h1,e⟩:=bO.mp a;obtain⟨h2,h⟩:=bO.mp b;exact(List.getElem_inj s).mp (e.trans h.symm)
theorem ud{M:Model}{A:Around}{E:VP}{i:Nat}{x:Str}{v:V}{u:Value}{Q:Unit->Shared->Prop}(I:Inv X pins J H s)(hN:X.N.Nodup)(hi:X.N[i]? = some x)(l:Loc X.e.scope x)(r:RelV v u)
  (h:∀s',Inv X pins (J.set i (some v)) H s'->(∃a,fw a s.heap s'.heap/\(a=X.e.locals\/X.e.cells.lookup x=some a))->Q () s') (hf:X.fn x=true\/X.e.scope.names.lookup x=some .local:=by first|exact .inl rfl|exact .inr rfl|assumption):wpAny M A (storeName X.e x u) Q E s:=by
 obtain⟨m,hn,hl⟩:=id I.loc;have L:(X.e.scope.kind == .class ||(X.e.scope.kind == .module && X.e.locals != X.e.globals))=false:=by rw[I.o.kind];rfl
 have N:i < J.length:=by rw[I.len];exact(bO.mp hi).1
 have K:=I.cne;have w:∀{a:Addr}{h':Heap},(∃o,s.heap.get? a=some o/\H a=none)->fw a s.heap h'->mh X.p X.w H h':=λ{a h'} ha f b ob e=>by
  obtain⟨_,_,S⟩:=ha;refine(I.h b ob e).stay (λc w' g q=>(f.2 c ?_).trans q) (λ_ q=>q) λ_ _ q=>q;rintro rfl;rcases g with rfl|g
  .rw [S]at e;cases e
  .rw [S]at g;cases g
 rcases l with hk|hk
 .refine wpAny_storeName_local hk hn (λh' hn' f=>?_) L;obtain⟨oL,_,_,hoL,_⟩:=id hn;refine h _ ⟨I.o,I.os,I.bare,⟨λb o e n P l=>?_,λb o e n P l=>?_,I.base.free,λb o e l=>?_,I.base.tups,I.base.frzs,I.base.tbls⟩,⟨_,hn',λj y v' t F e3=>?_⟩,λy c e=>?_,I.free,I.freeC,λp hp=>?_,w ⟨oL,hoL,I.free⟩ f,by simpa using I.len⟩ ⟨_,f,.inl rfl⟩
  .exact (f.2 b (bK (cg (aJ e) I.o.above))).trans (I.base.keep b o e n P l)
  .obtain⟨sl,t⟩:=I.base.slot b o e n P l;exact⟨sl,(f.2 b (bK (cg (aJ e) I.o.above))).trans t⟩
  .obtain⟨o',t⟩:=I.base.there b o e l;exact⟨o',(f.2 b (bK (cg (aJ e) I.o.above))).trans t⟩
  .by_cases C:j=i
   .subst C;rw[hi]at t;cases t;rw[cj N]at F;cases F;exact⟨u,r,.inl ⟨hk,by simp⟩⟩
   .rw [aO (aS C)]at F;obtain⟨u',r',q⟩:=hl j y v' t F e3;refine⟨u',r',?_⟩;rcases q with ⟨k,e⟩|⟨k,c,e,z⟩
    .refine .inl ⟨k,?_⟩;have:y≠x:=λe=>C (xn hN t (e ▸ hi));simp[this,e]
    .exact .inr ⟨k,c,e,z.sameBut f (K y c e)⟩
  .obtain⟨w',z⟩:=I.cell y c e;exact⟨w',z.sameBut f (K y c e)⟩
  .obtain⟨e,n,Z,nf,d⟩:=I.pin p hp;exact⟨(f.2 p.1 Z).trans e,n,Z,nf,d⟩
 .have B:X.fn x=true:=by
   rcases hf with z|z
   .exact z
   .rw [z]at hk;cases hk
  obtain⟨c,g⟩:=I.o.has x (.inl hk);obtain⟨w',z⟩:=I.cell x c g;refine wpAny_storeName_cell I.o.kind hk g z (λh' D f=>?_);obtain⟨oc,R,T⟩:=id z;refine h { s with heap:=h' } ⟨I.o,I.os,I.bare,⟨λb o e n P l=>?_,λb o e n P l=>?_,I.base.free,λb o e l=>?_,I.base.tups,I.base.frzs,I.base.tbls⟩,⟨m,hn.sameBut f (aS (K x c g)),λj y v' t F e3=>?_⟩,λy W e=>?_,I.free,I.freeC,λp hp=>?_,w ⟨oc,R,I.freeC x c g⟩ f,by simpa using I.len⟩ ⟨c,f,.inr g⟩
  .exact (f.2 b (bK (cg (aJ e) (I.o.cab x c B g)))).trans (I.base.keep b o e n P l)
  .obtain⟨sl,t⟩:=I.base.slot b o e n P l;exact⟨sl,(f.2 b (bK (cg (aJ e) (I.o.cab x c B g)))).trans t⟩
  .obtain⟨o',t⟩:=I.base.there b o e l;exact⟨o',(f.2 b (bK (cg (aJ e) (I.o.cab x c B g)))).trans t⟩
  .by_cases C:j=i
   .subst C;rw[hi]at t;cases t;rw[cj N]at F;cases F;exact⟨u,r,.inr ⟨.inl hk,c,g,D⟩⟩
   .rw [aO (aS C)]at F;obtain⟨u',r',q⟩:=hl j y v' t F e3;refine⟨u',r',?_⟩;rcases q with q|⟨k,W,e,z'⟩
    .exact .inl q
    .refine .inr ⟨k,W,e,z'.sameBut f ?_⟩;rintro rfl;exact C (xn hN t (I.o.inj _ _ _ e g ▸ hi))
  .by_cases G:W=c
   .subst G;exact⟨_,D⟩
   .obtain⟨w2,z2⟩:=I.cell y W e;exact⟨w2,z2.sameBut f G⟩
  .obtain⟨e,n,Z,nf,d⟩:=I.pin p hp;refine⟨(f.2 p.1 ?_).trans e,n,Z,nf,d⟩;intro q;rw[q,R]at e;have q':oc=p.2:=dH e;exact d w' (by rw[<- q'];exact T)
theorem sf(I:Inv X pins J H s)(N:X.N.Nodup)(hi:X.N[i]? = some x)(e:Loc X.e.scope x)(r:RelV v u)
  (h:∀s',Inv X pins (J.set i (some v)) H s'->Q () s') (f:X.fn x=true\/X.e.scope.names.lookup x=some .local:=by first|exact .inl rfl|exact .inr rfl|assumption):wpAny M A (storeName X.e x u) Q E s:=
 ud I N hi e r (λs' a _=>h s' a) f
theorem Inv.call'(I:Inv X pins J H s)(n:s'.os=s.os)(u:Un (GD X.k) q H H' s.heap s'.heap)(o:mh X.p X.w H' s'.heap)(a:AllBare s'.gens)
  (h:∀b ∈ q,(b ∈ X.ex\/X.z.heap.objs.size≤b)/\b≠X.e.locals/\(∀x c,X.e.cells.lookup x=some c->c≠b)/\∀p ∈ X.pn++pins,p.1≠b):Inv X pins J H' s':=by
 obtain⟨h',g,d,t,o'⟩:=s';have e:o'=s.os:=n;subst e;exact I.call (g':=g) (t':=t) (d':=d) u o a h
end
noncomputable abbrev XK:=Value->Option Addr->Hp->Prop
noncomputable abbrev St:=List (Option V)
noncomputable abbrev VK:=V->Hp->Prop
noncomputable abbrev TE:=St->Hp->VK->Prop
noncomputable abbrev TT:=St->Hp->(Bool->Hp->Prop)->Prop
noncomputable abbrev TA:=St->Hp->(List V->Hp->Prop)->Prop
structure Ends where
 nx:St->Hp->Prop
 rt:VK
 bk:St->Hp->Prop:=λ_ _=>False
 ct:St->Hp->Prop:=λ_ _=>False
noncomputable abbrev TS:=Ends->St->Hp->Prop
def EP(X:Cx)(pins:PN)(J:St)(Q:VK)(u:Value)(s':Shared):Prop:=∃v H',Inv X pins J H' s'/\RelV v u/\Q v H'
def TP(X:Cx)(pins:PN)(J:St)(Q:Bool->Hp->Prop)(b:Bool)(s':Shared):Prop:=∃H',Inv X pins J H' s'/\Q b H'
def AP(X:Cx)(pins:PN)(J:St)(Q:List V->Hp->Prop)(j:LV)(s':Shared):Prop:=∃v H',Inv X pins J H' s'/\bb v j/\Q v H'
def SP(X:Cx)(pins:PN)(D:Ends)(f:Flow)(s':Shared):Prop:=
 match f with
 | .next=>∃h H',Inv X pins h H' s'/\D.nx h H'
 | .brk=>∃h H',Inv X pins h H' s'/\D.bk h H'
 | .cont=>∃h H',Inv X pins h H' s'/\D.ct h H'
 | .ret u=>∃v h H',Inv X pins h H' s'/\RelV v u/\D.rt v H'
variable{α:Type}
noncomputable abbrev wx(X:Cx)(m:Sem α):=wpAny (model X.p X.w) X.A m
def PE(X:Cx)(e:Expr)(t:TE):Prop:=
 ∀(pins:PN)(s:Shared)(J:St)(H:Hp)(Q:VK),Inv X pins J H s->t J H Q->wx X (eval e X.e) (EP X pins J Q) X.xe s
def PT(X:Cx)(e:Expr)(t:TT):Prop:=
 ∀(pins:PN)(s:Shared)(J:St)(H:Hp)(Q:Bool->Hp->Prop),Inv X pins J H s->t J H Q->wx X (isTrue e X.e (eval e X.e)) (TP X pins J Q) X.xe s
def PW(X:Cx)(e:Expr)(t:TT):Prop:=
 ∀(w:Sem Value)(pins:PN)(s:Shared)(J:St)(H:Hp)(Q:Bool->Hp->Prop),Inv X pins J H s->t J H Q->wx X (isTrue e X.e w) (TP X pins J Q) X.xe s
variable{X:Cx}{e:Expr}
theorem PW.pt(h:PW X e t):PT X e t:=h _
def PA(X:Cx)(es:Ab)(t:TA):Prop:=
 ∀(B:Pos)(pins:PN)(s:Shared)(J:St)(H:Hp)(Q:List V->Hp->Prop),Inv X pins J H s->t J H Q->wx X (spliced (backTo B (starEach es X.e))) (AP X pins J Q) X.xe s
def PS(X:Cx)(st:Stmt)(t:TS):Prop:=
 ∀(pins:PN)(s:Shared)(J:St)(H:Hp)(D:Ends),Inv X pins J H s->t D J H->wx X (exec st X.e) (SP X pins D) X.xe s
def qc(X:Cx)(st:List Stmt)(t:TS):Prop:=
 ∀(pins:PN)(s:Shared)(J:St)(H:Hp)(D:Ends),Inv X pins J H s->t D J H->wx X (execs st X.e) (SP X pins D) X.xe s
variable{M:Model}{A:Around}{E:VP}{s:Shared}
theorem c_(h:wpAny M A t Q E s)(e:∀a s,Q a s->q a s):wpAny M A t q E s:=cM h e λ_ _ x=>x
section
variable{X:Cx}
noncomputable def RH(i:Nat):TE:=λJ H Q=>∃v,J[i]? = some (some v)/\Q v H
noncomputable def tC(v:V):TE:=λ_ H Q=>Q v H
theorem Mh(N:X.N[i]? = some x)(p:Nz X.e.scope x)(hd:(x == ("__debug__":Str))=false:=by decide)(d:(x == ("__classdict__":Str))=false:=by decide):PE X (.Name x B) (RH i):=by
 intro pins s J H Q I h;obtain⟨v,e,h⟩:=h;obtain⟨m,t,k⟩:=I.loc;obtain⟨u,r,l⟩:=k i x v N e p;have f:EP X pins J Q u s:=⟨v,H,I,r,h⟩;rcases l with ⟨hk,b⟩|⟨hk,c,n,a⟩
 .exact yh (D5 I.o.kind hk t b f) hd
 .rcases hk with hk|hk
  .exact yh (D4 I.o.kind hk n a f) hd
  .exact yh (wpAny_loadName_free I.o.kind hk n a f d) hd
theorem Mm {i q B}:PE X (.Constant (.int i) q B) (tC (.int i)):=λ_ _ _ H _ I h=>wpAny_Constant_int ⟨.int i,H,I.tok _,⟨_,rfl⟩,h⟩
theorem O4 {b q B}:PE X (.Constant (.bool b) q B) (tC (.bl b)):=λ_ _ _ H _ I h=>Constant_bool ⟨.bl b,H,I,rfl,h⟩
theorem Ml {q B}:PE X (.Constant .none q B) (tC .non):=λ_ _ _ H _ I h=>Constant_none ⟨.non,H,I,rfl,h⟩
theorem Mi {x q B}:PE X (.Constant (.str x) q B) (tC (.str x)):=λ_ _ _ H _ I h=>Calls.Constant_str ⟨.str x,H,I.tok _,⟨_,rfl⟩,h⟩
def Gl(X:Cx)(x:Str):Prop:=X.e.kindOf x=some .globalImplicit
theorem wd(I:Inv X pins J H s)(g:Gl X x)(m:X.g x=some u)(h:Q u s)
  (hd:(x == ("__debug__":Str))=false:=by decide):wx X (eval (.Name x B) X.e) Q E s:=
 Au I.o.kind g (Calls.loadGlobal_global (by rw[I.o.glob];exact I.mod.glob.keeps I.bk) m h) hd
theorem lC(I:Inv X pins J H s)(g:Gl X x)(m:X.g x=none)(v:bootBuiltins x=some u)(h:Q u s)
  (n:x≠"__name__":=by decide) (hd:(x == ("__debug__":Str))=false:=by decide):wx X (eval (.Name x B) X.e) Q E s:=by
 obtain⟨b,h1,h2⟩:=I.mod.blt;exact Au I.o.kind g (Calls.loadGlobal_builtin (by rw[I.o.glob];exact I.mod.glob.keeps I.bk) m (by rw[I.o.blt];exact h1.keeps I.bk) ((h2 x n).trans v) h) hd
theorem Jh(g:Gl X x)(m:X.g x=some u)(r:RelV v u)(hd:(x == ("__debug__":Str))=false:=by decide):PE X (.Name x B) (tC v):=
 λ_ _ _ H _ I h=>wd I g m ⟨v,H,I,r,h⟩ hd
theorem Ji(g:Gl X x)(m:X.g x=none)(a:bootBuiltins x=some u)(r:RelV v u)(n:x≠"__name__":=by decide)(hd:(x == ("__debug__":Str))=false:=by decide):PE X (.Name x B) (tC v):=
 λ_ _ _ H _ I h=>lC I g m a ⟨v,H,I,r,h⟩ n hd
variable{a b:Expr}{ta tb:TE}{B:Pos}
variable{tA tB':TT}{rest:Ab}
noncomputable def RW(t u:TT):TT:=λJ H Q=>t J H λc G=>if c=true then u J G Q else Q false G
noncomputable def T7(t u:TT):TT:=λJ H Q=>t J H λc G=>if c=true then Q true G else u J G Q
noncomputable def RN(t:TT):TT:=λJ H Q=>t J H λc G=>Q (!c) G
theorem IT(x:PT X a tA):PW X (.BoolOp .And [a] B) tA:=by
 intro w pins s J H Q I h;refine isTrue_and (c_ (x pins s J H Q I h) λc n e=>?_);cases c with
 |true=>exact isTrue_and_nil e
 |false=>exact e
theorem L5(x:PT X a tA):PW X (.BoolOp .Or [a] B) tA:=by
 intro w pins s J H Q I h;refine isTrue_or (c_ (x pins s J H Q I h) λc n e=>?_);cases c with
 |false=>exact isTrue_or_nil e
 |true=>exact e
theorem L6(e:PT X a tA)(n:PW X (.BoolOp .And (b::rest) B) tB'):PW X (.BoolOp .And (a::b::rest) B) (RW tA tB'):=by
 intro w pins s J H Q I h;refine isTrue_and (c_ (e pins s J H _ I h) λc k z=>?_);obtain⟨G,x,q⟩:=z;cases c with
 |true=>exact n w pins k J G Q x q
 |false=>exact⟨G,x,q⟩
theorem OY(e:PT X a tA)(n:PW X (.BoolOp .Or (b::rest) B) tB'):PW X (.BoolOp .Or (a::b::rest) B) (T7 tA tB'):=by
 intro w pins s J H Q I h;refine isTrue_or (c_ (e pins s J H _ I h) λc k z=>?_);obtain⟨G,x,q⟩:=z;cases c with
 |true=>exact⟨G,x,q⟩
 |false=>exact n w pins k J G Q x q
theorem L7(x:PT X a tA):PT X (.UnaryOp .Not a B) (RN tA):=by intro pins s J H Q I h;exact isTrue_not (x pins s J H (λc G=>Q (!c) G) I h)
noncomputable def OJ(ta tb:TE):TE:=λJ H Q=>ta J H λx G=>∃c,x=.bl c/\if c=true then tb J G Q else Q (.bl false) G
noncomputable def RM(ta tb:TE):TE:=λJ H Q=>ta J H λx G=>∃c,x=.bl c/\if c=true then Q (.bl true) G else tb J G Q
noncomputable def OB(ta:TE):TE:=λJ H Q=>ta J H λx G=>∃c,x=.bl c/\Q (.bl (!c)) G
theorem Fq {q} (h:PE X a t):PE X (.BoolOp q [a] B) t:=λpins s J H Q I hw=>BoolOp_one (h pins s J H Q I hw)
theorem Mo(n:PE X a ta)(k:PE X (.BoolOp .And (b::rest) B) tb):PE X (.BoolOp .And (a::b::rest) B) (OJ ta tb):=by
 intro pins s J H Q I h;refine BoolOp_and (c_ (n pins s J H _ I h) λv f z=>?_);obtain⟨x,G,e,r,q⟩:=z;obtain⟨c,rfl,q⟩:=q;cases r;refine lr ?_;cases c with
 |true=>exact k pins f J G Q e q
 |false=>exact⟨.bl false,G,e,rfl,q⟩
theorem O3(n:PE X a ta)(k:PE X (.BoolOp .Or (b::rest) B) tb):PE X (.BoolOp .Or (a::b::rest) B) (RM ta tb):=by
 intro pins s J H Q I h;refine BoolOp_or (c_ (n pins s J H _ I h) λv f z=>?_);obtain⟨x,G,e,r,q⟩:=z;obtain⟨c,rfl,q⟩:=q;cases r;refine lr ?_;cases c with
 |false=>exact k pins f J G Q e q
 |true=>exact⟨.bl true,G,e,rfl,q⟩
theorem Mj(n:PE X a ta):PE X (.UnaryOp .Not a B) (OB ta):=by intro pins s J H Q I h;refine uT (c_ (n pins s J H _ I h) λv k z=>?_);obtain⟨x,G,e,r,q⟩:=z;obtain⟨c,rfl,q⟩:=q;cases r;exact not_of (lr ⟨.bl (!c),G,e,rfl,q⟩)
noncomputable def T8(t:TT)(ta tb:TE):TE:=λJ H Q=>t J H λc G=>if c=true then ta J G Q else tb J G Q
theorem xf(f:PT X c tA)(n:PE X a ta)(k:PE X b tb):PE X (.IfExp c a b B) (T8 tA ta tb):=by
 intro pins s J H Q I h;refine wpAny_IfExp (c_ (f pins s J H _ I h) λd e z=>?_);obtain⟨G,x,q⟩:=z;cases d with
 |true=>exact n pins e J G Q x q
 |false=>exact k pins e J G Q x q
end
def g0(K:FG)(H:Hp)(a:Addr)(xs:List V):Prop:=
 Rd H a (.lst xs) \/
  ∃(o:Obj)(i:Array Value)(n:Nat),K.lookup a=some o/\o.cls=.type "list"/\o.dict=none/\o.data=.seq i n/\i.size≤sizeLine/\bb xs i.toList
def p'(K:FG)(H:Hp)(a:Addr)(xs:List V):Prop:=
 Rd H a (.tup xs) \/
  ∃(o:Obj)(i:Array Value)(n:Nat),K.lookup a=some o/\o.cls=.type "tuple"/\o.dict=none/\o.data=.seq i n/\i.size≤sizeLine/\bb xs i.toList
noncomputable def SR:Value->Option V
 | .none=>some .non
 | .bool b=>some (.bl b)
 | .int i _=>some (.int i)
 | .str x _=>some (.str x)
 | .bytes b _=>some (.byt b)
 | .float b _=>some (.flt b)
 | .ref a=>some (.ref a)
 | .type n=>some (.ty n)
 |_=>none
theorem RelV.abs(r:RelV x u):SR u=some x:=by
 cases x with
 |non=>cases r;rfl
 |bl _=>cases r;rfl
 |int _=>obtain⟨t,rfl⟩:=r;rfl
 |str _=>obtain⟨t,rfl⟩:=r;rfl
 |byt _=>obtain⟨t,rfl⟩:=r;rfl
 |flt _=>obtain⟨t,rfl⟩:=r;rfl
 |ref _=>cases r;rfl
 |ty _=>cases r;rfl
variable{y:V}
theorem RelV.inj(r:RelV x u)(q:RelV y u):x=y:=dH (r.abs.symm.trans q.abs)
theorem bb.inj:∀{xs ys:List V}{j:LV},bb xs j->bb ys j->xs=ys
 |_,_,_,.nil,.nil=>rfl
 |_,_,_,.cons r t,.cons h x=>by rw[r.inj h,bb.inj t x]
section
variable{X:Cx}{pins:PN}{J:St}{H:Hp}{s:Shared}{a:Addr}{xs ys:List V}
theorem g0.of{K:FG}(h:H a=some (.lst xs)):g0 K H a xs:=.inl (.inl h)
theorem Inv.list(I:Inv X pins J H s)(h:g0 X.K H a xs):∃i:LV,bb xs i/\PlainL s.heap a i.toArray/\xs.length≤sizeLine:=by
 rcases h with h|⟨o,i,n,hk,c,hd,x,k,r⟩
 .obtain⟨z,i,n,r,e⟩:=h.ok I.h;exact⟨i,r,⟨_,n,e,rfl,rfl,rfl⟩,z⟩
 .refine⟨i.toList,r,⟨o,n,I.kIn a o hk,c,hd,by simpa using x⟩,?_⟩;have e:=r.length;simp only[nI]at e;lia
theorem Inv.tuple(I:Inv X pins J H s)(h:p' X.K H a xs):∃i:LV,bb xs i/\IsTup s.heap a i.toArray/\xs.length≤sizeLine:=by
 rcases h with h|⟨o,i,n,hk,c,_,x,k,r⟩
 .obtain⟨z,i,r,p⟩:=h.ok I.h;exact⟨i,r,p.tup,z⟩
 .refine⟨i.toList,r,⟨o,I.kIn a o hk,c,n,by simpa using x⟩,?_⟩;have e:=r.length;simp only[nI]at e;lia
theorem Inv.tupleN(I:Inv X pins J H s)(h:p' X.K H a xs):∃its:LV,bb xs its/\pq s.heap a its.toArray:=by
 rcases h with q|⟨ob,vs,m,e1,e2,e3,e4,_,rv⟩
 .exact⟨_,(q.ok I.h).2.choose_spec⟩
 .exact⟨vs.toList,rv,ob,I.kIn a ob e1,⟨e2,m,by simpa using e4⟩,e3⟩
theorem Inv.list_inj(I:Inv X pins J H s)(h:g0 X.K H a xs)(h':g0 X.K H a ys):xs=ys:=by
 obtain⟨t,r,⟨o,n,e,_,_,d⟩,_⟩:=I.list h;obtain⟨i,b,⟨o',c,k,_,_,x⟩,_⟩:=I.list h';rw[e]at k;cases k;rw[d]at x;injection x with f _;have:t=i:=by simpa using dh vD f
 subst this;exact r.inj b
theorem Inv.tuple_inj(I:Inv X pins J H s)(h:p' X.K H a xs)(h':p' X.K H a ys):xs=ys:=by
 obtain⟨t,r,⟨o,e,_,n,d⟩,_⟩:=I.tuple h;obtain⟨i,b,⟨o',k,_,c,x⟩,_⟩:=I.tuple h';rw[e]at k;cases k;rw[d]at x;injection x with f _;have:t=i:=by simpa using dh vD f
 subst this;exact r.inj b
end
noncomputable abbrev Cx.wish(X:Cx)(E:VP):Cx:={ X with xe:=E }
abbrev Cx.nox(X:Cx):Cx:=X.wish λ_ _=>False
theorem Cx.Ok.wish(ok:X.Ok)(E:VP):(X.wish E).Ok:=
 ⟨ok.mod,ok.kind,ok.glob,ok.blt,ok.above,ok.inj,ok.has,ok.cab,ok.hd,ok.frames,ok.stk,ok.exf,ok.bs,ok.bsz,ok.noex,ok.exfs,ok.funs,ok.frf⟩
theorem Cx.Ok.unwish(ok:(X.wish E).Ok):X.Ok:=
 ⟨ok.mod,ok.kind,ok.glob,ok.blt,ok.above,ok.inj,ok.has,ok.cab,ok.hd,ok.frames,ok.stk,ok.exf,ok.bs,ok.bsz,ok.noex,ok.exfs,ok.funs,ok.frf⟩
section
variable{X:Cx}{pins:PN}{J:St}{H:Hp}{s:Shared}{E:VP}
theorem Inv.wish(I:Inv X pins J H s)(E:VP):Inv (X.wish E) pins J H s:=⟨I.o.wish E,I.os,I.bare,I.base,I.loc,I.cell,I.free,I.freeC,I.pin,I.h,I.len⟩
theorem Inv.unwish(I:Inv (X.wish E) pins J H s):Inv X pins J H s:=⟨I.o.unwish,I.os,I.bare,I.base,I.loc,I.cell,I.free,I.freeC,I.pin,I.h,I.len⟩
set_option tactic.hygienic true in
theorem SP.unwish(h:SP (X.wish E) pins D f s'):SP X pins D f s':=by
 cases f with
 |next=>obtain⟨x,H',I,q⟩:=h;exact⟨x,H',I.unwish,q⟩
 |brk=>obtain⟨x,H',I,q⟩:=h;exact⟨x,H',I.unwish,q⟩
 |cont=>obtain⟨x,H',I,q⟩:=h;exact⟨x,H',I.unwish,q⟩
 |ret u=>obtain⟨v,x,H',I,r,q⟩:=h;exact⟨v,x,H',I.unwish,r,q⟩
theorem qc.nox{st:List Stmt}{t:TS}(h:qc X.nox st t):qc X st t:=λpins s J H D I hw=>
 cM (h pins s J H D (I.wish _) hw) (λ_ _ q=>q.unwish) λ_ _ z=>False.elim z
end
section
variable{X:Cx}{st:Stmt}{rest:List Stmt}{t u:TS}{e:Expr}{te:TE}{B:Pos}
noncomputable def OD:TS:=λD J H=>D.nx J H
noncomputable def RJ(t u:TS):TS:=λD J H=>t { D with nx:=u D } J H
theorem IV:qc X [] OD:=λ_ _ J H _ I h=>yr ⟨J,H,I,h⟩
set_option tactic.hygienic true in
theorem Fh(h1:PS X st t)(h2:qc X rest u):qc X (st::rest) (RJ t u):=by
 intro pins s J H D I h;refine BA (c_ (h1 pins s J H { D with nx:=u D } I h) λf e q=>?_);cases f with
 |next=>obtain⟨a,H',x,q⟩:=q;exact h2 pins e a H' D x q
 |ret v=>exact q
 |brk=>exact q
 |cont=>exact q
set_option tactic.hygienic true in
theorem IU(h1:PS X st t):qc X [st] t:=by
 intro pins s J H D I h;refine BA (c_ (h1 pins s J H D I h) λf x q=>?_);cases f with
 |next=>exact yr q
 |ret v=>exact q
 |brk=>exact q
 |cont=>exact q
noncomputable def LP:TS:=λD J H=>D.bk J H
theorem Fi:PS X (.Break B) LP:=λ_ _ J H _ I h=>wpAny_Break ⟨J,H,I,h⟩
theorem Inv.quiet(I:Inv X pins J H s):interactive X.e=false:=by simp[interactive,I.o.kind]
noncomputable def OF(te:TE):TS:=λD J H=>te J H λ_ G=>D.nx J G
theorem IX(n:PE X e te)(k:swapsWith e none B.line X.e=pure false:=by rfl):PS X (.Expr e B) (OF te):=by intro pins s J H D I h;exact wpAny_Expr_any (c_ (n pins s J H _ I h) λv f z=>by obtain⟨x,G,a,r,q⟩:=z;exact⟨J,G,a,q⟩) I.quiet k
noncomputable def RK(te:TE):TS:=λD J H=>te J H D.rt
theorem L9(n:PE X e te):PS X (.Return (some e) B) (RK te):=by intro pins s J H D I h;exact wpAny_Return_some (c_ (n pins s J H _ I h) λv k z=>by obtain⟨x,G,a,r,q⟩:=z;exact⟨x,J,G,a,r,q⟩)
noncomputable def RR(c:TT)(t u:TS):TS:=λD J H=>c J H λb G=>if b=true then t D J G else u D J G
theorem O1{c:Expr}{a b:List Stmt}{tc:TT}(f:PT X c tc)(n:qc X a t)(k:qc X b u):PS X (.If c a b B) (RR tc t u):=by
 intro pins s J H D I h;refine wpAny_If (c_ (f pins s J H _ I h) λd e z=>?_);obtain⟨G,x,q⟩:=z;cases d with
 |true=>exact n pins e J G D x q
 |false=>exact k pins e J G D x q
noncomputable def LH:TS:=λ_ _ _=>False
theorem C7:qc X q LH:=λ_ _ _ _ _ _ h=>h.elim
end
noncomputable abbrev TG:=V->St->Hp->(St->Hp->Prop)->Prop
noncomputable abbrev NC:=List V->St->Hp->(St->Hp->Prop)->Prop
def PG(X:Cx)(a:Expr)(t:TG):Prop:=
 ∀(pins:PN)(s:Shared)(J:St)(H:Hp)(v:V)(u:Value)(Q:St->Hp->Prop),Inv X pins J H s->RelV v u->t v J H Q ->
  wx X (assign a X.e u) (λ_ s'=>∃h H',Inv X pins h H' s'/\Q h H') X.xe s
def Qw(X:Cx)(x:Ab)(t:NC):Prop:=
 ∀(pins:PN)(s:Shared)(J:St)(H:Hp)(v:List V)(j:LV)(Q:St->Hp->Prop),Inv X pins J H s->bb v j->t v J H Q ->
  wx X (assignInOrder ((assignEach x X.e).map (·.2)) j) (λ_ s'=>∃h H',Inv X pins h H' s'/\Q h H') X.xe s
noncomputable abbrev NB:=V->V->V->Hp->(Hp->Prop)->Prop
def Qt(X:Cx)(t:NB):Prop:=
 ∀(pins:PN)(s:Shared)(J:St)(H:Hp)(o i v:V)(h iv u:Value)(Q:Hp->Prop),Inv X pins J H s->RelV o h->RelV i iv->RelV v u->t o i v H Q ->
  wx X (setItem h iv u) (λ_ s'=>∃H',Inv X pins J H' s'/\Q H') X.xe s
noncomputable abbrev SW:=V->V->Hp->VK->Prop
def TD(X:Cx)(o:Operator)(t:SW):Prop:=
 ∀(pins:PN)(s:Shared)(J:St)(H:Hp)(x y:V)(v u:Value)(Q:VK),Inv X pins J H s->RelV x v->RelV y u->t x y H Q ->
  wx X (inplaceOp o v u) (EP X pins J Q) X.xe s
section
variable{X:Cx}{B:Pos}
noncomputable def KQ(i:Nat):TG:=λv J H Q=>Q (J.set i (some v)) H
theorem Jf(N:X.N.Nodup)(hi:X.N[i]? = some x)(e:Loc X.e.scope x)(f:X.fn x=true\/X.e.scope.names.lookup x=some .local:=by first|exact .inl rfl|exact .inr rfl|assumption):PG X (.Name x B) (KQ i):=by intro pins s J H v u Q I r h;exact DY (sf I N hi e r (λs' a=>⟨_,H,a,h⟩) f)
noncomputable def SD:NC:=λv J H Q=>v=[]/\Q J H
noncomputable def P1(t:TG)(u:NC):NC:=λs J H Q=>∃v r,s=v::r/\t v J H λh H'=>u r h H' Q
theorem Je:Qw X [] SD:=by intro pins s J H v j Q I r h;obtain⟨e,h⟩:=h;subst e;cases r;exact assignInOrder_nil ⟨J,H,I,h⟩
theorem Fo{e:Expr}{es:Ab}{t:TG}{u:NC}(h1:PG X e t)(h2:Qw X es u)
  (k:(assignEach (e::es) X.e).map (·.2)=assign e X.e::(assignEach es X.e).map (·.2):=by rfl):Qw X (e::es) (P1 t u):=by
 intro pins s J H m j Q I r h;obtain⟨v,c,n,h⟩:=h;subst n;cases r with
 |cons r f=>rw[k];refine assignInOrder_cons (c_ (h1 pins s J H _ _ _ I r h) λ_ b z=>?_);obtain⟨a,G,x,q⟩:=z;exact h2 pins b a G _ _ Q x f q
noncomputable def Sz(K:FG)(n:Nat)(t:NC):TG:=λv J H Q=>∃a xs,v=.ref a/\p' K H a xs/\xs.length=n/\t xs J H Q
theorem Mf(p:X.c=true)(h:Qw X es t)
  (q:(assignEach es X.e).length=n:=by rfl) (x:(assignEach es X.e).findIdx? (·.1)=none:=by rfl):PG X (.Tuple es k B) (Sz X.K n t):=by
 intro pins s J H v u Q I r hw;obtain⟨a,xs,m,d,l,hw⟩:=hw;subst m;cases r;obtain⟨i,f,w,z⟩:=I.tuple d;refine assign_Tuple_tuple (I.o.hd p) w (by simp[q,<- l,f.length]) x λh' g=>?_
 have c:Inv X pins J H { s with heap:=h' }:=I.kept (t':=s.toks) λb o e=>g b o (bK (aJ e)) e;exact h pins _ J H xs _ Q c (by simpa using f) hw
noncomputable def SA(to x:TE)(t:NB):TG:=λv J H Q=>to J H λo G=>x J G λi H2=>t o i v H2 λh=>Q J h
theorem Mg{o i:Expr}{to a:TE}{t:NB}(c:PE X o to)(hi:PE X i a)(m:Qt X t)
  (b:∀v,assign (.Subscript o i B) X.e v=(do
   let q <- holding [v] (eval o X.e)
   let iv <- holding [v,q] (eval i X.e)
   standAt B
   holding [v,q,iv] (setItem q iv v)
   release [v,q,iv] []):=by intro _;rfl):PG X (.Subscript o i B) (SA to a t):=by
 intro pins s J H v u Q I r h;rw[b];refine ae (iG (c_ (c pins s J H _ I h) λq l z=>?_));obtain⟨x,G,n,g,p⟩:=z;refine ae (iG (c_ (hi pins l J G _ n p) λiv S z=>?_));obtain⟨y,H2,k,j,d⟩:=z;refine ae (yo (ae (iG (c_ (m pins S J H2 x y v q iv u _ k g j r d) λ_ F z=>?_))));obtain⟨e,f,w⟩:=z;exact wpAny_release ⟨J,e,f,w⟩
noncomputable def OI(te:TE)(g:TG):TS:=λD J H=>te J H λx G=>g x J G D.nx
theorem Fj{tg e:Expr}{te:TE}{g:TG}(n:PE X e te)(k:PG X tg g)(f:swapsWithSole [tg] e B.line X.e=pure false:=by rfl)(hw:swappedStores [tg] e X.e=pure none:=by rfl)
  (h1:(assignEach [tg] X.e).map (·.2)=[assign tg X.e]:=by rfl):PS X (.Assign [tg] e B) (OI te g):=by
 intro pins s J H D I h;refine wpAny_Assign_stores (c_ (n pins s J H _ I h) λv c z=>?_) f hw;obtain⟨x,G,a,r,b⟩:=z;rw[h1];exact c_ (k pins c J G x v _ a r b) λ_ m q=>q
theorem L8(N:X.N.Nodup)(hi:X.N[i]? = some x)(c:Loc X.e.scope x)(k:PE X e te)(b:swapsWith e (some (.Name x pos')) B.line X.e=pure false:=by rfl)(f:X.fn x=true\/X.e.scope.names.lookup x=some .local:=by first|exact .inl rfl|exact .inr rfl|assumption) :
  PS X (.Assign [.Name x pos'] e B) (OI te (KQ i)):=by
 intro pins s J H D I h;refine wpAny_Assign_Name (c_ (k pins s J H _ I h) λv m z=>?_) b;obtain⟨y,G,a,r,q⟩:=z;exact sf a N hi c r (λt n=>⟨_,G,n,q⟩) f
noncomputable def RV(i:Nat)(te:TE)(t:SW):TS:=λD J H=>∃x,J[i]? = some (some x)/\te J H λy G=>t x y G λz H2=>D.nx (J.set i (some z)) H2
set_option tactic.hygienic true in
theorem Mb(N:X.N.Nodup)(hi:X.N[i]? = some x)(b:Loc X.e.scope x)(K:PE X e te)(L:TD X q ti)(P:X.fn x=true\/X.e.scope.names.lookup x=some .local:=by first|exact .inl rfl|exact .inr rfl|assumption) :
  PS X (.AugAssign (.Name x pos') q e B) (RV i te ti):=by
 intro pins s J H D I h;obtain⟨v,S,h⟩:=h;obtain⟨m,E,A⟩:=I.loc;have p:Nz X.e.scope x:=by rcases b with k|k;exact .inl k;exact .inr (.inl k)
 obtain⟨u,r,l⟩:=A i x v hi S p;refine wpAny_AugAssign_Name ?_;have g:wx X (eval e X.e) (λw n=>wx X (inplaceOp q u w) (λr f=>wx X (storeName X.e x r) (λ_=>SP X pins D .next) X.xe f) X.xe n) X.xe s:=by refine c_ (K pins s J H _ I h) λw V t=>?_;obtain⟨y,G,d,R,M⟩:=t;refine c_ (L pins V J G v y u w _ d r R M) λz W t=>?_;obtain⟨zv,H2,j,T,Q⟩:=t;exact sf j N hi b T (λZ o=>⟨_,H2,o,Q⟩) P
 rcases l with ⟨hk,C⟩|⟨hk,c,F,a⟩
 .exact D5 I.o.kind hk E C g
 .rcases hk with hk|hk
  .exact D4 I.o.kind hk F a g
  .rcases b with k|k
   .have:X.e.scope.names.lookup x=some .free:=hk;rw[k]at this;cases this
   .have:X.e.scope.names.lookup x=some .free:=hk;rw[k]at this;cases this
noncomputable def Ui(f:Int->Int->Int):SW:=λx y H Q=>∃i j,x=.int i/\y=.int j/\Q (.int (f i j)) H
theorem MZ:TD X .Add (Ui λi j=>i+j):=by intro pins s J H x y v u Q I r n h;obtain⟨i,j,e,a,q⟩:=h;subst e;subst a;obtain⟨t,rfl⟩:=r;obtain⟨k,rfl⟩:=n;exact iadd_int ⟨.int _,H,I.tok _,⟨_,rfl⟩,q⟩
end
structure It where
 go:Nat->Hp->Prop
 yld:Nat->Hp->V->Hp->Prop
 stop:Nat->Hp->Prop
def tj(X:Cx)(pins:PN)(H:Hp)(b:Addr):Prop:=
 H b=none/\b≠X.e.locals/\b ∉ X.fs/\(b ∈ X.ex\/X.z.heap.objs.size≤b)/\(∀x c,X.e.cells.lookup x=some c->c≠b)/\∀p ∈ X.pn++pins,p.1≠b
variable{pins:PN}{J:St}
theorem Inv.fpOk(I:Inv X pins J H s)(h:s.heap.objs.size≤b)(n:H' b=none):tj X pins H' b:=by
 refine⟨n,cx (cg I.lt h),I.nofs h,.inr (aI I.sz h),λx c e z=>?_,λp a z=>?_⟩
 .obtain⟨v,q⟩:=I.cell x c e;exact absurd (cg q.lt (by rw[z];exact h)) (jG _)
 .exact absurd (cg (aJ (I.pin p a).1) (by rw[z];exact h)) (jG _)
structure Turn(P:Program)(w:World)(K:FG)(tg:Expr)(J9:It)(fp:List Addr)(it:Addr)(tn:Nat->Heap->Prop):Prop where
 mem:it ∈ fp
 obj:∀i h,tn i h->∀b ∈ fp,∃o,h.get? b=some o/\∀v,o.data≠.cell v
 keep:∀i h h',tn i h->(∀b ∈ fp,∀o,h.get? b=some o->h'.get? b=some o)->tn i h'
 item:∀(X:Cx),X.p=P->X.w=w->X.K=K->X.c=true->∀(i:Nat)(pins:PN)(s:Shared)(J:St)(H:Hp)(E:VP),Inv X pins J H s->(∀b ∈ fp,tj X pins H b)->tn i s.heap->J9.go i H ->
  wpAny (model P w) X.A (pyNext (.ref it)) (fun r s1=>∃u,r=some u /\
   wpAny (model P w) X.A (letOwnedTupleGo tg (.ref it) u) (λ_ s2=>∃x H',Inv X pins J H' s2/\RelV x u/\J9.yld i H x H'/\tn (i+1) s2.heap/\∀b ∈ fp,H' b=none) E s1) E s
 done:∀(X:Cx),X.p=P->X.w=w->X.K=K->X.c=true->∀(i:Nat)(pins:PN)(s:Shared)(J:St)(H:Hp)(E:VP),Inv X pins J H s->(∀b ∈ fp,tj X pins H b)->tn i s.heap->J9.stop i H ->
  wpAny (model P w) X.A (pyNext (.ref it)) (λr s1=>r=none/\Inv X pins J H s1) E s
 self:∀(A:Around)(i:Nat)(s:Shared)(Q:VP)(E:VP),tn i s.heap->Q (.ref it) s->wpAny (model P w) A (pyIter (.ref it)) Q E s
noncomputable abbrev TI:=St->Hp->(It->Hp->Prop)->Prop
def Qv(X:Cx)(pins:PN)(J:St)(tg:Expr)(R:It->Hp->Prop)(i:Value)(s:Shared):Prop:=
 ∃(t:Addr)(f:List Addr)(n:Nat->Heap->Prop)(h:It)(H':Hp),i=.ref t/\Inv X pins J H' s/\Turn X.p X.w X.K tg h f t n/\n 0 s.heap/\(∀b ∈ f,tj X pins H' b)/\R h H'
def PI(X:Cx)(tg iter:Expr)(w:TI):Prop:=
 ∀(pins:PN)(s:Shared)(J:St)(H:Hp)(R:It->Hp->Prop),Inv X pins J H s->w J H R ->
  wx X (eval iter X.e) (λv h=>wx X (pyIter v) (Qv X pins J tg R) X.xe h) X.xe s
variable{tg:Expr}
theorem Gy(e:s.heap.get? q=some o)(c:o.cls=.type n)(hd:o.data=.fields z)
    (a:["enumerate","zip","dict_itemiterator","dict_reverseitemiterator","odict_iterator","itertools.zip_longest","itertools.pairwise"].contains n=false) (x:Q () s):wpAny M A (letOwnedTupleGo tg (.ref q) u) Q E s:=by
  unfold letOwnedTupleGo;cases tg<;>first
    |exact aC x
    | (cases u <;> first
        |exact aC x
        | (refine ae (wpAny_load e ?_)
           rw[c,hd];show wpAny M A (if (["enumerate","zip","dict_itemiterator","dict_reverseitemiterator","odict_iterator","itertools.zip_longest","itertools.pairwise"].contains n && z[0]? == some (rawInt _))=true then _ else _) Q E s;rw[ah (by intro h;rw[a,Bf]at h;cases h)];exact aC x))
noncomputable def Qz(K:FG)(a:Addr):It:=
 ⟨λi H=>∃xs x,g0 K H a xs/\xs[i]? = some x,λi H x H'=>H'=H/\∀xs,g0 K H a xs->xs[i]? = some x,λi H=>∃xs,g0 K H a xs/\xs.length≤i⟩
noncomputable def TJ(K:FG)(a:Addr):It:=
 ⟨λi H=>∃xs x,p' K H a xs/\xs[i]? = some x,λi H x H'=>H'=H/\∀xs,p' K H a xs->xs[i]? = some x,λi H=>∃xs,p' K H a xs/\xs.length≤i⟩
noncomputable def Q7(lo:Int)(n:Nat):It:=⟨λi _=>i < n,λi H x H'=>H'=H/\x=.int (lo+i),λi _=>n≤i⟩
variable{w:World}{K:FG}
theorem ub(a t:Addr):Turn P w K tg (Qz K a) [t] t (λi h=>h.IsListIter t a i) where
 mem:=by simp
 obj:=λi h st b n=>by
  have e:b=t:=by simpa using n
  subst e;obtain⟨o,e,c,d⟩:=st;exact⟨o,e,λv z=>by rw[d]at z;cases z⟩
 keep:=λi h h' st k=>st.at λo e=>k t (by simp) o e
 item:=by
  intro X F hw S G i pins s J H E I m st A;subst F hw S;obtain⟨xs,x,q,B⟩:=A;obtain⟨C,D,p,T⟩:=I.list q;obtain⟨u,Q,V⟩:=D.get B;obtain⟨r,g,N,j,l,y⟩:=m t (by simp);refine wpAny_pyNext_list_item st p.isList (x:=u) (by simpa using Q) λh' f W=>?_
  have L:Inv X pins J H { s with heap:=h' }:=I.turned (t':=s.toks) (λb o n e=>(W.2 b n).trans e) r g j l y;obtain⟨o,e,c,d⟩:=id f;exact⟨u,rfl,Gy (s:={ s with heap:=h' }) e c d (by decide) ⟨x,H,L,V,⟨rfl,λys R=>by rw[I.list_inj R q];exact B⟩,f,λb n=>(m b n).1⟩⟩
 done:=by intro X F hw S G i pins s J H E I m st A;subst F hw S;obtain⟨xs,q,B⟩:=A;obtain⟨C,D,p,T⟩:=I.list q;obtain⟨r,g,N,j,l,y⟩:=m t (by simp);have Z:=D.length;exact wpAny_pyNext_list_end (I.o.hd G) st p.isList (by simp;lia) λh' M=>⟨rfl,I.turned (t':=s.toks) (λb o n e=>M b o n e) r g j l y⟩
 self:=λ_ _ _ _ _ st h=>wpAny_pyIter_listiter st h
theorem yM(a t:Addr):Turn P w K tg (TJ K a) [t] t (λi h=>h.IsTupleIter t a i) where
 mem:=by simp
 obj:=λi h st b n=>by
  have e:b=t:=by simpa using n
  subst e;obtain⟨o,e,c,d⟩:=st;exact⟨o,e,λv z=>by rw[d]at z;cases z⟩
 keep:=λi h h' st k=>st.at λo e=>k t (by simp) o e
 item:=by
  intro X A hw F G i pins s J H E I r st B;subst A hw F;obtain⟨xs,x,q,C⟩:=B;obtain⟨f,D,p,T⟩:=I.tuple q;obtain⟨u,Q,V⟩:=D.get C;obtain⟨g,j,N,l,y,S⟩:=r t (by simp);refine wpAny_pyNext_tuple_item st (show s.heap.IsTuple a f.toArray from p) (x:=u) (by simpa using Q) λh' m W=>?_
  have L:Inv X pins J H { s with heap:=h' }:=I.turned (t':=s.toks) (λb o n e=>(W.2 b n).trans e) g j l y S;obtain⟨o,e,c,d⟩:=id m;exact⟨u,rfl,Gy (s:={ s with heap:=h' }) e c d (by decide) ⟨x,H,L,V,⟨rfl,λys R=>by rw[I.tuple_inj R q];exact C⟩,m,λb n=>(r b n).1⟩⟩
 done:=by intro X A hw F G i pins s J H E I r st B;subst A hw F;obtain⟨xs,q,C⟩:=B;obtain⟨f,D,p,T⟩:=I.tuple q;obtain⟨g,j,N,l,y,S⟩:=r t (by simp);have Z:=D.length;exact wpAny_pyNext_tuple_end (I.o.hd G) st (show s.heap.IsTuple a f.toArray from p) (by simp;lia) λh' M=>⟨rfl,I.turned (t':=s.toks) (λb o n e=>M b o n e) g j l y S⟩
 self:=λ_ _ _ _ _ st h=>wpAny_pyIter_tupleiter st h
theorem yN(x:Addr)(lo:Int)(n:Nat):Turn P w K tg (Q7 lo n) [x] x (λi h=>IsRangeIter h x (lo+(i:Nat) * 1) ((n:Int)-(i:Nat)) 1) where
 mem:=by simp
 obj:=λi h st b a=>by
  have e:b=x:=by simpa using a
  subst e;exact⟨_,st,λv z=>by have C:Data.fields _=Data.cell v:=z;cases C⟩
 keep:=λi h h' st k=>k x (by simp) _ st
 item:=by
  intro X g hw u j i pins s J H E I c st l;subst g hw u;obtain⟨m,r,F,p,q,d⟩:=c x (by simp);have W:=Walks.range (prog:=X.p) (w:=X.w) (I.o.hd j) x lo 1 n;refine W.item i s _ _ l st λv h' tk A f B=>?_
  obtain⟨t,rfl⟩:=A;have y:Inv X pins J H { s with heap:=h',toks:=tk }:=I.turned (λb o a e=>B b o (by simpa using a) e) m r p q d;refine⟨_,rfl,Gy (s:={ s with heap:=h',toks:=tk }) (n:="range_iterator") f rfl rfl (by decide) ⟨.int (lo+i),H,y,⟨t,?_⟩,⟨rfl,rfl⟩,f,λb a=>(c b a).1⟩⟩;rw[Int.mul_one]
 done:=by intro X g hw u j i pins s J H E I c st l;subst g hw u;obtain⟨m,r,F,p,q,d⟩:=c x (by simp);exact wpAny_pyNext_range_end (I.o.hd j) st (by have:n≤i:=l;lia) λh' S=>⟨rfl,I.turned (t':=s.toks) (λb o a e=>S b o a e) m r p q d⟩
 self:=λ_ _ _ _ _ st h=>wpAny_pyIter_rangeiter st h
section
variable{X:Cx}{tg:Expr}
noncomputable def PL(K:FG)(tl:TE):TI:=λJ H R=>tl J H λx G=>∃a,x=.ref a/\(∃xs,g0 K G a xs)/\R (Qz K a) G
theorem Jd(c:PE X l tl):PI X tg l (PL X.K tl):=by
 intro pins s J H R I h;refine c_ (c pins s J H _ I h) λv k z=>?_
 obtain⟨x,G,n,t,r⟩:=z;obtain⟨a,e,⟨xs,m⟩,q⟩:=r;subst e;cases t;obtain⟨i,d,p,z⟩:=n.list m;refine yy p.isList ?_;refine⟨k.heap.objs.size,[k.heap.objs.size],_,_,G,rfl,n.kept (t':=k.toks) λb o e=>ba _ e,ub a _,⟨_,cw _ rfl,rfl,rfl⟩,λb f=>?_,q⟩;have e:b=k.heap.objs.size:=by simpa using f
 subst e;exact n.fpOk (al _) (n.h.fresh (al _))
theorem Fd{lo hi:Int}{t u v:Tok}{tk:Nat}(I:Inv X pins J H s)(h1:-(2 ^ 62)≤lo)(h2:lo < 2 ^ 62)(n:-(2 ^ 62)≤hi)(k:hi < 2 ^ 62)
  (q:R (Q7 lo (hi-lo).toNat) H):wx X (pyIter (.ref s.heap.objs.size)) (Qv X pins J tg R) E { s with heap:=s.heap.push { cls:=.type "range",data:=.fields #[.int lo t,.int hi u,.int 1 v] },toks:=tk }:=by
 refine wpAny_pyIter_range (IsRange.new ..) (small_one h1 h2 n k) ?_;have h:Inv X pins J H { s with heap:=s.heap.push { cls:=.type "range",data:=.fields #[.int lo t,.int hi u,.int 1 v] },toks:=tk }:=I.kept fun b o e=>ba _ e;refine⟨(s.heap.push { cls:=.type "range",data:=.fields #[.int lo t,.int hi u,.int 1 v] }).objs.size,[(s.heap.push { cls:=.type "range",data:=.fields #[.int lo t,.int hi u,.int 1 v] }).objs.size],_,_,H,rfl,
  h.kept (t':=tk) λb o e=>ba _ e,yN _ lo (hi-lo).toNat,?_,λb f=>?_,q⟩
 .have x:lo+((0:Nat):Int) * 1=lo:=by simp
  have a:(((hi-lo).toNat:Nat):Int)-((0:Nat):Int)=Builtin.Range.rangeSize lo hi 1:=by rw[Bs];split<;>lia
  show IsRangeIter _ _ (lo+((0:Nat):Int) * 1) ((((hi-lo).toNat:Nat):Int)-((0:Nat):Int)) 1;rw[x,a];exact cw _ rfl
 .have e:b=(s.heap.push { cls:=.type "range",data:=.fields #[.int lo t,.int hi u,.int 1 v] }).objs.size:=by simpa using f
  subst e;exact h.fpOk (al _) (h.h.fresh (al _))
noncomputable def PK(ta:TA):TI:=λJ H R=>ta J H λv G=>∃j:Int,v=[.int j]/\-(2 ^ 62)≤j/\j < 2 ^ 62/\R (Q7 0 j.toNat) G
theorem Dc{a:Expr}{ta:TA}{p B:Pos}(g:Gl X "range")(m:X.g "range"=none)(f:PA X [a] ta)(b:starEach [a] X.e=[(false,eval a X.e)]:=by rfl):PI X tg (.Call (.Name "range" p) [a] [] B) (PK ta):=by
 intro pins s J H R I h;refine Call_ (lC I g m boot_range (lQ (c_ (f B pins s J H _ I h) λj w z=>?_) b rfl));obtain⟨u,G,k,v,n⟩:=z;obtain⟨x,e,n,c,q⟩:=n;subst e;cases v with
 |cons r d=>cases d;obtain⟨t,rfl⟩:=r;exact call_range_1 (Fd k (by lia) (by lia) n c (by simpa using q))
noncomputable def RS(w:TI)(g:TG)(tb:TS):TS:=λD J H=>w J H λh G=>∃W:Nat->Nat->St->Hp->Prop,(∃m,W 0 m J G)/\∀i m J H,W i m J H ->
 (h.stop i H/\D.nx J H)\/(h.go i H/\∃N:St->Hp->Prop,(∀a H',N a H'->∃e,e < m/\W (i+1) e a H')/\∀x H',h.yld i H x H'->g x J H' λs H2=>tb { D with nx:=N,ct:=N,bk:=D.nx } s H2)
noncomputable def oW(f:List Addr)(h:Heap):PN:=f.filterMap λb=>(h.get? b).map λo=>(b,o)
theorem kM(x:b ∈ q)(e:h.get? b=some o):(b,o) ∈ oW q h:=qH.mpr ⟨b,x,by rw[e];rfl⟩
theorem De(s:p ∈ oW z h):p.1 ∈ z/\h.get? p.1=some p.2:=by
 obtain⟨b,a,e⟩:=qH.mp s;cases q:h.get? b with
 |none=>rw[q]at e;cases e
 |some o=>rw[q]at e;have x:(b,o)=p:=dH e;subst x;exact⟨a,q⟩
theorem Inv.pinned(I:Inv X pins J H s)(k:∀b ∈ q,tj X pins H b)(c:∀b ∈ q,∃o,s.heap.get? b=some o/\∀v,o.data≠.cell v):Inv X (pins++oW q s.heap) J H s:=
 I.pins_of λp m=>(cI.mp m).elim (λz=>I.pin p (fV _ z)) λz=>by obtain⟨x,e⟩:=De z;obtain⟨f,a,n,_⟩:=k p.1 x;obtain⟨o,h,d⟩:=c p.1 x;rw[e]at h;cases h;exact⟨e,f,a,n,d⟩
theorem Inv.unpinned(I:Inv X (pins++q) J H s):Inv X pins J H s:=I.pins_of λp h=>I.pin p (fV _ (nG _ h))
set_option tactic.hygienic true in
theorem L_{iter:Expr}{y:List Stmt}{wi:TI}{g:TG}{tb:TS}{B:Pos}(F:PassesOwn (model X.p X.w) X.A X.e X.xe)(hc:X.c=true)(hi:PI X tg iter wi)(hg:PG X tg g)(t:qc X y tb)
  (hs:∀x,foldedSetIterable iter X.e x=pure x:=by intro _;rfl):PS X (.For tg iter y [] B) (RS wi g tb):=by
 intro pins s J H D I h;refine wpAny_For (c_ (hi pins s J H _ I h) λv s1 h1=>c_ h1 λitv s2 h2=>?_) hs;obtain⟨it,l,tn,J9,H2,e,I2,T,Q,Z,W,⟨m0,w0⟩,A⟩:=h2;subst e;have p:∀{H':Hp},(∀b ∈ l,H' b=none)->∀b ∈ l,tj X pins H' b:=λhn b t=>⟨hn b t,(Z b t).2⟩
 refine codeAny_forLoop_any (λn s'=>∃i w H',Inv X pins w H' s'/\tn i s'.heap/\(∀b ∈ l,H' b=none)/\W i n w H') ?_ m0 ⟨0,J,H2,I2,Q,λb t=>(Z b t).1,w0⟩;rintro n s3 ⟨i,j,C,V,w1,S,w3⟩;rcases A i n j C w3 with ⟨P,qn⟩|⟨go,N,hN,step⟩
 .refine rD F (c_ (T.done X rfl rfl rfl hc i pins s3 j C X.xe V (p S) w1 P) λr s4 z=>?_);obtain⟨L,I4⟩:=z;subst L;exact yr ⟨j,C,I4,qn⟩
 .refine rD F (c_ (T.item X rfl rfl rfl hc i pins s3 j C X.xe V (p S) w1 go) λr s4 z=>?_);obtain⟨u,L,h4⟩:=z;subst L;refine rD F (c_ h4 λ_ s5 z=>?_);obtain⟨x,R,I5,r5,y5,OL,G⟩:=z;have E:=I5.pinned (p G) (T.obj _ _ OL);refine rD F (c_ (hg _ s5 j R x u _ E r5 (step x R y5)) λ_ s6 z=>?_);obtain⟨J6,H6,I6,q6⟩:=z;refine rD F (c_ (t _ s6 J6 H6 _ I6 q6) λf M q=>?_);have again:∀{c:St}{a:Hp},Inv X (pins++oW l s5.heap) c a M->N c a->∃m,m < n/\∃i w H',Inv X pins w H' M/\tn i M.heap/\(∀b ∈ l,H' b=none)/\W i m w H':=λ{c a} k K=>by
   obtain⟨m',hm,w7⟩:=hN c a K;refine⟨m',hm,i+1,c,a,k.unpinned,T.keep _ _ _ OL λb t o e=>(k.pin (b,o) (fV _ (fV _ (kM t e)))).1,λb t=>?_,w7⟩;obtain⟨o,e,d⟩:=T.obj _ _ OL b t;exact(k.pin (b,o) (fV _ (fV _ (kM t e)))).2.1
  cases f with
  |next=>obtain⟨c,a,k,K⟩:=q;exact again k K
  |cont=>obtain⟨c,a,k,K⟩:=q;exact again k K
  |brk=>obtain⟨c,a,k,q⟩:=q;exact⟨c,a,k.unpinned,q⟩
  |ret v=>obtain⟨x7,c,a,k,r7,q⟩:=q;exact⟨x7,c,a,k.unpinned,r7,q⟩
end
noncomputable abbrev R2:=V->V->Hp->VK->Prop
def jY(X:Cx)(f:Value->Value->Sem Value)(r:R2):Prop:=
 ∀(pins:PN)(s:Shared)(J:St)(H:Hp)(x y:V)(v u:Value)(Q:VK),Inv X pins J H s->RelV x v->RelV y u->r x y H Q ->
  wx X (f v u) (EP X pins J Q) X.xe s
def SS(X:Cx)(f:Value->Sem Value)(r:V->Hp->VK->Prop):Prop:=
 ∀(pins:PN)(s:Shared)(J:St)(H:Hp)(x:V)(v:Value)(Q:VK),Inv X pins J H s->RelV x v->r x H Q ->
  wx X (f v) (EP X pins J Q) X.xe s
def fL(X:Cx)(f:Value)(r:List V->Hp->VK->Prop):Prop:=
 ∀(pins:PN)(s:Shared)(J:St)(H:Hp)(xs:List V)(j:LV)(Q:VK),Inv X pins J H s->bb xs j->r xs H Q ->
  wx X (call f j) (EP X pins J Q) X.xe s
def SU(X:Cx)(r:V->Hp->(Bool->Hp->Prop)->Prop):Prop:=
 ∀(pins:PN)(s:Shared)(J:St)(H:Hp)(x:V)(v:Value)(Q:Bool->Hp->Prop),Inv X pins J H s->RelV x v->r x H Q ->
  wx X (truthy v) (TP X pins J Q) X.xe s
noncomputable def LG(r:R2)(ta tb:TE):TE:=λJ H Q=>ta J H λx G=>tb J G λy H2=>r x y H2 Q
noncomputable def T5(r:V->Hp->VK->Prop)(ta:TE):TE:=λJ H Q=>ta J H λx G=>r x G Q
noncomputable def rI(C:Int->Int->Prop)(g:Int->Int->V):R2:=λx y H Q=>∃i j,x=.int i/\y=.int j/\C i j/\Q (g i j) H
noncomputable def IQ(g:Int->Int->V):R2:=λx y H Q=>∃i j,x=.int i/\y=.int j/\Q (g i j) H
def rU(g:Int->V):V->Hp->VK->Prop:=λx H Q=>∃i,x=.int i/\Q (g i) H
section
variable{X:Cx}{a b c:Expr}{ta tb tc:TE}{B:Pos}
theorem Nv(r:PE X a ta)(t:PE X b tb){pins:PN}{s:Shared}{J:St}{H:Hp}{R:V->V->Hp->Prop}(I:Inv X pins J H s)
  (h:ta J H λx G=>tb J G λy H2=>R x y H2) {Q:VP}{f:Value->Value->Sem Value}
  (p:∀v u k x y H2,Inv X pins J H2 k->RelV x v->RelV y u->R x y H2->wx X (f v u) Q X.xe k) :
  wx X (eval a X.e) (λv e=>wx X (eval b X.e) (λu n=>wx X (f v u) Q X.xe n) X.xe e) X.xe s:=by
 refine c_ (r pins s J H _ I h) λv i z=>?_;obtain⟨x,G,c,w,q⟩:=z;refine c_ (t pins i J G _ c q) λu k z=>?_;obtain⟨y,H2,m,g,d⟩:=z;exact p v u k x y H2 m w g d
theorem Kw{o:Operator}{r:R2}(f:jY X (binaryOp o) r)(n:PE X a ta)(k:PE X b tb):PE X (.BinOp a o b B) (LG r ta tb):=by intro pins s J H Q I h;exact wpAny_BinOp (Nv n k I h λv u t x y H2 e c m q=>f pins t J H2 x y v u Q e c m q)
theorem O2(o:SS X (unaryOp q) r)(n:PE X a ta):PE X (.UnaryOp q a B) (T5 r ta):=by intro pins s J H Q I h;exact uT (c_ (n pins s J H _ I h) λv b z=>by obtain⟨x,G,e,f,k⟩:=z;exact o pins b J G x v Q e f k)
theorem QH{f:Value->Value->Sem Value}{C:Int->Int->Prop}{g:Int->Int->Int}
  (rule:∀(i j:Int)(t u:Tok)(s:Shared)(Q:VP)(E:VP),C i j->Q (.int (g i j) s.toks) { s with toks:=s.toks+1 }->wx X (f (.int i t) (.int j u)) Q E s) :
  jY X f (rI C λi j=>.int (g i j)):=by
 intro pins s J H x y v u Q I r a h;obtain⟨i,j,rfl,rfl,c,q⟩:=h;obtain⟨t,rfl⟩:=r;obtain⟨e,rfl⟩:=a;exact rule i j t e s _ _ c ⟨.int (g i j),H,I.tok _,⟨_,rfl⟩,q⟩
theorem Pl{f:Value->Value->Sem Value}{g:Int->Int->Int}
  (rule:∀(i j:Int)(t u:Tok)(s:Shared)(Q:VP)(E:VP),Q (.int (g i j) s.toks) { s with toks:=s.toks+1 }->wx X (f (.int i t) (.int j u)) Q E s) :
  jY X f (IQ λi j=>.int (g i j)):=by
 intro pins s J H x y v u Q I r a h;obtain⟨i,j,rfl,rfl,q⟩:=h;obtain⟨t,rfl⟩:=r;obtain⟨e,rfl⟩:=a;exact rule i j t e s _ _ ⟨.int (g i j),H,I.tok _,⟨_,rfl⟩,q⟩
theorem Jo{f:Value->Value->Sem Value}{g:Int->Int->Bool}
  (rule:∀(i j:Int)(t u:Tok)(s:Shared)(Q:VP)(E:VP),Q (.bool (g i j)) s->wx X (f (.int i t) (.int j u)) Q E s) :
  jY X f (IQ λi j=>.bl (g i j)):=by
 intro pins s J H x y v u Q I r a h;obtain⟨i,j,rfl,rfl,q⟩:=h;obtain⟨t,rfl⟩:=r;obtain⟨e,rfl⟩:=a;exact rule i j t e s _ _ ⟨.bl (g i j),H,I,rfl,q⟩
def S7(i j:Int):Prop:=0≤j/\j≤1000000/\i.natAbs < 2 ^ 64
theorem Mv:jY X (binaryOp .Add) (IQ λi j=>.int (i+j)):=Pl λ_ _ _ _ _ _ _ q=>add_int q
theorem Mp:jY X (binaryOp .Sub) (IQ λi j=>.int (i-j)):=Pl λ_ _ _ _ _ _ _ q=>sub_int q
theorem Mr:jY X (binaryOp .Mod) (rI (λ_ j=>0 < j) λi j=>.int (i % j)):=QH λi j _ _ _ _ _ h q=>by have h1:(0:Int) < j:=h;exact mod_int' (by lia) (by rw[Int.fmod_eq_emod_of_nonneg i (by lia)];exact q)
theorem Mq:jY X (binaryOp .Pow) (rI S7 λi j=>.int (i ^ j.toNat)):=QH λ_ _ _ _ _ _ _ h q=>pow_int_small h.1 h.2.1 h.2.2 q
theorem TZ{f:Value->Sem Value}{g:Int->Int}
  (rule:∀(i:Int)(t:Tok)(s:Shared)(Q:VP)(E:VP),Q (.int (g i) s.toks) { s with toks:=s.toks+1 }->wx X (f (.int i t)) Q E s) :
  SS X f (rU λi=>.int (g i)):=by
 intro pins s J H x v Q I r h;obtain⟨i,rfl,q⟩:=h;obtain⟨t,rfl⟩:=r;exact rule i t s _ _ ⟨.int (g i),H,I.tok _,⟨_,rfl⟩,q⟩
theorem Lr:SS X (unaryOp .USub) (rU λi=>.int (-i)):=TZ λ_ _ _ _ _ q=>neg_int q
end
noncomputable def OS:V->V->Bool
 | .non,.non=>true | .non,.int _=>true | .int _,.non=>true | .non,.bl _=>true | .bl _,.non=>true | .non,.str _=>true | .str _,.non=>true
 | .int _,.int _=>true | .bl _,.bl _=>true | .str _,.str _=>true | .byt _,.byt _=>true
 | .int _,.str _=>true | .str _,.int _=>true | .bl _,.str _=>true | .str _,.bl _=>true
 |_,_=>false
def Ue:R2:=λx y H Q=>OS x y=true/\Q (.bl (decide (x=y))) H
def Ud:R2:=λx y H Q=>OS x y=true/\Q (.bl (!decide (x=y))) H
theorem CF{i j:Int}:decide (V.int i=V.int j)=(i == j):=by rw[kF];simp
theorem GV:decide (V.bl i=V.bl q)=(i == q):=by rw[kF];simp
theorem CD:decide (V.str i=V.str q)=(i == q):=by rw[kF];simp
theorem CG:decide (V.byt i=V.byt q)=(i.toList == q.toList):=by rw[kF];cases i;cases q;simp
section
variable{X:Cx}{a b c:Expr}{ta tb tc:TE}{B:Pos}
theorem bX(I:Inv X pins J H s)(q:Q (.bl k) H)(e:k=z):EP X pins J Q (.bool z) s:=by subst e;exact⟨.bl k,H,I,rfl,q⟩
theorem FH:jY X (compareOp .Eq) Ue:=by
 intro pins s J H x y v u Q I n r h;obtain⟨e,q⟩:=h;cases x with
 |non=>
  cases n;cases y with
  |non=>cases r;exact HK (bX I q (by simp))
  |bl j=>cases r;exact HI (bX I q (by simp))
  |int j=>obtain⟨a,rfl⟩:=r;exact HJ (bX I q (by simp))
  |str j=>obtain⟨a,rfl⟩:=r;exact HL (bX I q (by simp))
  |_=>exact absurd (show false=true from e) bP
 |bl i=>
  cases n;cases y with
  |non=>cases r;exact HG (bX I q (by simp))
  |bl j=>cases r;exact eq_bool (bX I q GV)
  |str j=>obtain⟨a,rfl⟩:=r;exact Hw (bX I q (by simp))
  |_=>exact absurd (show false=true from e) bP
 |int i=>
  obtain⟨t,rfl⟩:=n;cases y with
  |non=>cases r;exact HH (bX I q (by simp))
  |int j=>obtain⟨a,rfl⟩:=r;exact eq_int (bX I q CF)
  |str j=>obtain⟨a,rfl⟩:=r;exact Hx (bX I q (by simp))
  |_=>exact absurd (show false=true from e) bP
 |str i=>
  obtain⟨t,rfl⟩:=n;cases y with
  |non=>cases r;exact HM (bX I q (by simp))
  |bl j=>cases r;exact Hy (bX I q (by simp))
  |int j=>obtain⟨a,rfl⟩:=r;exact Hz (bX I q (by simp))
  |str j=>obtain⟨a,rfl⟩:=r;exact eq_str (bX I q CD)
  |_=>exact absurd (show false=true from e) bP
 |byt i=>
  obtain⟨t,rfl⟩:=n;cases y with
  |byt j=>obtain⟨a,rfl⟩:=r;exact PySem.W.eq_bytes (bX I q CG)
  |_=>exact absurd (show false=true from e) bP
 |_=>cases y<;>exact absurd (show false=true from e) bP
theorem FE:jY X (compareOp .NotEq) Ud:=by
 intro pins s J H x y v u Q I n r h;obtain⟨e,q⟩:=h;cases x with
 |non=>
  cases n;cases y with
  |non=>cases r;exact HS (bX I q (by simp))
  |bl j=>cases r;exact HQ (bX I q (by simp))
  |int j=>obtain⟨a,rfl⟩:=r;exact HR (bX I q (by simp))
  |str j=>obtain⟨a,rfl⟩:=r;exact HU (bX I q (by simp))
  |_=>exact absurd (show false=true from e) bP
 |bl i=>
  cases n;cases y with
  |non=>cases r;exact HN (bX I q (by simp))
  |bl j=>cases r;exact ne_bool (bX I q (dh not GV))
  |str j=>obtain⟨a,rfl⟩:=r;exact HA (bX I q (by simp))
  |_=>exact absurd (show false=true from e) bP
 |int i=>
  obtain⟨t,rfl⟩:=n;cases y with
  |non=>cases r;exact HP (bX I q (by simp))
  |int j=>obtain⟨a,rfl⟩:=r;exact ne_int (bX I q (dh not CF))
  |str j=>obtain⟨a,rfl⟩:=r;exact HC (bX I q (by simp))
  |_=>exact absurd (show false=true from e) bP
 |str i=>
  obtain⟨t,rfl⟩:=n;cases y with
  |non=>cases r;exact HV (bX I q (by simp))
  |bl j=>cases r;exact HD (bX I q (by simp))
  |int j=>obtain⟨a,rfl⟩:=r;exact HF (bX I q (by simp))
  |str j=>obtain⟨a,rfl⟩:=r;exact ne_str (bX I q (dh not CD))
  |_=>exact absurd (show false=true from e) bP
 |byt i=>
  obtain⟨t,rfl⟩:=n;cases y with
  |byt j=>obtain⟨a,rfl⟩:=r;exact PySem.W.ne_bytes (bX I q (dh not CG))
  |_=>exact absurd (show false=true from e) bP
 |_=>cases y<;>exact absurd (show false=true from e) bP
theorem O6:jY X (compareOp .Lt) (IQ λi j=>.bl (decide (i < j))):=Jo λ_ _ _ _ _ _ _ q=>Aq q
theorem O7:jY X (compareOp .LtE) (IQ λi j=>.bl (decide (i≤j))):=Jo λ_ _ _ _ _ _ _ q=>le_int q
theorem O8:jY X (compareOp .Gt) (IQ λi j=>.bl (decide (j < i))):=Jo λ_ _ _ _ _ _ _ q=>gt_int q
theorem O_:jY X (compareOp .GtE) (IQ λi j=>.bl (decide (j≤i))):=Jo λ_ _ _ _ _ _ _ q=>ge_int q
theorem Ms:jY X (compareOp .Is) (λx y H Q=>y=.non/\Q (.bl (decide (x=.non))) H):=by
 intro pins s J H x y v u Q I r a h;obtain⟨rfl,q⟩:=h;cases a;refine is_none_gen (bX I q ?_);cases x<;>first
  |(cases r;rfl)
  |(obtain⟨t,rfl⟩:=r;rfl)
theorem Jk:jY X (compareOp .IsNot) (λx y H Q=>y=.non/\Q (.bl (!decide (x=.non))) H):=by
 intro pins s J H x y v u Q I r a h;obtain⟨rfl,q⟩:=h;cases a;refine isnot_none_gen (bX I q ?_);cases x<;>first
  |(cases r;rfl)
  |(obtain⟨t,rfl⟩:=r;rfl)
theorem B2{o:CmpOp}{r:R2}(f:jY X (compareOp o) r)(n:PE X a ta)(k:PE X b tb)(m:behindInMarks o b=false):PE X (.Compare a [o] [b] B) (LG r ta tb):=by intro pins s J H Q I h;exact wpAny_Compare1 (Nv n k I h λv u p x y H2 e c t q=>f pins p J H2 x y v u Q e c t q) m
noncomputable def ET(t:TE):TT:=λJ H Q=>t J H λx H'=>∃k,x=.bl k/\Q k H'
theorem BX(o:jY X (compareOp q) r)(p:PE X a ta)(d:PE X b tb)(w:behindInMarks q b=false):PT X (.Compare a [q] [b] B) (ET (LG r ta tb)):=by
 intro pins s J H Q I h;refine wpAny_isTrue_Compare1 (c_ (p pins s J H _ I h) fun v K ⟨x,G,f,l,g⟩=>c_ (d pins K J G _ f g) fun u P ⟨y,H2,m,S,i⟩=>
  c_ (o pins P J H2 x y v u _ m l S i) λc A ⟨z,n,t,F,k,e,j⟩=>?_) w
 subst e;cases F;exact lr ⟨n,t,j⟩
noncomputable def yP(r e:R2)(ta tb tc:TE):TE:=λJ H Q=>ta J H λx G=>tb J G λy H2=>r x y H2 λz h=>∃k,z=.bl k /\
 (if k=true then tc J h λw a=>e y w a Q else Q (.bl false) h)
theorem Fz(K:jY X (compareOp N) r)(o:jY X (compareOp q) r')(j:PE X a ta)(l:PE X b tb)(S:PE X c tc)
  (F:lastMarks [N,q] [b,c]=false:=by with_unfolding_all rfl):PE X (.Compare a [N,q] [b,c] B) (yP r r' ta tb tc):=by
 intro pins s J H Q I h;refine Compare_chain (c_ (j pins s J H _ I h) fun v M ⟨x,G,w,D,P⟩=>chain_link (c_ (l pins M J G _ w P) fun u R ⟨y,H2,g,t,A⟩=>
  c_ (K pins R J H2 x y v u _ g D t A) λd T ⟨z,n,f,E,k,e,m⟩=>?_)) F
 subst e;cases E;refine lr ?_;cases k with
 |false=>exact ite_ff ⟨.bl false,n,f,rfl,m⟩
 |true=>exact ite_tt (chain_last (c_ (S pins T J n _ f m) λW V ⟨Z,p,i,L,C⟩=>o pins V J p y Z u W Q i t L C))
theorem Fg(D:jY X (compareOp N) r)(o:jY X (compareOp q) r')(K:PE X a ta)(P:PE X b tb)(A:PE X c tc)
  (C:lastMarks [N,q] [b,c]=false:=by with_unfolding_all rfl):PT X (.Compare a [N,q] [b,c] B) (ET (yP r r' ta tb tc)):=by
 intro pins s J H Q I h;refine isTrue_chain (c_ (K pins s J H _ I h) fun v s1 ⟨x,G,g,W,M⟩=>test_link (c_ (P pins s1 J G _ g M) fun u s2 ⟨y,H2,i,t,R⟩=>
  c_ (D pins s2 J H2 x y v u _ i W t R) λd s3 ⟨z,n,f,Z,k,e,m⟩=>?_)) C
 subst e;cases Z;refine lr ?_;cases k with
 |false=>obtain⟨k',S,L⟩:=m;cases S;exact ite_ff ⟨n,f,L⟩
 |true=>refine ite_tt (test_last (c_ (A pins s3 J n _ f m) λw' s4 ⟨z',p,j,r4,T⟩=>c_ (o pins s4 J p y z' u w' _ j t r4 T) λd' s5 E=>?_));obtain⟨z2,w,l,r5,k2,F,V⟩:=E;subst F;cases r5;exact lr ⟨w,l,V⟩
def NA(K:FG)(x:V)(H:Hp)(k:Bool):Prop:=
 match x with
 | .non=>k=false
 | .bl b=>k=b
 | .int i=>k=(i != 0)
 | .str y=>y.length≤sizeLine/\k=((y.length:Int) != 0)
 | .byt y=>y.size≤sizeLine/\k=((y.size:Int) != 0)
 | .ref p=>(∃xs,g0 K H p xs/\k=!xs.isEmpty)\/(∃xs,p' K H p xs/\k=!xs.isEmpty)\/∃kvs,H p=some (.dK kvs)/\k=!kvs.isEmpty
 |_=>False
theorem zc(r:KV kvs q):(!q.isEmpty)=!kvs.isEmpty:=by cases r<;>rfl
theorem sH(r:bb xs q):(!q.toArray.isEmpty)=!xs.isEmpty:=by cases r<;>simp
theorem lA:(sizeLine:Nat) < 2 ^ 63:=by rw[oM];decide
theorem vJ:SU X (λx H Q=>∃k,NA X.K x H k/\Q k H):=by
 intro pins s J H x v Q I rx h;obtain⟨k,e,q⟩:=h;have hl:=lA;have hs:sizeLine=16777216:=oM;cases x with
 |non=>cases rx;have e':k=false:=e;subst e';exact truthy_none ⟨H,I,q⟩
 |bl b=>cases rx;have e':k=b:=e;subst e';exact lr ⟨H,I,q⟩
 |int i=>obtain⟨t,rfl⟩:=rx;have e':k=(i != 0):=e;subst e';exact PySem.P.truthy_int ⟨H,I,q⟩
 |str y=>obtain⟨t,rfl⟩:=rx;obtain⟨hy,e'⟩:y.length≤sizeLine/\k=((y.length:Int) != 0):=e;subst e';exact PySem.P.truthy_str (by lia) ⟨H,I.tok _,q⟩
 |byt y=>obtain⟨t,rfl⟩:=rx;obtain⟨hy,e'⟩:y.size≤sizeLine/\k=((y.size:Int) != 0):=e;subst e';exact PySem.W.truthy_bytes (by lia) ⟨H,I.tok _,q⟩
 |ref p=>
  cases rx;have e':(∃xs,g0 X.K H p xs/\k=!xs.isEmpty)\/(∃xs,p' X.K H p xs/\k=!xs.isEmpty)\/∃kvs,H p=some (.dK kvs)/\k=!kvs.isEmpty:=e;rcases e' with ⟨xs,hx,e'⟩|⟨xs,hx,e'⟩|⟨kvs,hx,e'⟩
  .subst e';obtain⟨its,r,pl,hz⟩:=I.list hx;have hlen:=r.length;exact wpAny_truthy_list pl.isList (by simp only[bf];lia) ⟨H,I.tok _,by rw[sH r];exact q⟩
  .subst e';obtain⟨its,r,pl,hz⟩:=I.tuple hx;have hlen:=r.length;exact truthy_tuple pl (by simp only[bf];lia) ⟨H,I.tok _,by rw[sH r];exact q⟩
  .subst e';obtain⟨hz,hS,vs,r,m⟩:kvs.length≤sizeLine/\(p == sysModules)=false/\∃vs,KV kvs vs/\s.heap.DictOf (cL X.p X.w) p vs:=I.h p _ hx;have hlen:kvs.length=vs.length:=Paired.length r;exact wpAny_truthy_dict hS m (by lia) ⟨H,I.tok _,by rw[zc r];exact q⟩
 |_=>exact(show False from e).elim
theorem Ff(n:PE X a ta)(f:∀w,isTrue a X.e w=(do let v <- w;standAt a.pos;holding [v] (truthy v))) :
  PT X a (λJ H Q=>ta J H λx H'=>∃k,NA X.K x H' k/\Q k H'):=by
 intro pins s J H Q I h;exact isTrue_plain (c_ (n pins s J H _ I h) λv b z=>by obtain⟨x,G,e,r,q⟩:=z;exact vJ pins b J G x v Q e r q) (f _)
theorem y3:jY X (binaryOp .Add) (λx y H Q=>∃i j,x=.str i/\y=.str j/\i.length+j.length≤sizeLine/\Q (.str (i++j)) H):=by intro pins s J H x y v u Q I r a h;obtain⟨i,j,rfl,rfl,z,q⟩:=h;obtain⟨t,rfl⟩:=r;obtain⟨e,rfl⟩:=a;exact add_str (λe tk=>⟨.str (i++j),H,I.tok _,⟨_,rfl⟩,q⟩) z
theorem vals1(r:bb [x] j):∃u,j=[u]/\RelV x u:=by
 cases r with
 |cons h a=>cases a;exact⟨_,rfl,h⟩
theorem vals2(r:bb [x,y] j):∃u w,j=[u,w]/\RelV x u/\RelV y w:=by
 cases r with
 |cons h a=>
  cases a with
  |cons e s=>cases s;exact⟨_,_,rfl,h,e⟩
theorem G5:fL X (.builtin "abs") (λxs H Q=>∃i,xs=[.int i]/\Q (.int (if i < 0 then -i else i)) H):=by intro pins s J H xs j Q I r h;obtain⟨i,rfl,q⟩:=h;obtain⟨u,rfl,t,rfl⟩:=vals1 r;exact call_abs_int λu tk=>⟨.int (if i < 0 then -i else i),H,I.tok _,⟨_,rfl⟩,q⟩
theorem uB:fL X (.type "int") (λxs H Q=>(∃i,xs=[.int i]/\Q (.int i) H)\/∃k,xs=[.bl k]/\Q (.int (if k then 1 else 0)) H):=by
 intro pins s J H xs j Q I r h;rcases h with ⟨i,rfl,q⟩|⟨k,rfl,q⟩
 .obtain⟨u,rfl,t,rfl⟩:=vals1 r;exact call_int_int ⟨.int i,H,I,⟨_,rfl⟩,q⟩
 .obtain⟨u,rfl,x⟩:=vals1 r;cases x;exact call_int_bool ⟨.int (if k then 1 else 0),H,I.tok _,⟨_,rfl⟩,q⟩
end
structure ObjM(h:Heap)(x dx C:Addr)(mA:SV):Prop where
 obj:h.get? x=some (lu C dx)
 ns:h.Ns1 dx mA
 ne:dx≠x
set_option tactic.hygienic true in
theorem Dk(n:h.Ns1 dx mA):∃d,h.get? dx=some d/\∀name,u_ name d=some (mA name):=by
 obtain⟨o,es,p,s,hd,hk,_,m⟩:=n;refine⟨o,s,λname=>?_⟩;have e:=m name;unfold nsFind findBy at e;rw[<- Array.find?_toList]at e;unfold u_;rw[hd];dsimp only;split
 .rename_i y q;rw[q]at e;exact dh some e
 .rename_i q;rw[q]at e;have a:es.toList.any (·.refKey)=false:=by
   rw[List.any_eq_false];intro y f;obtain⟨z,t,k⟩:=hk y (Array.mem_toList_iff.mp f);simp[DictEntry.refKey,k]
  have x:¬es.toList.any (·.refKey)=true:=by rw[a];exact bP
  rw[ah x];exact dh some e
variable{C:Addr}
theorem ObjM.look(I:ObjM h x dx C mA):∃o,PySem.W.InstAt h x (lu C dx) C (some o)/\∀name,u_ name o=some (mA name):=
 let ⟨o,a,l⟩:=Dk I.ns
 ⟨o,⟨I.obj,rfl,rfl,a⟩,l⟩
section
variable{prog:Program}{w:World}{A:Around}{E:VP}{s:Shared}{K:FG}{x dx C f:Addr}{mA:SV}{name:Str}{v:Value}
theorem JL(X:K.In s.heap)(I:ObjM s.heap x dx C mA)(g:rO K C name=true)(k:vo K C=true)
  (n:dj K (.ref C) name=some none) (f:mA name=some v) (a:Eg v=true) (h:Q v { s with toks:=s.toks+1 }) :
  wpAny (model prog w) A (getAttr (.ref x) name q) Q E s:=by
 obtain⟨o,e,l⟩:=I.look;exact PySem.W.get_value X e (yG g).1 (PySem.W.findObj_own k n rfl (by rw[l,f])) a h
theorem Gz(X:K.In s.heap)(I:ObjM s.heap x dx C mA)(g:rO K C name=true)
  (e:dj K (.ref C) name=some (some (.ref f))) (t:u1 K (.ref f)=true) (v:mA name=none) (h:Q (.ref f,[.ref x]) s) :
  wpAny (model prog w) A (getMethod (.ref x) name q) Q E s:=by
 obtain⟨o,a,l⟩:=I.look;exact PySem.W.method_fn X a (yG g).1 (yG g).2 e (nv.mp t) (by show(u_ name o).map (·.isSome)=some false;rw[l,v];rfl) h
theorem II(X:K.In s.heap)(I:ObjM s.heap x dx C mA)
  (u:dj K (.ref C) "__setattr__"=some (some (.builtin "object.__setattr__"))) (q:yE K C=true) (g:yC K C name=some none) (t:vo K C=true)
  (hw:yq mA N) (z:N.length≤sizeLine)
  (h:∀h',ObjM h' x dx C (λy=>if y=name then some v else mA y)->fw dx s.heap h'->Q () { s with heap:=h',toks:=s.toks+2 }) :
  wpAny (model prog w) A (setAttr (.ref x) name v) Q E s:=by
 obtain⟨S,k,l⟩:=I.look;refine PySem.W.set_plain X k u (PySem.W.osa_open (s:={ s with toks:=s.toks+1 }) (r:=none) X k q g λb=>?_);obtain⟨j,m,d⟩:=PySem.W.any_some t;have i:s.heap.get? x=some ⟨.ref C,some dx,.plain,#[]⟩:=I.obj;refine ae (aC (ae (ae (wpAny_loadPart i (ae (PySem.W.Looks.here (s:={ s with toks:=s.toks+1 }) (PySem.W.looks_clsIn X m) ?_))))));rw[d];refine aC (a:=some dx) (ae (aC (ae ?_)));refine wpAny_nsSet1 (s:={ s with toks:=s.toks+1 }) I.ns λh' n e=>?_;obtain⟨H,f,p,o,D,c⟩:=n.count (PySem.Within.cons name v hw);refine ae (wpAny_lookBehind o (by rw[D];exact pastItsLine_dict (aI c (by rw[aR];lia))) ?_);exact aC (h _ ⟨(e.2 _ (aS I.ne)).trans I.obj,n,I.ne⟩ e)
theorem FW(X:K.In s.heap)(m:yB K C=true)
  (hi:dj K (.ref C) "__init__"=some (some (.ref f))) (x:PySem.W.typeIn K (.ref f)=some (.type "function"))
  (h:codeAny (model prog w) (A.under (.builtin "type.__call__" ⟨.ref C::q,kw⟩)) (.call (.ref f) ⟨.ref (s.heap.objs.size+1)::q,kw⟩) (PySem.W.InitBack (s.heap.objs.size+1) R)
   { s with heap:=(s.heap.push kE).push (lu C s.heap.objs.size) }) :
  codeAny (model prog w) A (.call (.ref C) ⟨q,kw⟩) R s:=by
 obtain⟨a,g,d,t,os⟩:=s;exact PySem.W.make_core (PySem.W.makes_of X m) (PySem.W.looks_findIn X hi) (λe=>PySem.W.bind_fn X e x) (.inl rfl) h
end
noncomputable def j3(f:Str)(v:V):List (Str×V)->List (Str×V)
 | []=>[(f,v)]
 |(g,x)::r=>if g=f then (g,v)::r else (g,x)::j3 f v r
theorem pE(f g:Str)(v:V):∀fs:List (Str×V),(j3 f v fs).lookup g=if g=f then some v else fs.lookup g
 | []=>by
  show gx g [(f,v)]=_;by_cases h:g=f
  .have b:(g == f)=true:=nv.mpr h;simp only[gx,b,af h]
  .have b:(g == f)=false:=jF.mpr h;simp only[gx,b,ah h]
 |(k,x)::r=>by
  have i:=pE f g v r;rw[show j3 f v ((k,x)::r)=(if k=f then (k,v)::r else (k,x)::j3 f v r) from rfl];by_cases hk:k=f
  .rw [af hk];by_cases h:g=k
   .have b:(g == k)=true:=nv.mpr h;simp only[gx,b,af (h.trans hk)]
   .have b:(g == k)=false:=jF.mpr h;simp only[gx,b,ah (λe:g=f=>h (e.trans hk.symm))]
  .rw [ah hk];by_cases h:g=k
   .have b:(g == k)=true:=nv.mpr h;simp only[gx,b,ah (λe:g=f=>hk (h.symm.trans e))]
   .have b:(g == k)=false:=jF.mpr h;simp only[gx,b];exact i
theorem oZ(f:Str)(v:V):∀fs:List (Str×V),f ∈ (j3 f v fs).map (·.1)/\∀g,g ∈ fs.map (·.1)->g ∈ (j3 f v fs).map (·.1)
 | []=>⟨by simp[j3],λg h=>by simp at h⟩
 |(k,x)::r=>by
  obtain⟨i,a⟩:=oZ f v r;rw[show j3 f v ((k,x)::r)=(if k=f then (k,v)::r else (k,x)::j3 f v r) from rfl];by_cases hk:k=f
  .rw [af hk];subst hk;exact⟨by simp,λg h=>by simpa using h⟩
  .rw [ah hk];refine⟨?_,λg h=>?_⟩
   .rw [aG];exact aH _ i
   .rw [aG]at h ⊢;rcases aQ.mp h with e|e
    .exact aQ.mpr (.inl e)
    .exact aH _ (a g e)
theorem pF(f:Str)(v:V):∀fs:List (Str×V),(j3 f v fs).length≤fs.length+1
 | []=>by simp[j3]
 |(k,x)::r=>by
  have i:=pF f v r;rw[show j3 f v ((k,x)::r)=(if k=f then (k,v)::r else (k,x)::j3 f v r) from rfl];by_cases hk:k=f
  .rw [af hk,aR,aR];lia
  .rw [ah hk,aR,aR];lia
theorem lq.some_of{v:V}{o:OV}(r:lq (some v) o):∃u,o=some u/\RelV v u:=by
 cases o with
 |none=>exact(show False from r).elim
 |some u=>exact⟨u,rfl,r⟩
theorem lq.none_of{o:OV}(r:lq none o):o=none:=by
 cases o with
 |none=>rfl
 |some u=>exact(show False from r).elim
variable{v:V}
theorem Dv(r:RelV v u):Eg u=true:=by
 cases v with
 |non=>cases (show u=Value.none from r);rfl
 |bl b=>cases (show u=Value.bool b from r);rfl
 |int i=>obtain⟨t,e⟩:=(show ∃t,u=Value.int i t from r);cases e;rfl
 |str x=>obtain⟨t,e⟩:=(show ∃t,u=Value.str x t from r);cases e;rfl
 |byt b=>obtain⟨t,e⟩:=(show ∃t,u=Value.bytes b t from r);cases e;rfl
 |flt b=>obtain⟨t,e⟩:=(show ∃t,u=Value.float b t from r);cases e;rfl
 |ref a=>cases (show u=Value.ref a from r);rfl
 |ty n=>cases (show u=Value.type n from r);rfl
section
variable{P:Program}{w:World}{H H':Hp}{h h':Heap}{a C dx:Addr}{fs fs':List (Str×V)}
theorem wj(o:mh P w H h)(e:H a=some (.ins C dx fs)):∃mA,ObjM h a dx C mA/\(∀f,lq (fs.lookup f) (mA f))/\yq mA (fs.map (·.1))/\fs.length≤1000/\H dx=some (.own a):=by obtain⟨d,z,x,b,mA,n,r,q⟩:=(show dC P w H h a (.ins C dx fs) from o a _ e);exact⟨mA,⟨b,n,x⟩,r,q,z,d⟩
end
structure Cls(K:FG)(C:Addr):Prop where
 pg:rO K C Str.empty=true
 hd:vo K C=true
 po:yE K C=true
 sa:dj K (.ref C) "__setattr__"=some (some (.builtin "object.__setattr__"))
theorem Cls.get(c:Cls K C)(f:Str):rO K C f=true:=c.pg
def np(K:FG)(C:Addr)(f:Str):Prop:=dj K (.ref C) f=some none
theorem np.taker(n:np K C f):yC K C f=some none:=by unfold yC;rw[show dj K (.ref C) f=some none from n];rfl
structure Con(K:FG)(C:Addr)(f:Str)(v:V)(u:Value):Prop where
 at_:dj K (.ref C) f=some (some u)
 rel:RelV v u
 get:Eh K u "__get__"=some none
 cp:PySem.W.copiedNames.contains f=false
structure Meth(K:FG)(C:Addr)(m:Str)(f:Addr):Prop where
 at_:dj K (.ref C) m=some (some (.ref f))
 fn:u1 K (.ref f)=true
 kp:iH K (.ref f)=true
section
variable{X:Cx}{pins:PN}{J:St}{H:Hp}{s:Shared}{a C dx:Addr}{fs:List (Str×V)}{f:Str}{v:V}{A:Around}{E:VP}
theorem zj{b:Bool}{Q:VP}(I:Inv X pins J H s)(e:H a=some (.ins C dx fs))(c:Cls X.K C)(n:np X.K C f)(l:fs.lookup f=some v)
  (h:∀u s',Inv X pins J H s'->RelV v u->Q u s'):wpAny (model X.p X.w) A (getAttr (.ref a) f b) Q E s:=by
 obtain⟨mA,k,r,_,_,_⟩:=wj I.h e;obtain⟨u,m,x⟩:=lq.some_of (v:=v) (o:=mA f) (by rw[<- l];exact r f);exact JL I.kIn k (c.get f) c.hd n m (Dv x) (h u _ (I.tok _) x)
theorem sL{m:Str}{g:Addr}{p:Sem Bool}{Q:Value×LV->Shared->Prop}(I:Inv X pins J H s)(e:H a=some (.ins C dx fs))(c:Cls X.K C)(k:Meth X.K C m g)(l:fs.lookup m=none)
  (h:Q (.ref g,[.ref a]) s):wpAny (model X.p X.w) A (getMethod (.ref a) m p) Q E s:=by
 obtain⟨mA,x,r,_,_,_⟩:=wj I.h e;have n:mA m=none:=lq.none_of (by rw[<- l];exact r m);exact Gz I.kIn x (c.get m) k.at_ k.fn n h
theorem yV(I:Inv X pins J H s)(e:H a=some (.ins C dx fs))(c:Cls X.K C)(n:np X.K C f)(hl:fs.length < 1000)(ry:RelV y u)
  (h:∀s',Inv X pins J (cq H a (.ins C dx (j3 f y fs))) s'->Q () s'):wpAny (model X.p X.w) A (setAttr (.ref a) f u) Q E s:=by
 obtain⟨mA,O9,r,wi,_,ho⟩:=wj I.h e;have hz:(fs.map (·.1)).length≤sizeLine:=by rw[aZ,oM];lia
 refine II I.kIn O9 c.sa c.po n.taker c.hd wi hz λh' O' sb=>h _ ?_;have hd:∃o,h'.get? dx=some o:=let ⟨o,_,_,e',_⟩:=O'.ns;⟨o,e'⟩
 refine I.write (x:=a) (e:=dx) (by rw[e];exact True.intro) (.inr ho) (λb q hb z=>(sb.2 b hb).trans z) hd ?_;refine⟨by rw[aN O9.ne];exact ho,?_,O9.ne,O'.obj,_,O'.ns,λg=>?_,λg hg=>?_⟩
 .have:=pF f y fs;lia
 .show lq ((j3 f y fs).lookup g) (if g=f then some u else mA g);rw[pE];by_cases q:g=f
  .rw [af q,af q];exact ry
  .rw [ah q,ah q];exact r g
 .by_cases q:g=f
  .rw [q];exact(oZ f y fs).1
  .refine (oZ f y fs).2 g (wi g λz=>hg ?_);show(if g=f then some u else mA g)=none;rw[ah q];exact z
theorem Inv.made(I:Inv X pins J H s):Inv X pins J (cq (cq H s.heap.objs.size (.own (s.heap.objs.size+1))) (s.heap.objs.size+1) (.ins C s.heap.objs.size []))
  { s with heap:=(s.heap.push kE).push (lu C s.heap.objs.size) }:=by
 have h:(s.heap.push kE).get? s.heap.objs.size=some kE:=cw s.heap rfl;have k:((s.heap.push kE).push (lu C s.heap.objs.size)).get? (s.heap.objs.size+1)=some (lu C s.heap.objs.size):=by have:=cw (s.heap.push kE) (o:=lu C s.heap.objs.size) rfl;rwa [uV]at this
 have f:(s.heap.push kE).Ns s.heap.objs.size (λ_=>none):=⟨kE,#[],_,h,rfl,(λe c=>absurd c (by simp)),λ_=>rfl⟩;have x:=I.laid (a:=s.heap.objs.size) (o:=.own (s.heap.objs.size+1)) (h':=s.heap.push kE) (t':=s.toks) (λb u q=>ba _ q) (al _) ⟨_,h⟩;refine x.laid (a:=s.heap.objs.size+1) (o:=.ins C s.heap.objs.size []) (t':=s.toks) (λb u q=>ba _ q) (qx (uV _ _)) ?_;have n:s.heap.objs.size≠s.heap.objs.size+1:=bK (jH _);refine⟨by rw[aN n,aV],cQ _,n,k,λ_=>none,(Heap.Ns1.of_empty f).at λo q=>ba _ q,λ_=>True.intro,λy m=>absurd rfl m⟩
theorem Ka(b:attributeBase e f q (eval e q)=eval e q)
  (h:wpAny (model prog w) A (eval e q) (λo x=>wpAny (model prog w) A (getAttr o f true) Q E x) E s):wpAny (model prog w) A (eval (.Attribute e f B) q) Q E s:=
 Attribute_any_ h (by rw[arm_eval_Attribute,b])
end
def RT(K:FG)(ta:TE)(f:Str):TE:=λJ H Q=>ta J H λx G=>∃a C dx fs v,x=.ref a/\G a=some (.ins C dx fs)/\Cls K C/\np K C f/\fs.lookup f=some v/\Q v G
def RY(K:FG)(ta tv:TE)(f:Str):TS:=λD J H=>tv J H λy G=>ta J G λx H2=>∃a C dx fs,x=.ref a/\H2 a=some (.ins C dx fs)/\Cls K C/\np K C f/\fs.length < 1000 /\
 D.nx J (cq H2 a (.ins C dx (j3 f y fs)))
section
variable{X:Cx}{o e value:Expr}{f:Str}{B pos' tpos:Pos}{ta tv:TE}
theorem Mn(t:PE X e ta)(r:attributeBase e f X.e (eval e X.e)=eval e X.e):PE X (.Attribute e f B) (RT X.K ta f):=by intro pins s J H Q I h;refine Ka r (c_ (t pins s J H _ I h) λu w z=>?_);obtain⟨x,G,k,d,a,C,dx,fs,v,ex,m,c,n,l,q⟩:=z;subst ex;obtain rfl:u=Value.ref a:=d;exact zj k m c n l λi g b p=>⟨v,G,b,p,q⟩
theorem Ma(r:PE X o ta)(v:PE X value tv)(t:swapsWith value (some (.Attribute o f pos')) B.line X.e=pure false):PS X (.Assign [.Attribute o f pos'] value B) (RY X.K ta tv f):=by intro pins s J H D I h;refine plainObj_wpAny_Assign_Attribute (c_ (v pins s J H _ I h) λu i ⟨y,G,e,g,q⟩=>c_ (r pins i J G _ e q) λp j z=>?_) t;obtain⟨x,H2,k,w,a,C,dx,fs,ex,m,c,n,l,d⟩:=z;subst ex;obtain rfl:p=Value.ref a:=w;exact yV k m c n l g λS b=>⟨J,_,b,d⟩
end
section
variable{X:Cx}{pins:PN}{J:St}{H:Hp}{s:Shared}{A:Around}{E:VP}{Q:VP}{c:Value}{b:Bool}
inductive TyOf(K:FG)(H:Hp):V->Value->Prop where
 |non:TyOf K H .non (.type "NoneType")
 |bl (x:Bool):TyOf K H (.bl x) (.type "bool")
 |int (i:Int):TyOf K H (.int i) (.type "int")
 |str (x:Str):TyOf K H (.str x) (.type "str")
 |flt (x:UInt64):TyOf K H (.flt x) (.type "float")
 |lst {a:Addr}{xs:List V} (e:H a=some (.lst xs)):TyOf K H (.ref a) (.type "list")
 |frz {a:Addr}{o:Obj}{xs:List V} (e:H a=some (.frz o (.lst xs))):TyOf K H (.ref a) (.type "list")
 |tup {a:Addr}{xs:List V} (e:H a=some (.tup xs)):TyOf K H (.ref a) (.type "tuple")
 |dK {a:Addr}{kvs:List (cu×V)} (e:H a=some (.dK kvs)):TyOf K H (.ref a) (.type "dict")
 |dT {a:Addr}{kvs:List (List cu×V)} (e:H a=some (.dT kvs)):TyOf K H (.ref a) (.type "dict")
 |ins {a C dx:Addr}{fs:List (Str×V)} (e:H a=some (.ins C dx fs)) (cl:Cls K C) (ha:dj K (.ref C) "__class__"=some (some (.builtin "object.__class__")))
   (hn:Eh K (.builtin "object.__class__") "__get__"=some (some (.builtin "getset_descriptor.__get__"))) (htk:PySem.W.takesIn K (.builtin "object.__class__")=some true)
   (hm:PySem.W.mroIn K C (.type "object")=some true):TyOf K H (.ref a) (.ref C)
end
structure Room(k:Nat)(A:Around):Prop where
 hd:A.handled=none
 dp:A.depth+3 * k+5 < recursionLimit
 un:A.units+16 * k+200 < cLine
variable{k:Nat}
theorem Room.mono(r:Room k A)(h:q≤k):Room q A:=⟨r.hd,by have:=r.dp;lia,by have:=r.un;lia⟩
theorem Room.deeper(r:Room (k+1) A)(e:Env):Room k (A.deeper e):=
 ⟨r.hd,by have:=r.dp;show A.depth+1+3 * k+5 < _;lia,by have:=r.un;show A.units+3+16 * k+200 < _;lia⟩
variable{kw:List (Str×Value)}
theorem y8:(A.under (.builtin "type.__call__" ⟨.ref C::j,kw⟩)).depth=A.depth+1:=by first|rfl|simp[vA,Code.weight,Code.isCreation,Code.isGuard,Code.isCaller,Code.frames,Code.isFrame,guardIds]
theorem y7:(A.under (.builtin "type.__call__" ⟨.ref C::j,kw⟩)).units=A.units+1:=by first|rfl|simp[vA,Code.cUnits,Code.frames,Code.isFrame]
theorem Room.make(r:Room (k+1) A)(C:Addr)(j:LV)(kw:List (Str×Value)):Room k (A.under (.builtin "type.__call__" ⟨.ref C::j,kw⟩)):=
 ⟨r.hd,by have:=r.dp;rw[y8];lia,by have:=r.un;rw[y7];lia⟩
theorem Room.depth(r:Room k A):A.depth < recursionLimit:=by have:=r.dp;lia
noncomputable def OC:TA:=λ_ H Q=>Q [] H
noncomputable def OG(ta:TE)(tr:TA):TA:=λJ H Q=>ta J H λx G=>tr J G λxs H2=>Q (x::xs) H2
section
variable{X:Cx}{e:Expr}{es:Ab}{te:TE}{t:TA}{B:Pos}
theorem js:PA X [] OC:=λ_ _ _ _ H Q I h=>i0 ⟨[],H,I,.nil,h⟩
theorem fX(k:PE X e te)(r:PA X es t)(f:starEach (e::es) X.e=(false,eval e X.e)::starEach es X.e:=by rfl):PA X (e::es) (OG te t):=by intro B pins s J H Q I h;rw[f];show wpAny _ _ (spliced ((false,eval e X.e)::backTo B (starEach es X.e))) _ _ s;refine fu (c_ (k pins s J H _ I h) λu p z=>?_);obtain⟨x,G,a,c,q⟩:=z;exact c_ (r B pins p J G _ a q) λj v z=>by obtain⟨xs,H2,n,m,b⟩:=z;exact⟨x::xs,H2,n,.cons c m,b⟩
def RI(t:TA):TE:=λJ H Q=>t J H λxs G=>xs.length≤sizeLine/\∀p,G p=none->Q (.ref p) (cq G p (.tup xs))
def RQ(t:TA):TE:=λJ H Q=>t J H λxs G=>xs.length≤sizeLine/\∀p,G p=none->Q (.ref p) (cq G p (.lst xs))
theorem vV {N} (h:PA X es t):PE X (.Tuple es N B) (RI t):=by intro pins s J H Q I n;refine wpAny_Tuple_spliced (c_ (h B pins s J H _ I n) λj x k=>?_);obtain⟨xs,G,a,r,z,q⟩:=k;refine⟨by rw[<- r.length];exact z,?_⟩;have f:G x.heap.objs.size=none:=a.h.fresh (al _);refine⟨.ref x.heap.objs.size,cq G x.heap.objs.size (.tup xs),a.laid (t':=x.toks) (λb u e=>ba _ e) (al _) ?_,rfl,q _ f⟩;exact⟨z,j,r,pq.new _ _⟩
theorem Ft(h:PA X es t):PE X (.List es B) (RQ t):=by intro pins s J H Q I n;refine wpAny_List_spliced (c_ (h B pins s J H _ I n) λj x k=>?_);obtain⟨xs,G,a,r,z,q⟩:=k;refine⟨by rw[<- r.length];exact z,?_⟩;have f:G x.heap.objs.size=none:=a.h.fresh (al _);refine⟨.ref x.heap.objs.size,cq G x.heap.objs.size (.lst xs),a.laid (t':=x.toks) (λb u e=>ba _ e) (al _) ?_,rfl,q _ f⟩;exact⟨z,j,0,r,cw _ rfl⟩
end
noncomputable abbrev Sp:=List V->Hp->VK->XK->Prop
noncomputable abbrev DT:=List Env->Hp->Shared->XK->VP
structure Env0(P:Program)(w:World)(K:FG)(mg:SV)(base:Heap)(A:Around)(outer:List Env)(s:Shared)(H:Hp):Prop where
 frames:A.frames=some outer
 mod:Mod K mg base
 bs:∀b o,base.get? b=some o->s.heap.get? b=some o/\H b=none
 bsz:base.objs.size≤s.heap.objs.size
 funs:s.heap.FunFrames base outer
 frf:∀b ∈ GD outer,H b=none
 h:mh P w H s.heap
 bare:AllBare s.gens
def CE(o:List Env)(P:Program)(w:World)(H:Hp)(s:Shared)(Q:VK)(u:Value)(s':Shared):Prop:=
 ∃v H',s'.os=s.os/\AllBare s'.gens/\Un (GD o) [] H H' s.heap s'.heap/\mh P w H' s'.heap/\RelV v u/\Q v H'
def CR(CX:DT)(o:List Env)(P:Program)(w:World)(H:Hp)(s:Shared)(Q:VK)(E:XK)(r:Result)(s':Shared):Prop:=
 match r with
 | .ok (.ret u)=>CE o P w H s Q u s'
 | .ok _=>False
 | .error e=>CX o H s E e s'
structure FnOk(P:Program)(w:World)(K:FG)(mg:SV)(base:Heap)(CX:DT)(k:Nat)(f:Addr)(fd:FuncData)(ps:LS)(sp:Sp):Prop where
 len:∀vs H Q E,sp vs H Q E->vs.length=ps.length
 run:∀(A:Around)(outer:List Env)(s:Shared)(H:Hp)(args:Args)(us:LV)(vs:List V)(Q:VK)(E:XK),Room k A->Env0 P w K mg base A outer s H->BindsTo s fd args (ps.zip us)->bb vs us->sp vs H Q E ->
  codeAny (model P w) A (.call (.ref f) args) (CR CX outer P w H s Q E) s
variable{mg:SV}{base:Heap}{fd:FuncData}{ps:LS}
theorem FnOk.mono(F:FnOk P w K mg base CX q f fd ps sp)(h:q≤k) :
  FnOk P w K mg base CX k f fd ps sp:=⟨F.len,λA o s H a j v Q E r=>F.run A o s H a j v Q E (r.mono h)⟩
theorem FnOk.imp(F:FnOk P w K mg base CX k f fd ps sp)
  (h:∀v H Q E,z v H Q E->sp v H Q E):FnOk P w K mg base CX k f fd ps z:=
 ⟨λv H Q E q=>F.len v H Q E (h _ _ _ _ q),λA o s H a j v Q E r e b n x=>F.run A o s H a j v Q E r e b n (h _ _ _ _ x)⟩
theorem Env0.make(e:Env0 P w K mg base A q s H)(C:Addr)(j:LV)(kw:List (Str×Value)) :
  Env0 P w K mg base (A.under (.builtin "type.__call__" ⟨.ref C::j,kw⟩)) q s H:=⟨by first|exact e.frames|(simpa[vA,Code.envs,Code.isFrame,pushEnvs] using e.frames),e.mod,e.bs,e.bsz,e.funs,e.frf,e.h,e.bare⟩
section
variable{X:Cx}{pins:PN}{J:St}{H:Hp}{s s':Shared}
theorem Inv.env0(I:Inv X pins J H s):Env0 X.p X.w X.K X.g X.b X.A X.k s H:=
 ⟨I.o.frames,I.o.mod,I.bs,aI I.o.bsz I.sz,I.stack,I.stkFree,I.h,I.bare⟩
theorem Inv.after(I:Inv X pins J H s)(h:CE X.k X.p X.w H s Q u s'):EP X pins J Q u s':=by obtain⟨v,H',os,a,un,o,r,q⟩:=h;obtain⟨e,g,d,t,x⟩:=s';obtain rfl:x=s.os:=os;exact⟨v,H',I.call (h':=e) (g':=g) (d':=d) (t':=t) (ch:=[]) un o a (λb z=>absurd z (by simp)),r,q⟩
end
noncomputable def OH(sp:Sp)(dvs:List V)(E:XK)(t:TA):TE:=λJ H Q=>t J H λv G=>sp (v++dvs) G Q E
def EU(C:Addr)(m:Str)(sp:Sp)(dvs:List V)(E:XK)(ta:TE)(t:TA):TE:=λJ H Q=>ta J H λx G=>∃a dx fs,x=.ref a/\G a=some (.ins C dx fs)/\fs.lookup m=none /\
 t J G λv H2=>sp (x::(v++dvs)) H2 Q E
def OE(C:Addr)(sp:Sp)(dvs:List V)(E:XK)(t:TA):TE:=λJ H Q=>t J H λs G=>∀x dx,G x=none->G dx=none->dx≠x ->
 sp (.ref x::(s++dvs)) (cq (cq G dx (.own x)) x (.ins C dx [])) (λv H2=>v=.non/\Q (.ref x) H2) E
def Binds(K:FG)(fd:FuncData)(ps:LS)(ds:LV):Prop:=
 ∀(s:Shared)(j:LV),K.In s.heap->(j++ds).length=ps.length->BindsTo s fd ⟨j,[]⟩ (ps.zip (j++ds))
theorem Binds.all(h:∀j:LV,j.length=ps.length->bindArgs fd ⟨j,[]⟩=pure (ps.zip j)):Binds K fd ps []:=λs j _ l=>by rw[eA]at l ⊢;exact .of_eq (h j l)
def nl(CX:DT)(X:Cx)(E:XK):Prop:=∀(pins:PN)(J:St)(H:Hp)(s:Shared)(e:Value)(s':Shared),Inv X pins J H s->CX X.k H s E e s'->X.xe e s'
section
variable{X:Cx}{CX:DT}{k:Nat}{f C:Addr}{fd:FuncData}{ps:LS}{sp:Sp}{dvs:List V}{ds:LV}{E:XK}{x m:Str}{p B apos:Pos}{e o:Expr}{es:Ab}{ta:TE}{t:TA}
set_option tactic.hygienic true in
theorem yY(F:FnOk X.p X.w X.K X.g X.b CX k f fd ps sp)(n:Room k X.A)(b:Binds X.K fd ps ds)(hd:bb dvs ds)(c:nl CX X E)
  (I:Inv X pins J H s) (r:bb z j) (h:sp (z++dvs) H Q E):wx X (call (.ref f) j) (EP X pins J Q) X.xe s:=by
 have x:bb (z++dvs) (j++ds):=r.append hd;have a:(j++ds).length=ps.length:=by rw[<- x.length];exact F.len _ _ _ _ h
 refine wpAny_call (uJ (F.run X.A X.k s H ⟨j,[]⟩ (j++ds) (z++dvs) Q E n I.env0 (b s j I.kIn a) x h) λr s' q=>?_);cases r with
 |error e=>exact c pins J H s e s' I q
 |ok l=>
  cases l with
  |ret u=>exact I.after q
  |next=>exact False.elim q
  |brk=>exact False.elim q
  |cont=>exact False.elim q
theorem vW(F:FnOk X.p X.w X.K X.g X.b CX k f fd ps sp)(v:Room k X.A)(g:Gl X x)(m:X.g x=some (.ref f))(hk:iH X.K (.ref f)=true)(b:Binds X.K fd ps ds)(hd:bb dvs ds)(w:nl CX X E)
  (n:PA X (e::es) t) (d:(x == ("__debug__":Str))=false:=by decide) (c:starEach (e::es) X.e=(false,eval e X.e)::starEach es X.e:=by rfl) (l:(backTo B (starEach es X.e)).any (·.1)=false:=by rfl) :
  PE X (.Call (.Name x p) (e::es) [] B) (OH sp dvs E t):=by
 intro pins s J H Q I h;refine mM (wd I g m ?_ d);refine yF (h₀:=X.b) I.o.mod.kin hk (c_ (n B pins s J H _ I h) λj u z=>?_) c l;obtain⟨i,G,a,r,q⟩:=z;refine⟨a.kIn,?_⟩;exact yY F v b hd w a r q
theorem Jg(y:PE X o ta)(c:Cls X.K C)(d:Meth X.K C m f)(F:FnOk X.p X.w X.K X.g X.b CX k f fd ps sp)(S:Room k X.A)(i:Binds X.K fd ps ds)(hd:bb dvs ds)(P:nl CX X E)(g:PA X (e::es) t)
  (n:starEach (e::es) X.e=(false,eval e X.e)::starEach es X.e:=by rfl) (p:(backTo B (starEach es X.e)).any (·.1)=false:=by rfl)
  (K:eval (.Call (.Attribute o m apos) (e::es) [] B) X.e=(do
   let N <- eval o X.e
   standAt apos.atName
   let (f,first) <- holding [N] (getMethod N m pl)
   callWith B f first (backTo B (starEach (e::es) X.e)) (backToKw B (keywordEach [] X.e))):=by rfl) :
  PE X (.Call (.Attribute o m apos) (e::es) [] B) (EU C m sp dvs E ta t):=by
 intro pins s J H Q I h;refine Ej (pl:=pl) (c_ (y pins s J H _ I h) λu L z=>?_) K;obtain⟨x,G,b,D,a,dx,fs,ex,w,l,q⟩:=z;subst ex;obtain rfl:u=Value.ref a:=D;refine sL b w c d l ?_;refine yF (first:=[.ref a]) (h₀:=X.b) I.o.mod.kin d.kp (c_ (g B pins L J G _ b q) λj R z=>?_) n p;obtain⟨M,H2,v,r,A⟩:=z;refine⟨v.kIn,?_⟩;exact yY (j:=.ref a::j) (z:=.ref a::M) F S i hd P v (.cons rfl r) A
theorem Fs(t:PE X o ta)(c:Cls X.K C)(n:Meth X.K C m f)(F:FnOk X.p X.w X.K X.g X.b CX k f fd ps sp)(p:Room k X.A)(r:Binds X.K fd ps ds)(hd:bb dvs ds)(d:nl CX X E)
  (v:eval (.Call (.Attribute o m apos) [] [] B) X.e=(do
   let z <- eval o X.e
   standAt apos.atName
   let (f,first) <- holding [z] (getMethod z m N)
   callWith B f first (backTo B (starEach [] X.e)) (backToKw B (keywordEach [] X.e))):=by rfl) :
  PE X (.Call (.Attribute o m apos) [] [] B) (EU C m sp dvs E ta OC):=by
 intro pins s J H Q I h;refine Ej (pl:=N) (c_ (t pins s J H _ I h) λu i w=>?_) v;obtain⟨x,G,e,g,a,dx,fs,ex,b,l,q⟩:=w;subst ex;obtain rfl:u=Value.ref a:=g;refine sL e b c n l ?_;exact PySem.W.callWith_K0 (first:=[.ref a]) e.kIn n.kp (yY (j:=[.ref a]) (z:=[.ref a]) F p r hd d e (.cons rfl .nil) q)
structure Mk(K:FG)(C f:Addr):Prop where
 makes:yB K C=true
 init:dj K (.ref C) "__init__"=some (some (.ref f))
 fn:u1 K (.ref f)=true
 kp:iH K (.ref C)=true
set_option tactic.hygienic true in
theorem E_(M:Mk X.K C f)(F:FnOk X.p X.w X.K X.g X.b CX k f fd ps sp)(d:Room (k+1) X.A)(t:Binds X.K fd ps ds)(hd:bb dvs ds)
  (w:nl CX X E) (I:Inv X pins J H s) (r:bb z j)
  (h:∀x dx,H x=none->H dx=none->dx≠x->sp (.ref x::(z++dvs)) (cq (cq H dx (.own x)) x (.ins C dx [])) (λv H2=>v=.non/\Q (.ref x) H2) E) :
  wx X (call (.ref C) j) (EP X pins J Q) X.xe s:=by
 have n:=h (s.heap.objs.size+1) s.heap.objs.size (I.h.fresh (nw _)) (I.h.fresh (al _)) (bK (jH _));have a:=Inv.made (C:=C) I;have b:bb (V.ref (s.heap.objs.size+1)::(z++dvs)) (Value.ref (s.heap.objs.size+1)::(j++ds)):=.cons rfl (r.append hd);have p:(Value.ref (s.heap.objs.size+1)::j++ds).length=ps.length:=by have e:=b.length;rw[F.len _ _ _ _ n]at e;exact e.symm
 refine wpAny_call (FW (f:=f) I.kIn M.makes M.init (nv.mp M.fn) (uJ (F.run _ X.k _ _ ⟨Value.ref (s.heap.objs.size+1)::j,[]⟩ (Value.ref (s.heap.objs.size+1)::(j++ds)) _ _ E (d.make C j [])
  (a.env0.make C j []) (t _ (Value.ref (s.heap.objs.size+1)::j) a.kIn p) b n) λr s' q=>?_))
 cases r with
 |error e=>exact w pins J _ _ e s' a q
 |ok l=>
  cases l with
  |ret u=>obtain⟨v,H',c,i,m,g⟩:=a.after q;subst m;exact⟨i,⟨V.ref (s.heap.objs.size+1),H',c,rfl,g⟩⟩
  |next=>exact False.elim q
  |brk=>exact False.elim q
  |cont=>exact False.elim q
theorem B0(M:Mk X.K C f)(F:FnOk X.p X.w X.K X.g X.b CX k f fd ps sp)(v:Room (k+1) X.A)(g:Gl X x)(m:X.g x=some (.ref C))(b:Binds X.K fd ps ds)(hd:bb dvs ds)(w:nl CX X E)
  (n:PA X (e::es) t) (d:(x == ("__debug__":Str))=false:=by decide) (c:starEach (e::es) X.e=(false,eval e X.e)::starEach es X.e:=by rfl) (l:(backTo B (starEach es X.e)).any (·.1)=false:=by rfl) :
  PE X (.Call (.Name x p) (e::es) [] B) (OE C sp dvs E t):=by
 intro pins s J H Q I h;refine mM (wd I g m ?_ d);refine yF (h₀:=X.b) I.o.mod.kin M.kp (c_ (n B pins s J H _ I h) λj u z=>?_) c l;obtain⟨i,G,a,r,q⟩:=z;refine⟨a.kIn,?_⟩;exact E_ M F v b hd w a r q
end
section
variable{X:Cx}{CX:DT}{k:Nat}{f C:Addr}{fd:FuncData}{ps ks:LS}{sp:Sp}{E:XK}{x m:Str}{p B apos kpos:Pos}{e o:Expr}{es:Ab}{kws:List Keyword}{te ta:TE}{t tk:TA}{nm:Option Str}
structure KBinds(K:FG)(fd:FuncData)(ps ks:LS)(g:LV->LV->LV)(gV:List V->List V->List V):Prop where
 to:∀(s:Shared)(us ws:LV),K.In s.heap->(g us ws).length=ps.length->BindsTo s fd ⟨us,ks.zip ws⟩ (ps.zip (g us ws))
 rel:∀{vs:List V}{us:LV}{zs:List V}{ws:LV},bb vs us->bb zs ws->bb (gV vs zs) (g us ws)
variable{g:LV->LV->LV}{gV:List V->List V->List V}
end
structure FnScope(N P:LS)(sc:Scope):Prop where
 kind:sc.kind=.function
 co:sc.isCoroutine=false
 gen:sc.isGenerator=false
 nd:N.Nodup
 pre:N.take P.length=P
 par:∀x ∈ P,sc.names.lookup x=some .local\/sc.names.lookup x=some .cell
 nofree:∀y ∈ sc.names,y.2≠.free
theorem uC{kindOf:Str->Option NameKind}{x:Str}:∀{b:List (Str×Value)}{m:SV},(∀v,(x,v) ∉ b)->bindL kindOf b m x=m x
 | [],_,_=>rfl
 |(n,v)::r,m,h=>by
  unfold bindL;rw[uC λw hw=>h w (aH _ hw)];split
  .have:x≠n:=by rintro rfl;exact h v aF
   simp[this]
  .rfl
theorem uE{kindOf:Str->Option NameKind}{x:Str}:∀{b:List (Str×Value)}{m:SV},(∀v,(x,v) ∉ b)->bindC kindOf b m x=m x
 | [],_,_=>rfl
 |(n,v)::r,m,h=>by
  unfold bindC;rw[uE λw hw=>h w (aH _ hw)];split
  .rfl
  .have:x≠n:=by rintro rfl;exact h v aF
   simp[this]
theorem uD{kindOf:Str->Option NameKind}{x:Str}{v:Value}:∀{P:LS}{s:LV}{i:Nat}{m:SV},P.Nodup->P[i]? = some x->s[i]? = some v->kindOf x=some .local ->
  bindL kindOf (P.zip s) m x=some v
 | [],_,_,_,_,h,_,_=>by simp at h
 |_::_,[],_,_,_,_,h,_=>by simp at h
 |p::P,w::s,0,m,n,h1,h2,hk=>by simp at h1 h2;subst h1;subst h2;show bindL kindOf ((p,w)::P.zip s) m p=_;unfold bindL;rw[uC λv a=>(ci.mp n).1 (vd a).1,af hk];simp
 |p::P,w::s,i+1,m,n,h1,h2,hk=>by show bindL kindOf ((p,w)::P.zip s) m x=_;unfold bindL;exact uD (i:=i) (ci.mp n).2 (by simpa using h1) (by simpa using h2) hk
theorem uF{kindOf:Str->Option NameKind}{x:Str}{v:Value}:∀{P:LS}{s:LV}{i:Nat}{m:SV},P.Nodup->P[i]? = some x->s[i]? = some v->kindOf x≠some .local ->
  bindC kindOf (P.zip s) m x=some v
 | [],_,_,_,_,h,_,_=>by simp at h
 |_::_,[],_,_,_,_,h,_=>by simp at h
 |p::P,w::s,0,m,n,h1,h2,hk=>by simp at h1 h2;subst h1;subst h2;show bindC kindOf ((p,w)::P.zip s) m p=_;unfold bindC;rw[uE λv a=>(ci.mp n).1 (vd a).1,ah hk];simp
 |p::P,w::s,i+1,m,n,h1,h2,hk=>by show bindC kindOf ((p,w)::P.zip s) m x=_;unfold bindC;exact uF (i:=i) (ci.mp n).2 (by simpa using h1) (by simpa using h2) hk
noncomputable def start(N:LS)(v:List V):St:=v.map some++List.replicate (N.length-v.length) none
noncomputable def xY(CX:DT)(P:Program)(w:World)(K:FG)(mg:SV)(base:Heap)(N:LS)(q:Str)(h:Scope)(f:Addr)(d:Value)(A:Around)(u:List Env)(s:Shared)(H:Hp)(E:XK):Cx where
 p:=P
 w:=w
 K:=K
 g:=mg
 b:=base
 A:=A.deeper (envOfC q h s.heap.objs.size f d)
 N:=N
 z:=s
 y:=H
 e:=envOfC q h s.heap.objs.size f d
 o:=u
 k:=envOfC q h s.heap.objs.size f d::u
 ex:=[]
 c:=true
 fn:=λ_=>true
 pn:=[]
 xe:=λe s'=>wpAny (model P w) (A.deeper (envOfC q h s.heap.objs.size f d)) (leaving (envOfC q h s.heap.objs.size f d) e) (λ_ x=>CX u H s E e x) (λa x=>CX u H s E a x) s'
variable{x:Str}
theorem x_{sc:Scope}(h:sc.names.lookup x=some .cell):∃c,(cellsFrom n sc.names []).lookup x=some c:=by have q:=Ek sc.names n [] (.inl h);exact nr.mp q
theorem Do{CX:DT}{P:Program}{w:World}{K:FG}{mg:SV}{base:Heap}{N ps:LS}{l:Str}{o:Scope}{f:Addr}{D:Value}{A:Around}{t:List Env}{s I:Shared}{H:Hp}{E:XK}{j:LV}{F:List V}
  (S:FnScope N ps o) (hd:A.handled=none) (m:Env0 P w K mg base A t s H) (T:F.length=ps.length) (r:bb F j)
  (x:InCallC s s.heap.objs.size (bindL (envOfC l o s.heap.objs.size f D).kindOf (ps.zip j) λ_=>none) (cellsFrom (s.heap.objs.size+1) o.names []) (bindC (envOfC l o s.heap.objs.size f D).kindOf (ps.zip j) λ_=>none) I) :
  Inv (xY CX P w K mg base N l o f D A t s H E) [] (start N F) H I:=by
 have M:ps.length≤N.length:=by have:=dh qA S.pre;rw[ib]at this;lia
 obtain⟨h1,tk,rfl,hk⟩:=x.done;have g:∀b:Addr,b ∉ (xY CX P w K mg base N l o f D A t s H E).ex:=fun b z=>absurd (show b ∈ ([]:List Addr) from z) (by simp);refine⟨⟨m.mod,S.kind,rfl,rfl,al _,fun y z c h1 h2=>?_,fun y d=>?_,fun y c _ h=>?_,fun _=>hd,Around.frames_deeper m.frames,.inr ⟨rfl,rfl⟩,fun b z=>absurd z (g b),m.bs,m.bsz,fun b _ _=>g b,fun b z=>absurd z (g b),m.funs,m.frf⟩,
  rfl,m.bare,Un.kept hk,⟨_,x.toInCall.ns,λi y v h1 h2 R=>?_⟩,λy c h=>⟨_,x.cell y c h⟩,m.h.fresh (al _),λy c h=>?_,λp B=>absurd (show p ∈ ([]:PN) from B) (by simp),m.h.kept hk,?_⟩
 .exact name_of_addr x.apart (rK h1) (rK h2)
 .have d:o.names.lookup y=some .cell\/o.names.lookup y=some .free:=d;rcases d with d|d
  .exact x_ d
  .exact absurd rfl (S.nofree _ (rK d))
 .exact i4 (x.above y c (rK h))
 .have hi:i < F.length:=by
   unfold start at h2;by_cases hi:i < F.length
   .exact hi
   .rw [cy (by simpa using hi)]at h2;rw[vr]at h2;split at h2<;>cases h2
  have L:F[i]? = some v:=by
   unfold start at h2;rw[bF (by simpa using hi),dJ]at h2;cases e:F[i]? with
   |none=>rw[e]at h2;cases h2
   |some a=>rw[e]at h2;cases h2;rfl
  obtain⟨u,G,Q⟩:=r.get L;have B:ps[i]? = some y:=by rw[<- S.pre,ik (by lia)];exact h1
  have C:ps.Nodup:=by rw[<- S.pre];exact S.nd.sublist (vj _ _)
  refine⟨u,Q,?_⟩;rcases S.par y (bq B) with k|k
  .exact .inl ⟨k,uD C B G k⟩
  .obtain⟨c,e⟩:=x_ (n:=s.heap.objs.size+1) k;refine .inr ⟨.inl k,c,e,?_⟩;have q:=x.cell y c e;rw[uF C B G (by show o.names.lookup y≠_;rw[k];decide)]at q;exact q
 .exact m.h.fresh (i4 (x.above y c (rK h)))
 .unfold start;show _=N.length;rw[bz,aZ,A0];lia
set_option tactic.hygienic true in
theorem P4{CX:DT}{P:Program}{w:World}{K:FG}{mg:SV}{base:Heap}{k:Nat}{f:Addr}{name a:Str}{p:Arguments}{m:List Stmt}{c:Scope}{dV kV B pm d ct oc:Value}{an od:Option Addr}
  {W:Array (OV)}{N ps:LS}{sp:Sp} (lk:K.lookup f=some ⟨oc,od,.func (jZ name a p m c dV kV B pm an d ct),W⟩) (M:rM K d a=true) (S:FnScope N ps c)
  (len:∀g H Q E,sp g H Q E->g.length=ps.length)
  (l:∀(A:Around) (h:List Env) (s:Shared) (H:Hp) (g:List V) (Q:VK) (E:XK),Room k (A.deeper (envOfC a c s.heap.objs.size f d))->sp g H Q E ->
   ∃t,qc (xY CX P w K mg base N a c f d A h s H E) m t/\t { nx:=λ_ H'=>Q .non H',rt:=Q } (start N g) H) :
  FnOk P w K mg base CX (k+1) f (jZ name a p m c dV kV B pm an d ct) ps sp:=by
 refine⟨len,λA h s H args j g Q E R C hb r G=>?_⟩;have hl:=len _ _ _ _ G;have Z:K.In s.heap:=C.mod.kin.keeps λb o e=>(C.bs b o e).1;have T:s.heap.NoLimit:=C.mod.nolimit.keeps λb o e=>(C.bs b o e).1;have z:∀y ∈ ps.zip j,c.names.lookup y.1=some .local\/(c.names.lookup y.1=some .cell/\((cellsFrom (s.heap.objs.size+1) c.names []).lookup y.1).isSome=true):=λ⟨n,v⟩ hy=>by
  rcases S.par n (vd hy).1 with q|q
  .exact .inl q
  .exact .inr ⟨q,Ek _ _ _ (.inl q)⟩
 refine codeAny_call_function R.depth (Z _ _ lk) rfl S.co S.gen rfl (PySem.W.codeRec_of Z M) (hb _ _ _ _ ?_);refine wpAny_newFunctionEnv_cells S.kind z λenv he s1 x=>?_;subst he;refine⟨T.keeps x.toInCall.keep,codeAny_func ?_⟩;obtain⟨t,ht,hq⟩:=l A h s H g Q E (R.deeper _) G;have I:Inv (xY CX P w K mg base N a c f d A h s H E) [] (start N g) H s1:=Do S R.hd C hl r x;refine cM (ht [] s1 (start N g) H _ I hq) (λfl s' F=>?_) λe s' F=>F;have D:∀{L:St}{H':Hp}{v:V}{u:Value},Inv (xY CX P w K mg base N a c f d A h s H E) [] L H' s'->RelV v u->Q v H'->CE h P w H s Q u s':=
  λ{L H' v u} i X q=>⟨v,H',i.os,i.bare,i.base,i.h,X,q⟩
 cases fl with
 |ret u=>obtain⟨v,L,H',i,X,q⟩:=F;exact D i X q
 |next=>obtain⟨L,H',i,q⟩:=F;exact D (v:=V.non) (u:=Value.none) i rfl q
 |brk=>obtain⟨_,_,_,q⟩:=F;exact False.elim q
 |cont=>obtain⟨_,_,_,q⟩:=F;exact False.elim q
section
variable{X:Cx}{x:Str}{p B:Pos}{e:Expr}{es:Ab}{t:TA}{id T:String}{r:List V->Hp->VK->Prop}
noncomputable def Te(r:List V->Hp->VK->Prop)(t:TA):TE:=λJ H Q=>t J H λv G=>r v G Q
theorem nR(c:fL X (.builtin id) r)(g:Gl X x)(m:X.g x=none)(v:bootBuiltins x=some (.builtin id))(n:PA X (e::es) t)(f:x≠"__name__":=by decide)(d:(x == ("__debug__":Str))=false:=by decide)
  (k:starEach (e::es) X.e=(false,eval e X.e)::starEach es X.e:=by rfl) (l:(backTo B (starEach es X.e)).any (·.1)=false:=by rfl):PE X (.Call (.Name x p) (e::es) [] B) (Te r t):=by
 intro pins s J H Q I h;refine mM (lC I g m v ?_ f d);exact Ib (c_ (n B pins s J H _ I h) λj w z=>by obtain⟨u,G,a,b,q⟩:=z;exact c pins w J G u j Q a b q) k l
theorem l0(c:fL X (.type T) r)(g:Gl X x)(m:X.g x=none)(v:bootBuiltins x=some (.type T))(n:PA X (e::es) t)(f:x≠"__name__":=by decide)(d:(x == ("__debug__":Str))=false:=by decide)
  (k:starEach (e::es) X.e=(false,eval e X.e)::starEach es X.e:=by rfl) (l:(backTo B (starEach es X.e)).any (·.1)=false:=by rfl):PE X (.Call (.Name x p) (e::es) [] B) (Te r t):=by
 intro pins s J H Q I h;refine mM (lC I g m v ?_ f d);exact lQ (c_ (n B pins s J H _ I h) λj w z=>by obtain⟨u,G,a,b,q⟩:=z;exact c pins w J G u j Q a b q) k l
end
end L2
set_option tactic.hygienic true
namespace HT
open PySem PyProof.Rows
section
variable{prog:Program}{w:World}{A:Around}{E:VP}{s:Shared}
theorem J0(g:IsTup s.heap t z.toArray)(u:IsTup s.heap b q.toArray)(v:z≠[])
  (h1:q=[]->Q (.ref t) s) (h2:q≠[]->Q (.ref s.heap.objs.size) { s with heap:=s.heap.push { cls:=.type "tuple",data:=.seq (z++q).toArray } })
  (a:z.length+q.length≤sizeLine):wpAny (model prog w) A (binaryOp .Add (.ref t) (.ref b)) Q E s:=by
 obtain⟨⟨N,f,I,p⟩,o,m,n,hd⟩:=id g;obtain⟨⟨k,d,data2,l⟩,h,c,r,x⟩:=id u;simp only at m hd c x;subst m hd c x;have e:z.toArray++q.toArray=(z++q).toArray:=by simp
 by_cases hw:q=[]
 .exact yj ⟨_,o,rfl⟩ ⟨_,h,rfl⟩ yt ym uP uQ (uS _ _)
   (tuple_addW1 t b z.toArray q.toArray n r f d p l (by simpa using v) (by simp[hw])) ⟨o,h,h1 hw⟩
 .refine yj ⟨_,o,rfl⟩ ⟨_,h,rfl⟩ yt ym uP uQ (uS _ _)
   (tuple_addW2 t b z.toArray q.toArray n r f d p l (by simpa using v) (by simpa using hw) (by rw[bf,bf];exact a)) ⟨o,h,?_⟩
  rw[e];exact h2 hw
noncomputable def fW(n d:Nat):Option Int->Nat
 |none=>d
 |some v=>if v < 0 then (v+(n:Int)).toNat else min v.toNat n
theorem w9(n d:Nat):fW n d none=d:=rfl
theorem BS(n d k:Nat):fW n d (some (k:Int))=min k n:=by show(if (k:Int) < 0 then ((k:Int)+(n:Int)).toNat else min (k:Int).toNat n)=min k n;rw[ah (by lia),uN]
theorem LZ(n d:Nat)(hd:d≤n)(o:Option Int):fW n d o≤n:=by
 cases o with
 |none=>exact hd
 |some v=>
  show(if v < 0 then (v+(n:Int)).toNat else min v.toNat n)≤n;by_cases h:v < 0
  .rw [af h];lia
  .rw [ah h];exact Nat.min_le_right _ _
theorem CI(v:Int)(n d:Nat):(if v < 0 then max (v+(n:Int)) 0 else min v (n:Int))=((fW n d (some v):Nat):Int):=by
 show(if v < 0 then max (v+(n:Int)) 0 else min v (n:Int))=(((if v < 0 then (v+(n:Int)).toNat else min v.toNat n):Nat):Int);by_cases h:v < 0
 .simp only[af h];lia
 .simp only[ah h];lia
theorem zH(lo hi:Option Int)(n:Nat):uL lo hi 1 (n:Int)=(((fW n 0 lo:Nat):Int),((fW n n hi:Nat):Int)):=by
 have h1:¬((1:Int) < 0):=by lia
 unfold uL;simp only[h1,kA];refine Prod.ext ?_ ?_
 .cases lo with
  |none=>rfl
  |some v=>exact CI v n 0
 .cases hi with
  |none=>rfl
  |some v=>exact CI v n n
theorem y2(i j:Nat):qh (i:Int) (j:Int) 1=j-i:=by
 unfold qh;have h1:(1:Int) > 0:=by lia
 simp only[h1,gw,Int.ediv_one];split<;>lia
theorem si(p:IsPart v o)(h:Q o s):wpAny (model prog w) A (Hv v) Q E s:=by
 cases p with
 |none=>exact Am h
 |int i t=>exact slicePart_int h
theorem j6{l:Addr}{v u:Value}{lo hi:Option Int}{n:Nat}{Q:Int×Int×Nat->Shared->Prop}(a:s.heap.IsSliceOf l v u .none)(p:IsPart v lo)(e:IsPart u hi)
  (h:Q (((fW n 0 lo:Nat):Int),1,fW n n hi-fW n 0 lo) s):wpAny (model prog w) A (zO (.ref l) (pure (n:Int))) Q E s:=by
 obtain⟨os,o,c,d⟩:=id a;unfold zO Hu;refine ae (ae (eP o d (x:=v) rfl (ae (eP o d (x:=u) rfl (ae (eP o d (x:=.none) rfl (aC ?_)))))));refine ae (Am ?_);show wpAny _ _ (if ((1:Int) == 0)=true then _ else _) _ _ s;rw[ah (by decide)];refine ae (si p (ae (si e (ae (aC ?_)))));show wpAny _ _ (match uL lo hi 1 (n:Int) with|(lo,hi)=>pure (lo,(1:Int),qh lo hi 1)) _ _ s;rw[zH lo hi n];show wpAny _ _ (pure (((fW n 0 lo:Nat):Int),(1:Int),qh ((fW n 0 lo:Nat):Int) ((fW n n hi:Nat):Int) 1)) _ _ s;rw[y2];exact aC h
theorem Fm(xs:Array Value)(i k:Nat):((List.range k).filterMap λ(m:Nat)=>xs[((i:Int)+(m:Int) * 1).toNat]?).toArray=((xs.toList.drop i).take k).toArray:=by
 have e:(λ(m:Nat)=>xs[((i:Int)+(m:Int) * 1).toNat]?)=λm=>xs[i+m]?:=by
  funext m;have:((i:Int)+(m:Int) * 1).toNat=i+m:=by lia
  rw[this]
 rw[e];have:=pick_run xs i k
 rw[List.filterMap_map]at this;have h:((λx=>xs[x]?) ∘ λx=>i+x)=λm=>xs[i+m]?:=rfl;rw[h]at this;rw[this]
theorem nX{t l:Addr}{i:Array Value}{v u:Value}{lo hi:Option Int}{Q:VP}(x:IsTup s.heap t i)(e:s.heap.IsSliceOf l v u .none)(p:IsPart v lo)(k:IsPart u hi)
  (hw:¬(fW i.size 0 lo=0/\fW i.size i.size hi=i.size))
  (h:Q (.ref s.heap.objs.size) { s with heap:=s.heap.push { cls:=.type "tuple",data:=.seq ((i.toList.drop (fW i.size 0 lo)).take (fW i.size i.size hi-fW i.size 0 lo)).toArray } })
  (z:i.size≤sizeLine):wpAny (model prog w) A (getItem (.ref t) (.ref l)) Q E s:=by
 have a:sizeOk (.seq ((i.toList.drop (fW i.size 0 lo)).take (fW i.size i.size hi-fW i.size 0 lo)).toArray):=by show((i.toList.drop (fW i.size 0 lo)).take (fW i.size i.size hi-fW i.size 0 lo)).toArray.size≤sizeLine;rw[bf,ib,ve,nI];lia
 have j:fW i.size i.size hi≤i.size:=LZ _ _ (al _) hi;obtain⟨os,o,c,d⟩:=id e;have T:s.TypeIs (.ref l) "slice":=⟨os,o,c⟩;unfold getItem;try with_reducible refine iG ?_
 first|refine ae (aC ?_)|skip
 refine ae (D0 x.typeIs (by decide) ?_);refine ae (uK (name:=Str.ofString "__getitem__") x.typeIs ku
  (rF ku x.typeIs Ap ?_ (Ao _ _)))
 show wpAny _ _ (D_ (.ref t) >>= _) _ _ s;refine ae (Al x ?_);refine ae (rj T ?_);rw[af (by decide)];refine ae (j6 e p k ?_);have n:¬((((fW i.size 0 lo:Nat):Int) == 0 && (1:Int) == 1 && (fW i.size i.size hi-fW i.size 0 lo) == i.size)=true):=by intro q;rw[av,av]at q;have f:((fW i.size 0 lo:Nat):Int)=0:=eq_of_beq q.1.1;have b:fW i.size i.size hi-fW i.size 0 lo=i.size:=eq_of_beq q.2;exact hw ⟨by lia,by lia⟩
 show wpAny _ _ (if (((fW i.size 0 lo:Nat):Int) == 0 && (1:Int) == 1 && (fW i.size i.size hi-fW i.size 0 lo) == i.size)=true then _ else _) _ _ s;rw[ah n,Fm];first
  |exact ae (m:=zI _) (rG (aC ⟨_,rfl,aC h⟩) a)
  |exact ae (m:=zI _) (rG (ae (aC (aC ⟨_,rfl,aC h⟩))) a)
  |exact ae (ae (m:=zI _) (rG (aC (aC ⟨_,rfl,aC h⟩)) a))
  |exact ae (ae (m:=zI _) (rG (aC ⟨_,rfl,aC h⟩) a))
end
end HT
set_option tactic.hygienic false
namespace L2
open PySem PySem.Spec PyProof.Rows
noncomputable abbrev TO:=St->Hp->(Option Int->Hp->Prop)->Prop
def PO(X:Cx)(e:Option Expr)(t:TO):Prop:=
 ∀(pins:PN)(s:Shared)(J:St)(H:Hp)(Q:Option Int->Hp->Prop),Inv X pins J H s->t J H Q ->
  wx X (evalPart e X.e) (λu s'=>∃o H',Inv X pins J H' s'/\IsPart u o/\Q o H') X.xe s
noncomputable def IB:TO:=λ_ H Q=>Q none H
noncomputable def OA(t:TE):TO:=λJ H Q=>t J H λx G=>∃i,x=.int i/\Q (some i) G
section
variable{X:Cx}{e:Expr}{te:TE}{lo hi:Option Expr}{tl th:TO}{B p2:Pos}
theorem Ja:PO X none IB:=by intro pins s J H Q I h;rw[Bp];exact aC ⟨none,H,I,.none,h⟩
theorem I0(h:PE X e te):PO X (some e) (OA te):=by
 intro pins s J H Q I hw;rw[evalPart_some];refine c_ (h pins s J H _ I hw) λu k z=>?_
 obtain⟨x,G,a,r,n⟩:=z;obtain⟨i,rfl,q⟩:=n;obtain⟨t,rfl⟩:=r;exact⟨some i,G,a,.int i t,q⟩
def K4(X:Cx)(r:V->Option Int->Option Int->Hp->VK->Prop):Prop:=
 ∀(pins:PN)(s:Shared)(J:St)(H:Hp)(x:V)(v h u:Value)(lo hi:Option Int)(l:Addr)(Q:VK),Inv X pins J H s->RelV x v->s.heap.IsSliceOf l h u .none->IsPart h lo->IsPart u hi->r x lo hi H Q ->
  ∃T id,typeLookup (.type T) "__getitem__"=pure (some (.builtin id))/\s.TypeIs v T/\wx X (getItem v (.ref l)) (EP X pins J Q) X.xe s
theorem K4.or(h:K4 X r)(h':K4 X z):K4 X (λx lo hi H Q=>r x lo hi H Q\/z x lo hi H Q):=by
 intro pins s J H x v n k lo hi l Q I e a p u q;rcases q with q|q
 .exact h pins s J H x v n k lo hi l Q I e a p u q
 .exact h' pins s J H x v n k lo hi l Q I e a p u q
noncomputable def T6(r:V->Option Int->Option Int->Hp->VK->Prop)(te:TE)(tl th:TO):TE:=λJ H Q=>te J H λx G=>tl J G λl H2=>th J H2 λu h=>r x l u h Q
theorem Fp(j:K4 X r)(w:PE X e te)(i:PO X lo tl)(o:PO X hi th):PE X (.Subscript e (.Slice lo hi none p2) B) (T6 r te tl th):=by
 intro pins s J H Q I h;refine Subscript_ (c_ (w pins s J H _ I h) λv D z=>?_);obtain⟨x,G,c,C,K⟩:=z;refine wpAny_Slice (c_ (i pins D J G _ c K) λn E ⟨l,H2,m,S,P⟩=>c_ (o pins E J H2 _ m P) λk a z=>?_);obtain⟨u,f,t,F,A⟩:=z;rw[Bp];refine aC ?_;have p:Inv X pins J f { a with heap:=a.heap.push { cls:=.type "slice",data:=.fields #[n,k,.none] } }:=t.kept (t':=a.toks) λb L q=>ba _ q
 obtain⟨T,id,d,y,g⟩:=j pins { a with heap:=a.heap.push { cls:=.type "slice",data:=.fields #[n,k,.none] } } J f x v n k l u a.heap.objs.size Q p C (Heap.IsSliceOf.new ..) S F A;show wx X (subscriptTail e (.Slice lo hi none p2) v (.ref a.heap.objs.size)) (EP X pins J Q) X.xe { a with heap:=a.heap.push { cls:=.type "slice",data:=.fields #[n,k,.none] } };exact nu (ops:=[.ref a.heap.objs.size,v]) y d g (by with_unfolding_all rfl)
def x4(xs:List V)(lo hi:Option Int):List V:=(xs.drop (HT.fW xs.length 0 lo)).take (HT.fW xs.length xs.length hi-HT.fW xs.length 0 lo)
theorem pQ(xs:List V)(lo hi:Option Int):(x4 xs lo hi).length≤xs.length:=by unfold x4;rw[ib,ve];lia
def RZ(K:FG):V->Option Int->Option Int->Hp->VK->Prop:=λx lo hi H Q=>∃a xs,x=.ref a/\p' K H a xs /\
 ¬(HT.fW xs.length 0 lo=0/\HT.fW xs.length xs.length hi=xs.length)/\∀p,H p=none->Q (.ref p) (cq H p (.tup (x4 xs lo hi)))
theorem LR:K4 X (RZ X.K):=by
 intro pins s J H x v m d lo hi c Q I k e p u h;obtain⟨a,xs,rfl,n,hw,q⟩:=h;cases k;obtain⟨i,r,t,z⟩:=I.tuple n;have l:i.toArray.size=xs.length:=by rw[bf];exact r.length.symm
 refine⟨"tuple",_,ku.lookup,t.typeIs,?_⟩;refine HT.nX t e p u (by rw[l];exact hw) ?_ (by rw[l];exact z);rw[l];refine⟨.ref s.heap.objs.size,_,I.laid (t':=s.toks) (o:=.tup (x4 xs lo hi)) (λb f q=>ba _ q) (al _) ?_,rfl,q _ (I.h.fresh (al _))⟩;exact⟨aI (pQ xs lo hi) z,_,(r.drop (HT.fW xs.length 0 lo)).take (HT.fW xs.length xs.length hi-HT.fW xs.length 0 lo),pq.new _ _⟩
def OX(K:FG):R2:=λx y H Q=>∃a b xs ys,x=.ref a/\y=.ref b/\p' K H a xs/\p' K H b ys/\xs≠[]/\xs.length+ys.length≤sizeLine /\
 (ys=[]->Q (.ref a) H)/\(ys≠[]->∀p,H p=none->Q (.ref p) (cq H p (.tup (xs++ys))))
theorem bb.nil_iff(r:bb xs j):j=[]↔xs=[]:=by
 cases r with
 |nil=>simp
 |cons _ _=>simp
theorem Jm:jY X (binaryOp .Add) (OX X.K):=by intro pins s J H x y v u Q I g j h;obtain⟨a,b,xs,ys,rfl,rfl,k,f,c,n,m,d⟩:=h;cases g;cases j;obtain⟨t,e,p,_⟩:=I.tuple k;obtain⟨i,r,p2,_⟩:=I.tuple f;refine HT.J0 p p2 (λz=>c (e.nil_iff.mp z)) (λz=>⟨.ref a,H,I,rfl,m (r.nil_iff.mp z)⟩) (λz=>?_) (by rw[<- e.length,<- r.length];exact n);refine⟨.ref s.heap.objs.size,_,I.laid (t':=s.toks) (o:=.tup (xs++ys)) (λb l q=>ba _ q) (al _) ?_,rfl,d (λw=>z (r.nil_iff.mpr w)) _ (I.h.fresh (al _))⟩;exact⟨by rw[bz];exact n,_,e.append r,pq.new _ _⟩
end
noncomputable def F6(n:Nat)(i:Int):Option Nat:=if 0≤i then (if i < n then some i.toNat else none) else if -(n:Int)≤i then some (i+n).toNat else none
variable{α:Type}
def atI(xs:List α)(i:Int):Option α:=(F6 xs.length i).bind λj=>xs[j]?
variable{n:Nat}
theorem Cm{i:Int}(h:F6 n i=some q):seqIndex? i n=some q/\q < n/\-(n:Int)≤i/\i < n:=by
 unfold F6 at h;by_cases x:0≤i
 .rw [af x]at h;by_cases h1:i < n
  .rw [af h1]at h;have e:i.toNat=q:=dH h;exact⟨by rw[yi x h1,e],by lia,by lia,h1⟩
  .rw [ah h1]at h;cases h
 .rw [ah x]at h;by_cases h1:-(n:Int)≤i
  .rw [af h1]at h;have e:(i+n).toNat=q:=dH h;exact⟨by rw[yk (by lia) h1,e],by lia,h1,by lia⟩
  .rw [ah h1]at h;cases h
theorem wL{i:Int}(h:atI xs i=some v):∃j,seqIndex? i xs.length=some j/\xs[j]? = some v/\j < xs.length/\-(xs.length:Int)≤i/\i < xs.length:=by
 unfold atI at h;cases e:F6 xs.length i with
 |none=>rw[e]at h;cases h
 |some j=>rw[e]at h;obtain⟨h1,h2,x,a⟩:=Cm e;exact⟨j,h1,h,h2,x,a⟩
def mf(b:Expr):Prop:=∀o i,subscripted b false o i=operate [o,i] (getItem o i)
def DR(X:Cx)(r:R2):Prop:=
 ∀(value l:Expr)(pins:PN)(s:Shared)(J:St)(H:Hp)(x y:V)(v u:Value)(Q:VK),Inv X pins J H s->RelV x v->RelV y u->r x y H Q ->
  subscripted l false v u=operate [v,u] (getItem v u)->wx X (subscriptTail value l v u) (EP X pins J Q) X.xe s
def UC(X:Cx)(id:String)(r:V->List V->Hp->VK->Prop):Prop:=
 ∀(pins:PN)(s:Shared)(J:St)(H:Hp)(x:V)(xs:List V)(v:Value)(j:LV)(Q:VK),Inv X pins J H s->RelV x v->bb xs j->r x xs H Q ->
  wx X (call (.builtin id) (v::j)) (EP X pins J Q) X.xe s
section
variable{X:Cx}{a b:Expr}{ta tb:TE}{B:Pos}
theorem DR.or(h:DR X r)(h':DR X z):DR X (λx y H Q=>r x y H Q\/z x y H Q):=by
 intro value l pins s J H x y v u Q I e n q a;rcases q with q|q
 .exact h value l pins s J H x y v u Q I e n q a
 .exact h' value l pins s J H x y v u Q I e n q a
theorem B1(f:DR X r)(n:PE X a ta)(k:PE X b tb)(c:mf b):PE X (.Subscript a b B) (LG r ta tb):=by intro pins s J H Q I h;exact Subscript_ (Nv n k I h λv u p x y H2 e m t q=>f a b pins p J H2 x y v u Q e m t q (c _ _))
def R6(K:FG):R2:=λx y H Q=>∃p xs i v,x=.ref p/\y=.int i/\g0 K H p xs/\atI xs i=some v/\Q v H
def R4(K:FG):R2:=λx y H Q=>∃p xs i v,x=.ref p/\y=.int i/\p' K H p xs/\atI xs i=some v/\Q v H
def R5:R2:=λx y H Q=>∃z i c,x=.str z/\y=.int i/\z.length≤sizeLine/\atI z.cps.toList i=some c/\Q (.str ⟨#[c]⟩) H
theorem wf:DR X (R6 X.K):=by
 intro value c pins s J H x y v u Q I K P h m;obtain⟨p,xs,i,z,rfl,rfl,F,o,q⟩:=h;cases K;obtain⟨t,rfl⟩:=P;obtain⟨e,r,l,C⟩:=I.list F;obtain⟨j,h1,h2,A,d,g⟩:=wL o;obtain⟨w,k,n⟩:=r.get h2;have S:=r.length;have B:=lA;have f:EP X pins J Q w s:=⟨z,H,I,n,q⟩;by_cases b:0≤i
 .have a:i.toNat=j:=by
   rw[yi b g]at h1;exact dH h1
  exact item_listR l.isList b (by lia) (by rw[a];simpa using k) f m
 .have a:(i+(e.toArray.size:Int)).toNat=j:=by
   rw[yk (by lia) d]at h1;rw[bf,<- S];exact dH h1
  exact Ar (x:=w) l.isList.typeIs DX.lookup
   (wpAny_getItem_list_neg (Q:=λr s'=>r=w/\EP X pins J Q r s') l.isList (by lia) (by rw[bf]<;>lia) (by lia) (by rw[a];simpa using k) ⟨rfl,f⟩) m
theorem F5:DR X (R4 X.K):=by
 intro value l pins s J H x y v u Q I g o h m;obtain⟨p,xs,i,z,rfl,rfl,c,k,q⟩:=h;cases g;obtain⟨t,rfl⟩:=o;obtain⟨d,r,e,A⟩:=I.tuple c;obtain⟨j,h1,h2,S,F,K⟩:=wL k;obtain⟨w,n,a⟩:=r.get h2;have b:=r.length;have P:=lA;have f:EP X pins J Q w s:=⟨z,H,I,a,q⟩;exact Ar (x:=w) e.typeIs ku.lookup
  (getItem_tuple (j:=j) (Q:=λr s'=>r=w/\EP X pins J Q r s') e (by lia) (by lia) (by rw[bf,<- b];exact h1) (by simpa using n) ⟨rfl,f⟩) m
theorem MT:DR X R5:=by
 intro value l pins s J H x y v u Q I r p h m;obtain⟨z,i,c,rfl,rfl,g,f,q⟩:=h;obtain⟨t,rfl⟩:=r;obtain⟨o,rfl⟩:=p;obtain⟨j,h1,h2,d,n,k⟩:=wL f;have b:z.cps.toList.length=z.length:=by simp[nq]
 rw[b]at h1 n k;have w:=lA;exact nu (typeIs_str s z t) slot_str_getitem.lookup (getItem_str (c:=c) (by have e:decide (i < -(2 ^ 63:Int))=false:=be (by lia);have a:decide (i ≥ 2 ^ 63)=false:=be (by lia);rw[e,a,Bool.or_false]) (by rw[h1];simpa using h2) ⟨.str ⟨#[c]⟩,H,I.tok _,⟨_,rfl⟩,q⟩) m
theorem y6(i:LV)(n j:Nat)(u:Value):kr (·.setIfInBounds j u) { cls:=.type "list",data:=.seq i.toArray n }={ cls:=.type "list",data:=.seq (i.set j u).toArray n }:=by simp[kr]
theorem Inv.lst(I:Inv X pins J H s)(h:H p=some (.lst xs)) :
  ∃(i:LV)(n:Nat),bb xs i/\s.heap.get? p=some { cls:=.type "list",data:=.seq i.toArray n }/\xs.length≤sizeLine:=by
 obtain⟨z,i,n,r,e⟩:=I.h p _ h;exact⟨i,n,r,e,z⟩
theorem Inv.lstUpd{i:LV}(I:Inv X pins J H s)(h:H p=some (.lst xs))
  (o:s.heap.get? p=some { cls:=.type "list",data:=.seq i.toArray n }) (a:f { cls:=.type "list",data:=.seq i.toArray n }={ cls:=.type "list",data:=.seq z.toArray N }) (r:bb ys z) (c:ys.length≤sizeLine) (t:Nat) :
  Inv X pins J (cq H p (.lst ys)) { s with heap:=s.heap.update p f,toks:=t }:=by
 have e:(s.heap.update p f).get? p=some { cls:=.type "list",data:=.seq z.toArray N }:=by rw[uW f o (by rw[a]<;>rfl),a]
 refine I.write (x:=p) (e:=p) (by rw[h];trivial) (.inl rfl) (λb u k q=>(Aw _ _ (aS k)).trans q) ⟨_,e⟩ ?_;exact⟨c,z,N,r,e⟩
def OW:V->V->V->Hp->(Hp->Prop)->Prop:=λo i v H Q=>∃p xs k j,o=.ref p/\i=.int k/\H p=some (.lst xs)/\F6 xs.length k=some j/\Q (cq H p (.lst (xs.set j v)))
theorem EY:Qt X OW:=by
 intro pins s J H o i v F iv u Q I g w y h;obtain⟨p,xs,k,j,rfl,rfl,m,d,q⟩:=h;cases g;obtain⟨t,rfl⟩:=w;obtain⟨x,n,r,a,z⟩:=I.lst m;obtain⟨h1,h2,b,c⟩:=Cm d;have l:=r.length;have S:=lA;have e:Inv X pins J (cq H p (.lst (xs.set j v))) { s with heap:=s.heap.update p (kr (·.setIfInBounds j u)) }:=
  I.lstUpd m a (y6 x n j u) (r.set y j) (by rw[dn];exact z) s.toks
 by_cases f:0≤k
 .have hk:k.toNat=j:=by
   rw[yi f c]at h1;exact dH h1
  exact PySem.W.ki_setAt a f (by lia) (by rw[bf,<- l];exact c) (by rw[hk];exact⟨_,e,q⟩)
 .have hk:(k+(x.toArray.size:Int)).toNat=j:=by
   rw[yk (by lia) b]at h1;rw[bf,<- l];exact dH h1
  exact PySem.W.ki_setBack a (by lia) (by rw[bf,<- l];exact b) (by lia) (by rw[hk];exact⟨_,e,q⟩)
theorem vR(lo hi:Option Int)(n:Nat):(sliceBounds lo hi none n).1=((HT.fW n 0 lo:Nat):Int)/\(sliceBounds lo hi none n).2.1=((HT.fW n n hi:Nat):Int)/\(sliceBounds lo hi none n).2.2=1:=by
 refine⟨?_,?_,rfl⟩
 .cases lo with
  |none=>simp[sliceBounds,HT.fW]
  |some i=>
   simp only[sliceBounds,HT.fW,Ai,show(1:Int) > 0 by decide,gw];by_cases h:i < 0
   .simp only[h,gw]<;>lia
   .simp only[h,kA]<;>lia
 .cases hi with
  |none=>simp[sliceBounds,HT.fW]
  |some i=>
   simp only[sliceBounds,HT.fW,Ai,show(1:Int) > 0 by decide,gw];by_cases h:i < 0
   .simp only[h,gw]<;>lia
   .simp only[h,kA]<;>lia
theorem tD(i:LV)(lo hi:Option Int):slicePick i.toArray lo hi none=((i.drop (HT.fW i.length 0 lo)).take (HT.fW i.length i.length hi-HT.fW i.length 0 lo)).toArray:=by obtain⟨h1,h2,h⟩:=vR lo hi i.toArray.size;unfold slicePick;rw[h1,h2,h];simp only[sliceRange_one,pick_run,bf]<;>rfl
def R0(K:FG):V->Option Int->Option Int->Hp->VK->Prop:=λx lo hi H Q=>∃a xs,x=.ref a/\g0 K H a xs/\∀p,H p=none->Q (.ref p) (cq H p (.lst (x4 xs lo hi)))
theorem IH:K4 X (R0 X.K):=by intro pins s J H x v m d lo hi c Q I k e p u h;obtain⟨a,xs,rfl,n,q⟩:=h;cases k;obtain⟨i,r,t,z⟩:=I.list n;have l:=r.length;refine⟨"list",_,DX.lookup,t.isList.typeIs,?_⟩;refine wpAny_getItem_list_slice t.isList e p u .none (by simp) ?_ (by rw[bf]<;>lia);rw[tD,<- l];refine⟨.ref s.heap.objs.size,_,I.laid (t':=s.toks) (o:=.lst (x4 xs lo hi)) (λb f q=>ba _ q) (al _) ?_,rfl,q _ (I.h.fresh (al _))⟩;exact⟨aI (pQ xs lo hi) z,_,0,(r.drop (HT.fW xs.length 0 lo)).take (HT.fW xs.length xs.length hi-HT.fW xs.length 0 lo),cw _ rfl⟩
theorem wH:fL X (.builtin "len") (λxs H Q=>∃p ys,xs=[.ref p]/\(g0 X.K H p ys\/p' X.K H p ys)/\Q (.int ys.length) H):=by
 intro pins s J H xs j Q I r h;obtain⟨p,ys,rfl,x,q⟩:=h;obtain⟨u,rfl,n⟩:=vals1 r;cases n;have k:=lA;rcases x with x|x
 .obtain⟨i,e,a,z⟩:=I.list x;have l:=e.length;exact Calls.call_len_list a.isList (by simp only[bf]<;>lia) ⟨.int ys.length,H,I.tok _,⟨s.toks+1,by rw[bf,l]⟩,q⟩
 .obtain⟨i,e,a,z⟩:=I.tuple x;have l:=e.length;exact len_tuple a (by simp only[bf]<;>lia) ⟨.int ys.length,H,I.tok _,⟨s.toks+1,by rw[bf,l]⟩,q⟩
theorem wG:fL X (.builtin "len") (λxs H Q=>∃z,xs=[.str z]/\z.length≤sizeLine/\Q (.int z.length) H):=by intro pins s J H xs j Q I r h;obtain⟨z,rfl,x,q⟩:=h;obtain⟨u,rfl,t,rfl⟩:=vals1 r;have n:=lA;exact len_str (by lia) ⟨.int z.length,H,I.tok _,⟨_,rfl⟩,q⟩
theorem fL.or(h:fL X f r)(h':fL X f z):fL X f (λxs H Q=>r xs H Q\/z xs H Q):=by
 intro pins s J H xs j Q I x q;rcases q with q|q
 .exact h pins s J H xs j Q I x q
 .exact h' pins s J H xs j Q I x q
theorem kX:fL X (.type "list") (λxs H Q=>∃p ys,xs=[.ref p]/\(g0 X.K H p ys\/p' X.K H p ys)/\∀l,H l=none->Q (.ref l) (cq H l (.lst ys))):=by
 intro pins s J H xs j Q I r h;obtain⟨p,ys,rfl,k,q⟩:=h;obtain⟨u,rfl,w⟩:=vals1 r;cases w;have f:∀(i:LV),bb ys i->ys.length≤sizeLine->∀(h':Heap)(c:Nat),(∀b o',s.heap.get? b=some o'->h'.get? b=some o') ->
   h'.get? s.heap.objs.size=some { cls:=.type "list",dict:=none,data:=.seq i.toArray c,slots:=#[] }->EP X pins J Q (.ref s.heap.objs.size) { s with heap:=h' }:=λi x z h' c m e=>
  ⟨.ref s.heap.objs.size,_,I.laid (t':=s.toks) m (al _) (show dC X.p X.w _ h' _ (.lst ys) from ⟨z,i,c,x,e⟩),rfl,q _ (I.h.fresh (al _))⟩
 rcases k with k|k
 .obtain⟨i,x,d,z⟩:=I.list k;have a:=x.length;obtain⟨o,v,t,n,hd⟩:=d.isList;exact Bo p (.inl rfl) v t hd (λh' c m e=>f i x z h' c m e) (by simp only[bf]<;>lia)
 .obtain⟨i,x,d,z⟩:=I.tuple k;have a:=x.length;obtain⟨o,v,t,n,hd⟩:=d;exact Bo p (.inr rfl) v t hd (λh' c m e=>f i x z h' c m e) (by simp only[bf]<;>lia)
theorem mB:fL X (.type "tuple") (λxs H Q=>∃p ys,xs=[.ref p]/\((g0 X.K H p ys/\∀l,H l=none->Q (.ref l) (cq H l (.tup ys)))\/(p' X.K H p ys/\Q (.ref p) H))):=by
 intro pins s J H xs j Q I r h;obtain⟨p,ys,rfl,h⟩:=h;obtain⟨u,rfl,t⟩:=vals1 r;cases t;rcases h with ⟨x,q⟩|⟨x,q⟩
 .obtain⟨i,n,a,z⟩:=I.list x;have f:=n.length;refine call_tuple_list a.isList (λh' m=>?_) (by simp only[bf]<;>lia);have k:Inv X pins J H { s with heap:=h' }:=I.kept (t':=s.toks) m;have c:Inv X pins J (cq H h'.objs.size (.tup ys)) { s with heap:=h'.push { cls:=.type "tuple",data:=.seq i.toArray } }:=
   k.laid (t':=s.toks) (λb o e=>ba _ e) (al _) (show dC X.p X.w _ _ _ (.tup ys) from ⟨z,i,n,pq.new _ _⟩)
  exact⟨.ref h'.objs.size,_,c,rfl,q _ (k.h.fresh (al _))⟩
 .obtain⟨i,n,a,z⟩:=I.tuple x;exact call_tuple_same a ⟨.ref p,H,I,rfl,q⟩
def tyV(K:FG)(T:String)(x:V)(H:Hp):Prop:=match x with
 | .str _=>T="str"
 | .int _=>T="int"
 | .ref p=>(T="list"/\∃xs,g0 K H p xs)\/(T="tuple"/\∃o,K.lookup p=some o/\o.cls=.type "tuple"/\o.dict=none) \/
   (T="dict"/\((∃kvs,H p=some (.dK kvs))\/∃kvs,H p=some (.dT kvs)))\/(T="set"/\∃S n,H p=some (.set S n))
 |_=>False
theorem Lu(I:Inv X pins J H s)(r:RelV x v)(ty:tyV X.K T x H) :
  s.TypeIs v T/\∀a,v=.ref a->∃b,s.heap.get? a=some b/\b.dict=none:=by
 cases x with
 |str z=>obtain⟨t,rfl⟩:=r;cases (show T="str" from ty);exact⟨typeIs_str s z t,λ_ e=>nomatch e⟩
 |int i=>obtain⟨t,rfl⟩:=r;cases (show T="int" from ty);exact⟨rh s i t,λ_ e=>nomatch e⟩
 |ref p=>
  cases r;rcases ty with ⟨rfl,xs,q⟩|⟨rfl,o,hk,k,hd⟩|⟨rfl,hk⟩|⟨rfl,S,n,hk⟩
  .obtain⟨f,_,l,_⟩:=I.list q;refine⟨l.isList.typeIs,λa e=>?_⟩;cases e;obtain⟨o,n,e,c,hd,_⟩:=l;exact⟨o,e,hd⟩
  .refine⟨⟨o,I.kIn p o hk,k⟩,λa e=>?_⟩;cases e;exact⟨o,I.kIn _ o hk,hd⟩
  .have z:∃o,s.heap.get? p=some o/\o.ExactDict:=by
    rcases hk with ⟨kvs,hk⟩|⟨kvs,hk⟩
    .obtain⟨_,_,_,_,o,_,_,e,ex,_⟩:=I.h p _ hk;exact⟨o,e,ex⟩
    .obtain⟨_,_,_,_,o,_,_,e,ex,_⟩:=I.h p _ hk;exact⟨o,e,ex⟩
   obtain⟨o,e,ex⟩:=z;refine⟨⟨o,e,ex.1⟩,λa h=>?_⟩;cases h;exact⟨o,e,ex.2.1⟩
  .obtain⟨o,_,_,_,e,ex,_⟩:=I.h p _ hk;refine⟨⟨o,e,ex.1⟩,λa h=>?_⟩;cases h;exact⟨o,e,ex.2.1⟩
 |_=>exact False.elim ty
noncomputable def T_(K:FG)(T:String)(r:V->List V->Hp->VK->Prop)(to:TE)(t:TA):TE:=λJ H Q=>to J H λx G=>tyV K T x G/\t J G λxs H2=>r x xs H2 Q
variable{o e:Expr}{es:Ab}{to:TE}{t:TA}{name:Str}{apos cpos:Pos}{T id:String}{r:V->List V->Hp->VK->Prop}
theorem Ky(w:PlainAttrs T)(slot:Slot T name id)(y:typeOf (.builtin id)=pure (.type "method_descriptor"))(m:UC X id r)(q:PE X o to)(c:PA X (e::es) t)
  (b:attributeBase o name X.e (eval o X.e)=eval o X.e:=by rfl)
  (f:((backTo cpos (starEach (e::es) X.e)).all (fun x=>!x.1) && (backToKw cpos (keywordEach [] X.e)).all (fun x=>x.1.isSome)
   && decide ((e::es).length+([]:List Keyword).length+(if ([]:List Keyword).isEmpty then 0 else 1) < 30))=true:=by rfl)
  (l:(apos.endLine == cpos.line)=true:=by rfl) (d:starEach (e::es) X.e=(false,eval e X.e)::starEach es X.e:=by rfl) (p:(backTo cpos (starEach es X.e)).any (·.1)=false:=by rfl) :
  PE X (.Call (.Attribute o name apos) (e::es) [] cpos) (T_ X.K T r to t):=by
 intro pins s J H Q I h;refine yz b f l rfl (c_ (q pins s J H _ I h) λv S z=>?_);obtain⟨x,G,a,n,ty,u⟩:=z;obtain⟨h1,h2⟩:=Lu a n ty;refine⟨T,id,w,slot,y,h1,h2,?_⟩;have A:=c cpos pins S J G _ a u;rw[d]at A ⊢;refine lS (by show(false ||(backTo cpos (starEach es X.e)).any (·.1))=false;rw[p]<;>rfl) (lR ?_);exact c_ A λj F z=>by obtain⟨K,H2,k,i,g⟩:=z;exact m pins F J H2 x K v j Q k n i g
end
def TF(X:Cx)(id:String)(r:V->List V->Hp->VK->Prop):Prop:=
 ∀(pins:PN)(s:Shared)(J:St)(H:Hp)(x:V)(xs:List V)(v:Value)(j:LV)(Q:VK),Inv X pins J H s->RelV x v->bb xs j->r x xs H Q ->
  wx X (call (.builtin id) (v::j)) (EP X pins J Q) X.xe s
theorem bb.one:∀{x:V}{j:LV},bb [x] j->∃u,j=[u]/\RelV x u
 |_,_,.cons r .nil=>⟨_,rfl,r⟩
theorem bb.rep(h:bb xs j):∀k:Nat,bb (List.replicate k xs).flatten (List.replicate k j).flatten
 |0=>.nil
 |k+1=>by rw[cS,cS,fS,fS];exact bb.append h (bb.rep h k)
theorem foldl_rep(i:LV):∀(k:Nat)(a:LV),
  qz (λx s=>x++s) a.toArray (List.replicate k i.toArray)=(a++(List.replicate k i).flatten).toArray
 |0,a=>by simp
 |k+1,a=>by
  have e:a.toArray++i.toArray=(a++i).toArray:=by simp
  have h:(a++i)++(List.replicate k i).flatten=a++(List.replicate (k+1) i).flatten:=by rw[cS,fS,eD]
  rw[<- h,<- foldl_rep i k (a++i),<- e,cS,gy]
section
variable{X:Cx}{pins:PN}{J:St}{H:Hp}{s:Shared}{l b:Addr}{xs ys zs:List V}
theorem Inv.lset{i:LV}{t:Nat}(I:Inv X pins J H s)(h:H l=some (.lst xs))
  (e:s.heap.get? l=some { cls:=.type "list",data:=.seq i.toArray n }) (a:f i.toArray=z.toArray) (v:bb ys z) (c:ys.length≤sizeLine) :
  Inv X pins J (cq H l (.lst ys)) { s with heap:=s.heap.update l (kr f),toks:=t }:=by
 have q:=PySem.IsL.update e f;rw[a]at q;refine I.write (x:=l) (e:=l) (by rw[h];exact trivial) (.inl rfl) (λm u b k=>(Aw s.heap (kr f) (aS b)).trans k) ⟨_,q⟩ ?_;exact⟨c,z,_,v,q⟩
theorem Inv.lnew{t:Nat}(I:Inv X pins J H s)(h:bb ys z)(x:ys.length≤sizeLine) :
  Inv X pins J (cq H s.heap.objs.size (.lst ys)) { s with heap:=s.heap.push { cls:=.type "list",data:=.seq z.toArray },toks:=t }:=
 I.laid (λ_ _ q=>ba _ q) (al _) ⟨x,z,0,h,cw _ rfl⟩
theorem Inv.fresh(I:Inv X pins J H s):H s.heap.objs.size=none:=I.h.fresh (al _)
theorem Inv.lstM(I:Inv X pins J H s)(h:H l=some (.lst xs)):xs.length≤sizeLine/\∃(i:LV)(n:Nat),bb xs i/\xs.length=i.length/\s.heap.get? l=some { cls:=.type "list",data:=.seq i.toArray n }:=by obtain⟨z,i,n,r,e⟩:=I.h l _ h;exact⟨z,i,n,r,r.length,e⟩
theorem xm(h:n≤sizeLine):qg n=false:=by unfold qg;exact be (by lia)
end
section
variable{X:Cx}
def IS:V->List V->Hp->VK->Prop:=λx v H Q=>∃l xs y,x=.ref l/\v=[y]/\H l=some (.lst xs)/\xs.length < sizeLine/\Q .non (cq H l (.lst (xs++[y])))
theorem uj:TF X "list.append" IS:=by intro pins s J H x t v j Q I b f h;obtain⟨l,xs,y,rfl,rfl,a,m,q⟩:=h;cases b;obtain⟨u,rfl,k⟩:=f.one;obtain⟨z,i,n,r,c,e⟩:=I.lstM a;refine jk zY ⟨_,e,rfl⟩ F.entry_list_append (F.args_list_append_2 _ _) (PySem.list_append l i.toArray n u (by rw[bf];lia)) ⟨e,?_⟩;refine⟨.non,_,I.lset (z:=i++[u]) a e (by simp) (r.append (.cons k .nil)) ?_,rfl,q⟩;rw[bz,A1];lia
def IR:V->List V->Hp->VK->Prop:=λx v H Q=>∃l b xs zs,x=.ref l/\v=[.ref b]/\H l=some (.lst xs)/\H b=some (.lst zs)/\xs.length+zs.length≤sizeLine/\Q .non (cq H l (.lst (xs++zs)))
theorem Di:TF X "list.extend" IR:=by
 intro pins s J H x K v j Q I g w h;obtain⟨l,b,xs,zs,rfl,rfl,k,B,S,q⟩:=h;cases g;obtain⟨u,rfl,d⟩:=w.one;cases d;obtain⟨z,t,n,r,y,e⟩:=I.lstM k;obtain⟨P,i,m,p,c,f⟩:=I.lstM B;have a:t.toArray.size+i.toArray.size≤sizeLine:=by rw[bf,bf];lia
 have o:¬(!t.toArray.isEmpty && qg (t.toArray.size+i.toArray.size))=true:=by rw[xm a,Bool.and_false];exact bP
 refine jk zZ ⟨_,e,rfl⟩ F.entry_list_extend (F.args_list_extend_2 _ _)
  (AutoSeq1.list_extend_list_list_0 l t.toArray n b i.toArray m o (by rw[bf];lia) (by lia)) ⟨e,f,?_⟩
 refine⟨.non,_,I.lset (z:=t++i) k e (by simp) (r.append p) ?_,rfl,q⟩;rw[bz];lia
def R7:R2:=λx y H Q=>∃l b xs zs,x=.ref l/\y=.ref b/\H l=some (.lst xs)/\H b=some (.lst zs)/\xs.length+zs.length≤sizeLine/\∀p,H p=none->Q (.ref p) (cq H p (.lst (xs++zs)))
theorem Mu:jY X (binaryOp .Add) R7:=by
 intro pins s J H x y v u Q I p d h;obtain⟨l,b,xs,zs,rfl,rfl,f,B,g,q⟩:=h;cases p;cases d;obtain⟨z,t,n,r,w,e⟩:=I.lstM f;obtain⟨o,i,j,m,c,a⟩:=I.lstM B;refine PySem.P.add_list e a ?_ (by rw[bf,bf];lia);have k:t.toArray++i.toArray=(t++i).toArray:=by simp
 rw[k];exact⟨.ref _,_,I.lnew (t:=s.toks) (r.append m) (by rw[bz];lia),rfl,q _ I.fresh⟩
def R1:R2:=λx y H Q=>∃l k xs,x=.ref l/\y=.int k/\H l=some (.lst xs)/\-(2 ^ 63)≤k/\k < 2 ^ 63/\xs.length * k.toNat≤sizeLine /\
 ∀p,H p=none->Q (.ref p) (cq H p (.lst (List.replicate k.toNat xs).flatten))
theorem Jx(xs:List α)(k:Nat):(List.replicate k xs).flatten.length=k * xs.length:=by
 induction k with
 |zero=>simp
 |succ k i=>rw[cS,fS,bz,i,u5,u3]
theorem FD:jY X (binaryOp .Mult) R1:=by
 intro pins s J H x y v u Q I P A h;obtain⟨l,k,xs,rfl,rfl,S,h1,h2,g,q⟩:=h;cases P;obtain⟨t,rfl⟩:=A;obtain⟨z,i,n,r,K,e⟩:=I.lstM S;have b:i.toArray.size * k.toNat≤sizeLine:=by rw[bf,<- K];exact g
 have c:¬i.toArray.size * k.toNat > (2 ^ 63-1) / 8:=by
  have:(sizeLine:Nat)≤(2 ^ 63-1) / 8:=by decide
  lia
 have f:¬(!Builtin.List.listFitsIndex k)=true:=by rw[fitsIndex_both h1 h2];exact bP
 have o:¬qg (i.toArray.size * k.toNat)=true:=by rw[xm b];exact bP
 have w:qz (λp d=>p++d) #[] (List.replicate (if i.toArray.isEmpty=true then 0 else k.toNat) i.toArray)=(List.replicate k.toNat i).flatten.toArray:=by
  have j:∀m:Nat,qz (λp d=>p++d) #[] (List.replicate m i.toArray)=(List.replicate m i).flatten.toArray:=λm=>by have:=foldl_rep i m [];rw[eB]at this;exact this
  rw[j];cases i with
  |nil=>simp
  |cons a B=>rw[ah (by simp)]
 refine Ea (T:="list") (U:="int") (by decide) ⟨_,e,rfl⟩ (λs'=>rh s' k t) noFill_list_mul zU qj repeat_list zW.lookup
  (jk qj (rh s k t) zV (zX _ _) (int___rmul___int_list k t l i.toArray n)
   ⟨e,rfl,⟨_,e,rfl⟩,jk F.slot_list_mul ⟨_,e,rfl⟩ F.entry_list_mul (F.args_list_mul_2 _ _) (AutoListH.list___mul___list_int_3 l i.toArray n k t f c o) ⟨e,?_⟩⟩)
 rw[w];exact⟨.ref _,_,I.lnew (t:=s.toks) (r.rep k.toNat) (by rw[Jx,qy];exact g),rfl,q _ I.fresh⟩
end
section
variable{κ:Type}[DecidableEq κ]
noncomputable def iA(kvs:List (κ×V))(k:κ):Option V:=(kvs.find? λv=>decide (v.1=k)).map (·.2)
noncomputable def putK(kvs:List (κ×V))(k:κ)(v:V):List (κ×V):=
 if (kvs.any λh=>decide (h.1=k))=true then kvs.map (λh=>if h.1=k then (h.1,v) else h) else kvs++[(k,v)]
theorem jn{p:κ×V}{r:List (κ×V)}{k:κ}(e:p.1=k):iA (p::r) k=some p.2:=by simp[iA,h_,e]
theorem iz{p:κ×V}{r:List (κ×V)}{k:κ}(e:¬p.1=k):iA (p::r) k=iA r k:=by simp[iA,h_,e]
theorem wV(k:κ):∀kvs:List (κ×V),(kvs.any λv=>decide (v.1=k))=(iA kvs k).isSome
 | []=>rfl
 |p::r=>by
  rw[dI];by_cases e:p.1=k
  .simp only[jn e,fR e,vu,Option.isSome_some]
  .rw [iz e,be e,nH];exact wV k r
theorem lB(kvs:List (κ×V))(k:κ)(v:V):(putK kvs k v).length≤kvs.length+1:=by
 unfold putK;split
 .rw [aZ];lia
 .rw [bz,aR,AS];lia
theorem lq.isSome_eq(r:lq o u):o.isSome=u.isSome:=by
 cases o with
 |none=>cases u with
  |none=>rfl
  |some _=>exact(show False from r).elim
 |some _=>cases u with
  |none=>exact(show False from r).elim
  |some _=>rfl
theorem lq.getD(r:lq o u)(h:RelV d q):RelV (o.getD d) (u.getD q):=by
 cases o with
 |none=>cases u with
  |none=>exact h
  |some _=>exact(show False from r).elim
 |some _=>cases u with
  |none=>exact(show False from r).elim
  |some _=>exact r
theorem KV.val{kvs:List (κ×V)}{v:List (κ×Value)}(r:KV kvs v)(k:κ):lq (iA kvs k) (valueAt v k):=by
 unfold KV at r;induction r with
 |nil=>exact True.intro
 | @cons p q ps qs h t i=>
  obtain⟨h1,h2⟩:=h;by_cases e:p.1=k
  .have x:q.1=k:=h1.symm.trans e;have b:valueAt (q::qs) k=some q.2:=by simp[valueAt,h_,x]
   rw[jn e,b];exact h2
  .have x:¬q.1=k:=λz=>e (h1.trans z);have b:valueAt (q::qs) k=valueAt qs k:=by simp[valueAt,h_,x]
   rw[iz e,b];exact i
theorem KV.any(r:KV kvs q)(k:κ):(kvs.any λv=>decide (v.1=k))=q.any λv=>decide (v.1=k):=by
 unfold KV at r;induction r with
 |nil=>rfl
 |cons h t i=>rw[dI,dI,i,h.1]
theorem KV.repl(r:KV kvs I)(k:κ)(x:RelV y u) :
  KV (kvs.map λv=>if v.1=k then (v.1,y) else v) (I.map λv=>if v.1=k then (v.1,u) else v):=by
 unfold KV at r ⊢;induction r with
 |nil=>exact .nil
 | @cons p q ps qs h t i=>
  rw[aG,aG];refine .cons ?_ i;obtain⟨h1,h2⟩:=h;by_cases e:p.1=k
  .rw [af e,af (h1.symm.trans e)];exact⟨h1,x⟩
  .rw [ah e,ah (λz=>e (h1.trans z))];exact⟨h1,h2⟩
theorem KV.put(r:KV kvs q)(k:κ)(h:RelV y u):KV (putK kvs k y) (stored q k u):=by
 unfold putK stored;rw[r.any k];by_cases e:(q.any λv=>decide (v.1=k))=true
 .rw [af e,af e];exact r.repl k h
 .rw [ah e,ah e];exact Paired.snoc r ⟨rfl,h⟩
theorem KV.length(r:KV kvs q):kvs.length=q.length:=Paired.length r
end
variable{w:World}{u:Value}
theorem pG(r:RelV (kV k) u):(cL P w).is k u=true:=by
 cases k with
 |inl i=>obtain⟨t,e⟩:=(show ∃t,u=Value.int i t from r);subst e;exact xt P w i t
 |inr x=>obtain⟨t,e⟩:=(show ∃t,u=Value.str x t from r);subst e;exact xr P w x t
theorem ur:∀{ks:List cu}{j:LV},bb (ks.map kV) j->ItemsAre (cL P w) ks j
 | [],_,r=>by rw[eS]at r;cases r;exact .nil
 |k::ks,_,r=>by
  rw[aG]at r;cases r with
  |cons h t=>exact .cons (pG h) (ur t)
abbrev KT(H:Hp):List (List cu×V)->List (List cu×Addr×Value)->Prop:=Paired λp q=>p.1=q.1/\H q.2.1=some (.tup (p.1.map kV))/\RelV p.2 q.2.2
theorem KT.val{H:Hp}{kvs:List (List cu×V)}{xs:List (List cu×Addr×Value)}(r:KT H kvs xs)(k:List cu):lq (iA kvs k) ((atKey xs k).map (·.2)):=by
 induction r with
 |nil=>exact True.intro
 | @cons p q ps qs h t i=>
  obtain⟨h1,_,h2⟩:=h;by_cases e:p.1=k
  .have x:q.1=k:=h1.symm.trans e;have b:atKey (q::qs) k=some q.2:=by simp[atKey,h_,x]
   rw[jn e,b];exact h2
  .have x:¬q.1=k:=λz=>e (h1.trans z);have b:atKey (q::qs) k=atKey qs k:=by simp[atKey,h_,x]
   rw[iz e,b];exact i
variable{H:Hp}{kvs:List (List cu×V)}{xs:List (List cu×Addr×Value)}{y:V}
theorem KT.repl(r:KT H kvs xs)(k:List cu)(a:RelV y u) :
  KT H (kvs.map λv=>if v.1=k then (v.1,y) else v) (xs.map (putAt k u)):=by
 induction r with
 |nil=>exact .nil
 | @cons p q ps qs h t i=>
  rw[aG,aG];refine .cons ?_ i;obtain⟨h1,h2,x⟩:=h;unfold putAt;by_cases e:p.1=k
  .rw [af e,af (h1.symm.trans e)];exact⟨h1,h2,a⟩
  .rw [ah e,ah (λz=>e (h1.trans z))];exact⟨h1,h2,x⟩
theorem KT.put(r:KT H kvs xs)(k:List cu)(x:H b=some (.tup (k.map kV)))(h:RelV y u) :
  KT H (putK kvs k y) (storedH xs k b u):=by
 have e:(kvs.any λv=>decide (v.1=k))=(atKey xs k).isSome:=by rw[wV,(r.val k).isSome_eq,Aj]
 unfold putK storedH;rw[e];by_cases q:(atKey xs k).isSome=true
 .rw [af q,af q];exact r.repl k h
 .rw [ah q,ah q];exact Paired.snoc r ⟨rfl,x,h⟩
theorem KT.keeps(r:KT H kvs xs)(h:∀b ys,H b=some (.tup ys)->H' b=some (.tup ys)):KT H' kvs xs:=
 Paired.mapP r λ_ _ z=>⟨z.1,h _ _ z.2.1,z.2.2⟩
section
variable{P:Program}{w:World}{H:Hp}{h:Heap}{a:Addr}
theorem rd_of{u:HO}(ok:mh P w H h)(e:Rd H a u):dC P w H h a u:=e.ok ok
theorem uw{kvs:List (cu×V)}(ok:mh P w H h)(e:Rd H a (.dK kvs)):kvs.length≤sizeLine/\(a == sysModules)=false/\∃vs,KV kvs vs/\h.DictOf (cL P w) a vs:=
 show dC P w H h a (.dK kvs) from rd_of ok e
theorem KW{kvs:List (cu×V)}(ok:mh P w H h)(e:H a=some (.dK kvs)):kvs.length≤sizeLine/\(a == sysModules)=false/\∃v,KV kvs v/\h.DictOf (cL P w) a v:=uw ok (.inl e)
theorem o0(ok:mh P w H h)(e:H a=some (.tup (ks.map kV))):(tupleKind (cL P w)).is h ks a:=by obtain⟨_,i,r,o,h1,⟨h2,n,x⟩,_⟩:=(show dC P w H h a (.tup (ks.map kV)) from ok a _ e);exact⟨o,i.toArray,n,h1,h2,x,by simpa using ur r⟩
theorem uv(ok:mh P w H h)(e:Rd H a (.dT kvs)):kvs.length≤sizeLine/\(a == sysModules)=false /\
  ∃xs,KT H kvs xs/\h.DictOfH (tupleKind (cL P w)) a xs:=by
 obtain⟨z,y,xs,r,o,es,k,h1,h2,f,b,c⟩:=(show dC P w H h a (.dT kvs) from rd_of ok e);refine⟨z,y,xs,r,o,es,k,h1,h2,f,b,λx s=>?_,c⟩;have all:∀{l:List (List cu×V)}{m:List (List cu×Addr×Value)},KT H l m->∀x ∈ m,(tupleKind (cL P w)).is h x.1 x.2.1:=by
  intro l m q;induction q with
  |nil=>intro x s;exact nomatch s
  | @cons p q ps qs n t i=>
   intro x s;rcases aQ.mp s with e|s
   .subst e;exact o0 ok (by rw[<- n.1];exact n.2.1)
   .exact i x s
 exact all r x s
theorem P_(ok:mh P w H h)(e:H a=some (.dT kvs)):kvs.length≤sizeLine/\(a == sysModules)=false /\
  ∃xs,KT H kvs xs/\h.DictOfH (tupleKind (cL P w)) a xs:=uv ok (.inl e)
end
def lh(H:Hp)(a:Addr)(y:V)(r:Option V):Prop:=
 (∃kvs k,Rd H a (.dK kvs)/\y=kV k/\r=iA kvs k)\/∃kvs k b,Rd H a (.dT kvs)/\y=.ref b/\H b=some (.tup (k.map kV))/\r=iA kvs k
def ye(H:Hp)(a:Addr)(y v:V)(H':Hp):Prop:=
 (∃kvs k,H a=some (.dK kvs)/\y=kV k/\kvs.length < sizeLine/\H'=cq H a (.dK (putK kvs k v))) \/
 ∃kvs k b,H a=some (.dT kvs)/\y=.ref b/\H b=some (.tup (k.map kV))/\kvs.length < sizeLine/\H'=cq H a (.dT (putK kvs k v))
theorem lh.k{H:Hp}{a:Addr}{kvs:List (cu×V)}{k:cu}(e:H a=some (.dK kvs)):lh H a (kV k) (iA kvs k):=.inl ⟨kvs,k,.inl e,rfl,rfl⟩
theorem lh.t{H:Hp}{a b:Addr}{kvs:List (List cu×V)}{k:List cu}(e:H a=some (.dT kvs))(h:H b=some (.tup (k.map kV))):lh H a (.ref b) (iA kvs k):=.inr ⟨kvs,k,b,.inl e,rfl,h,rfl⟩
theorem ye.k{H:Hp}{a:Addr}{kvs:List (cu×V)}{k:cu}{v:V}(e:H a=some (.dK kvs))(h:kvs.length < sizeLine):ye H a (kV k) v (cq H a (.dK (putK kvs k v))):=.inl ⟨kvs,k,e,rfl,h,rfl⟩
theorem ye.t{H:Hp}{a b:Addr}{kvs:List (List cu×V)}{k:List cu}{v:V}(e:H a=some (.dT kvs))(h:H b=some (.tup (k.map kV)))(l:kvs.length < sizeLine) :
  ye H a (.ref b) v (cq H a (.dT (putK kvs k v))):=.inr ⟨kvs,k,b,e,rfl,h,l,rfl⟩
section
variable{X:Cx}{pins:PN}{J:St}{H:Hp}{s:Shared}{a:Addr}{y v:V}{u r:Value}{o:Option V}{A:Around}{E:VP}
theorem Inv.big(I:Inv X pins J H s):sysModules < s.heap.objs.size:=by have h:mainGlobals < s.heap.objs.size:=(I.mod.glob.keeps I.bk).lt;exact lT (by decide) h
theorem ux(q:A.units+1 < cLine)(I:Inv X pins J H s)(g:lh H a y (some v))(c:RelV y u)(h:∀x s',Inv X pins J H s'->RelV v x->Q x s') :
  wpAny (model X.p X.w) A (getItem (.ref a) u) Q E s:=by
 rcases g with ⟨kvs,k,e,n,l⟩|⟨kvs,k,b,e,n,m,l⟩
 .subst n;obtain⟨z,hd,i,r,d⟩:=uw I.h e;obtain⟨x,hw,w⟩:=lq.some_of (v:=v) (o:=valueAt i k) (by rw[l];exact r.val k);exact wpAny_getItem_of (pG c) d.mapOf hw (h x _ (I.tok _) w)
 .subst n;cases (show u=Value.ref b from c);obtain⟨z,hd,xs,r,d⟩:=uv I.h e;obtain⟨x,hw,w⟩:=lq.some_of (v:=v) (o:=(atKey xs k).map (·.2)) (by rw[l];exact r.val k);obtain⟨p,t,f⟩:=eR.mp hw;refine D1 (rH q) (o0 I.h m) d t ?_;rw[f];exact h x _ (I.tok _) w
theorem SF(c:A.units+1 < cLine)(I:Inv X pins J H s)(g:lh H a y o)(n:RelV y u)(h:∀s',Inv X pins J H s'->Q (.bool o.isSome) s') :
  wpAny (model X.p X.w) A (compareOp .In u (.ref a)) Q E s:=by
 rcases g with ⟨kvs,k,e,x,l⟩|⟨kvs,k,b,e,x,f,l⟩
 .subst x;obtain⟨z,hd,v,r,d⟩:=uw I.h e;refine wpAny_in_of (pG n) hd d.mapOf ?_;rw[<- (r.val k).isSome_eq,<- l];exact h _ (I.tok _)
 .subst x;cases (show u=Value.ref b from n);obtain⟨z,hd,xs,r,d⟩:=uv I.h e;refine wpAny_in_heap (rH c) (o0 I.h f) hd d ?_;have q:=(r.val k).isSome_eq;rw[Aj]at q;rw[<- q,<- l];exact h _ (I.tok _)
theorem rc{t:Nat}(I:Inv X pins J H s)(m:Qy (H a))(f:fw a s.heap h')(k:∃q,h'.get? a=some q)(n:dC X.p X.w (cq H a N) h' a N) :
  Inv X pins J (cq H a N) { s with heap:=h',toks:=t }:=
 I.write (x:=a) (e:=a) m (.inl rfl) (λb q h z=>(f.2 b h).trans z) k n
theorem GR{P:Program}{w:World}{H':Hp}{h':Heap}{kvs:List (cu×V)}{v:List (cu×Value)}(z:kvs.length≤sizeLine)(hd:(a == sysModules)=false)(r:KV kvs v)(d:h'.DictOf (cL P w) a v) :
  dC P w H' h' a (.dK kvs):=⟨z,hd,v,r,d⟩
theorem DC{H':Hp}{Q:Unit->Shared->Prop}(hu:A.units+1 < cLine)(I:Inv X pins J H s)(g:ye H a y v H')(ry:RelV y u)(rv:RelV v r)(h:∀s',Inv X pins J H' s'->Q () s') :
  wpAny (model X.p X.w) A (setItem (.ref a) u r) Q E s:=by
 rcases g with ⟨kvs,k,e,ey,l,eH⟩|⟨kvs,k,b,e,ey,eb,l,eH⟩
 .subst ey eH;obtain⟨z,hd,vs,rel,dd⟩:=KW I.h e;have hz:vs.length≤sizeLine:=by rw[<- rel.length];exact z
  have hl:(putK kvs k v).length≤sizeLine:=by have:=lB kvs k v;lia
  refine wpAny_setItem_pairs (hsz:=hz) (pG ry) dd λh' dd' hs=>h _ ?_;have he:∃q,h'.get? a=some q:=let ⟨q,_,_,hq,_⟩:=dd';⟨q,hq⟩
  exact rc I (by rw[e];exact True.intro) hs he (GR hl hd (rel.put k rv) dd')
 .subst ey eH;cases (show u=Value.ref b from ry);obtain⟨z,hd,xs,rel,dd⟩:=P_ I.h e;have hz:xs.length≤sizeLine:=by rw[<- Paired.length rel];exact z
  have hl:(putK kvs k v).length≤sizeLine:=by have:=lB kvs k v;lia
  refine D3 (hsz:=hz) (rH hu) (o0 I.h eb) dd λh' dd' hs=>h _ ?_;obtain⟨q,es,ep,hq,h2,h3,h4,_,h5⟩:=dd';refine rc I (by rw[e];exact True.intro) hs ⟨q,hq⟩ ⟨hl,hd,_,(rel.put k eb rv).keeps λc ys ec=>?_,q,es,ep,hq,h2,h3,h4,h5⟩;rw[aN (Ps ec e (λz=>nomatch z))];exact ec
end
noncomputable def OU(td ty tv:TE):TS:=λD J H=>tv J H λv G=>td J G λx H2=>ty J H2 λy e=>∃a h,x=.ref a/\ye e a y v h/\D.nx J h
section
variable{X:Cx}{o i e value:Expr}{B pos' tpos:Pos}{td ty tv:TE}
theorem BY(t:X.A.units+1 < cLine)(c:PE X o td)(hi:PE X i ty)(p:PE X value tv)(m:swapsWith value (some (.Subscript o i pos')) B.line X.e=pure false) :
  PS X (.Assign [.Subscript o i pos'] value B) (OU td ty tv):=by
 intro pins s J H D I h;refine D' (c_ (p pins s J H _ I h) λr F ⟨v,G,n,j,q⟩=>c_ (c pins F J G _ n q) λu K ⟨x,H2,k,l,d⟩=>c_ (hi pins K J H2 _ k d) λiv A z=>?_) m;obtain⟨y,P,f,S,a,e,ex,g,w⟩:=z;subst ex;obtain rfl:u=Value.ref a:=l;exact DC t f g S j λC b=>⟨J,e,b,w⟩
end
theorem GU(h:Heap)(b:sysModules < h.objs.size):dC P w H (h.push { cls:=.type "dict",data:=.dict #[] }) h.objs.size (.dK []):=
 ⟨cQ _,jF.mpr (aS (bK b)),[],.nil,Heap.DictOf.new h⟩
theorem GO(h:Heap)(b:sysModules < h.objs.size):dC P w H (h.push { cls:=.type "dict",data:=.dict #[] }) h.objs.size (.dT []):=
 ⟨cQ _,jF.mpr (aS (bK b)),[],.nil,_,#[],0,cw _ rfl,⟨rfl,rfl,rfl⟩,rfl,rfl,vc⟩
def LK:TE:=λ_ H Q=>∀p,H p=none->Q (.ref p) (cq H p (.dK []))
def LI:TE:=λ_ H Q=>∀p,H p=none->Q (.ref p) (cq H p (.dT []))
section
variable{X:Cx}{B:Pos}
theorem Fw:PE X (.Dict [] [] B) LK:=λpins s J H Q I h=>
 yu ⟨.ref s.heap.objs.size,_,I.laid (a:=s.heap.objs.size) (o:=.dK []) (t':=s.toks) (λ_ _ q=>ba _ q) (al _) (GU s.heap I.big),rfl,h _ (I.h.fresh (al _))⟩
theorem Fu:PE X (.Dict [] [] B) LI:=λpins s J H Q I h=>
 yu ⟨.ref s.heap.objs.size,_,I.laid (a:=s.heap.objs.size) (o:=.dT []) (t':=s.toks) (λ_ _ q=>ba _ q) (al _) (GO s.heap I.big),rfl,h _ (I.h.fresh (al _))⟩
end
structure M1(X:Cx)(o:Expr)(m:Str)(apos:Pos)(e:Expr)(cpos:Pos):Prop where
 base:attributeBase o m X.e (eval o X.e)=eval o X.e
 few:((backTo cpos (starEach [e] X.e)).all (fun x=>!x.1) && (backToKw cpos (keywordEach [] X.e)).all (fun x=>x.1.isSome)
  && decide (([e]:Ab).length+([]:List Keyword).length+(if ([]:List Keyword).isEmpty then 0 else 1) < 30))=true
 line:(apos.endLine == cpos.line)=true
 trees:backTo cpos (starEach [e] X.e)=[(false,eval e X.e)]
structure M2(X:Cx)(o:Expr)(m:Str)(apos:Pos)(e f:Expr)(cpos:Pos):Prop where
 base:attributeBase o m X.e (eval o X.e)=eval o X.e
 few:((backTo cpos (starEach [e,f] X.e)).all (fun x=>!x.1) && (backToKw cpos (keywordEach [] X.e)).all (fun x=>x.1.isSome)
  && decide (([e,f]:Ab).length+([]:List Keyword).length+(if ([]:List Keyword).isEmpty then 0 else 1) < 30))=true
 line:(apos.endLine == cpos.line)=true
 trees:backTo cpos (starEach [e,f] X.e)=[(false,eval e X.e),(false,eval f X.e)]
def S4(H:Hp)(a:Addr):Prop:=(∃kvs,Rd H a (.dK kvs))\/∃kvs,Rd H a (.dT kvs)
variable{pins:PN}{J:St}{s:Shared}
theorem zd(I:Inv X pins J H s)(d:S4 H a) :
  s.TypeIs (.ref a) "dict"/\(∀b,Value.ref a=.ref b->∃o,s.heap.get? b=some o/\o.dict=none)/\(a == sysModules)=false:=by
 rcases d with ⟨kvs,e⟩|⟨kvs,e⟩
 .obtain⟨_,hd,v,_,h⟩:=uw I.h e;refine⟨h.typeIs,λb q=>?_,hd⟩;cases q;obtain⟨o,_,_,h1,h2,_⟩:=h;exact⟨o,h1,h2.2.1⟩
 .obtain⟨_,hd,xs,_,h⟩:=uv I.h e;refine⟨h.typeIs,λb q=>?_,hd⟩;cases q;obtain⟨o,_,_,h1,h2,_⟩:=h;exact⟨o,h1,h2.2.1⟩
section
variable{X:Cx}{pins:PN}{J:St}{H:Hp}{s:Shared}{a:Addr}{y d:V}{u r:Value}{o:Option V}{A:Around}{E:VP}
theorem Nf(c:A.units+1 < cLine)(I:Inv X pins J H s)(g:lh H a y o)(n:RelV y u)(h:∀w s',Inv X pins J H s'->RelV (o.getD .non) w->Q w s') :
  wpAny (model X.p X.w) A (call (.builtin "dict.get") [.ref a,u]) Q E s:=by
 rcases g with ⟨kvs,k,e,x,l⟩|⟨kvs,k,b,e,x,f,l⟩
 .subst x;obtain⟨z,hd,v,r,d⟩:=uw I.h e;refine ri lP d.typeIs qk (z4 _ _) (meets_dict_get (cL X.p X.w) a (pG n) hd) ⟨_,d.mapOf,h _ _ (I.tok _) ?_⟩;rw[l];exact(r.val k).getD rfl
 .subst x;cases (show u=Value.ref b from n);obtain⟨z,hd,xs,r,d⟩:=uv I.h e;refine ri lP d.typeIs qk (z4 _ _) (meetsH_dict_get (tupleKind (cL X.p X.w)) a b hd) ⟨rH c,k,xs,o0 I.h f,d,h _ _ (I.tok _) ?_⟩;rw[l];exact(r.val k).getD rfl
theorem Nd(p:A.units+1 < cLine)(I:Inv X pins J H s)(g:lh H a y o)(m:RelV y u)(c:RelV d r)(h:∀w s',Inv X pins J H s'->RelV (o.getD d) w->Q w s') :
  wpAny (model X.p X.w) A (call (.builtin "dict.get") [.ref a,u,r]) Q E s:=by
 rcases g with ⟨kvs,k,e,f,l⟩|⟨kvs,k,b,e,f,t,l⟩
 .subst f;obtain⟨z,hd,v,x,n⟩:=uw I.h e;refine ri lP n.typeIs qk (z5 _ _ _) (meets_dict_get_default (cL X.p X.w) a (pG m) hd r) ⟨_,n.mapOf,h _ _ (I.tok _) ?_⟩;rw[l];exact(x.val k).getD c
 .subst f;cases (show u=Value.ref b from m);obtain⟨z,hd,xs,x,n⟩:=uv I.h e;refine ri lP n.typeIs qk (z5 _ _ _) (meetsH_dict_get_default (tupleKind (cL X.p X.w)) a b hd r) ⟨rH p,k,xs,o0 I.h t,n,h _ _ (I.tok _) ?_⟩;rw[l];exact(x.val k).getD c
end
noncomputable def LO(td ty:TE):TE:=λJ H Q=>td J H λx G=>∃a,x=.ref a/\S4 G a/\ty J G λy H2=>∃o,lh H2 a y o/\Q (o.getD .non) H2
noncomputable def LN(td ty tx:TE):TE:=λJ H Q=>td J H λx G=>∃a,x=.ref a/\S4 G a/\ty J G λy H2=>tx J H2 λz h=>∃o,lh h a y o/\Q (o.getD z) h
section
variable{X:Cx}{o e f:Expr}{apos cpos:Pos}{td ty tx:TE}
theorem Fy(t:X.A.units+1 < cLine)(c:PE X o td)(b:PE X e ty)(m:M1 X o "get" apos e cpos):PE X (.Call (.Attribute o "get" apos) [e] [] cpos) (LO td ty):=by intro pins s J H Q I h;refine yx m.base m.few m.line uR lP z3 (c_ (c pins s J H _ I h) λu i z=>?_);obtain⟨x,G,n,v,a,ex,d,q⟩:=z;subst ex;obtain rfl:u=Value.ref a:=v;obtain⟨j,l,_⟩:=zd n d;refine⟨j,l,?_⟩;rw[m.trees];refine lS rfl (lR (fu (c_ (b pins i J G _ n q) λiv F ⟨y,H2,k,w,S,g,p⟩=>i0 ?_)));exact Nf t k g w λP K f r=>⟨_,H2,f,r,p⟩
theorem Fx(w:X.A.units+1 < cLine)(v:PE X o td)(p:PE X e ty)(q:PE X f tx)(m:M2 X o "get" apos e f cpos):PE X (.Call (.Attribute o "get" apos) [e,f] [] cpos) (LN td ty tx):=by
 intro pins s J H Q I h;refine yx m.base m.few m.line uR lP z3 (c_ (v pins s J H _ I h) fun u A i=>?_);obtain⟨x,G,n,F,a,ex,d,j⟩:=i;subst ex;obtain rfl:u=Value.ref a:=F;obtain⟨C,D,_⟩:=zd n d;refine⟨C,D,?_⟩;rw [m.trees];refine lS rfl (lR (fu (c_ (p pins A J G _ n j) fun iv B ⟨y,H2,b,K,l⟩=>
  fu (c_ (q pins B J H2 _ b l) λE M ⟨z,k,c,P,L,g,S⟩=>i0 ?_))))
 exact Nd w c g K P λR N t r=>⟨_,k,t,r,S⟩
end
end L2
set_option tactic.hygienic true
namespace Att
open PySem PySem.W PySem.Calls PyProof.Rows
theorem p0:∀(s:List Int)(v:LV),WellAll P h v (s.map WData.int)->IntsAre v s:=by
 intro s;induction s with
 |nil=>intro v w;rw[eS]at w;cases w;exact .nil
 |cons n s i=>
  intro v w;rw[aG]at w;cases w with
  |cons a b=>cases a;exact .cons _ _ (i _ b)
theorem C3{l:OpenLaw}(t:l.most=some n)
  (p:l.row.toRowW.claim.pre z=true) (w:WellAll P h I z) :
  ∃a v s,I=[Value.ref a]/\z=[WData.list (s.map WData.int)]/\h.get? a=some { cls:=.type "list",data:=.seq v.toArray }/\IntsAre v s/\s.length≤n:=by
 have b:WShape.hasAll [] z [.list .int]=true:=(pre_splitW p).1;have c:l.pre.holds [] { args:=z }=true:=(pre_splitW p).2;obtain⟨d,r,rfl,h1,h2⟩:=hasAllW_cons b;obtain rfl:=hasAllW_nil h2;obtain⟨xs,rfl,m⟩:=hasW_list h1;obtain⟨s,rfl⟩:=items_int m;have e:s.length≤n:=by
  unfold OpenLaw.pre at c;have k:(WTm.not (.lt (.lit (.int (n:Int))) (.len (.arg 0)))).holds [] { args:=[.list (s.map .int)] }=true:=by have k:=(holds_andW c).1;rw[t]at k;exact k
  have f:=condW_of k (w_not (w_lt w_lit (w_len_list (w_arg rfl))));rw[aZ]at f;refine Nat.le_of_not_lt λq=>?_;have u:(n:Int) < ((s.length:Nat):Int):=by lia
  first
   |(rw[fR u]at f;exact absurd f (by decide))
   |(simp at f;lia)
 cases w with
 |cons g i=>
  cases i;cases g with
  |list o x=>exact⟨_,_,s,rfl,rfl,o,p0 s _ x,e⟩
theorem C8(l:OpenLaw)(a:List WData):l.row.toRowW.claim.post a (.bool true) a=true:=
 postW_of (r:=l.row.toRowW) (X:=(true == true))
  (show WShape.has [] (.bool true) .bool=true by first|rfl|decide|simp[WShape.has,WShape.arms,WShape.armsAll])
  (show(WTm.eq .res (.lit (.bool true))).value [] { args:=a,res:=some (.bool true),after:=a }=some (.bool (true == true)) from w_eq_bool (w_res rfl) w_lit) rfl
theorem attach_call{l:OpenLaw}
  (M:l.most=some n) (u:d.params.defaults=[])
  (call:∀(w:World) (h s:Shared) (mg y:SV) (x:Addr) (o:Obj) (H k c:Value) (a:Addr) (v:LV) (m:List Int),
   Ground q z [] I w h mg y s.heap->N w s.heap ->
   s.heap.get? x=some o->o.data=.func (docDef d.name d.params d.body d.scope H k c)->s.heap.CodeRec k d.name->mg d.name=some (.ref x) ->
   s.heap.get? a=some { cls:=.type "list",data:=.seq v.toArray }->IntsAre v m->m.length≤n->s.gens=#[] ->
   codeAny (model l.prog w) callerA (.call (.ref x) ⟨[.ref a],[]⟩) (λr s'=>r=.ok (.ret (.bool true))/\OldK s.heap s'.heap/\s'.os=s.os/\AllBare s'.gens) s) :
  WalkO q z I N l.row.toRowW d [] (λf v=>PySem.call f v):=by
 intro w h s mg y G P x o H k c V kV Q hd t D g C S K W p F T j E;obtain rfl:V=.none:=Dflts.none D u;obtain rfl:kV=.none:=Dflts.noKw D;obtain⟨a,v,m,rfl,rfl,b,i,e⟩:=C3 M p j;refine enter_call (uJ (call w h s mg y x o H k c a v m G P Q (fd_plain hd) t g b i e C) λr s' R=>?_);obtain⟨rfl,h2,A,B⟩:=R;exact⟨.inl ⟨.bool true,.bool true,[],rfl,λ_=>rfl,.bool true,C8 l _,λ_=>⟨List.Pairwise.nil,λ_ L=>(nomatch L)⟩⟩,h2,A,B⟩
end Att
set_option tactic.hygienic false
namespace L2
open PySem PySem.Spec PyProof.Rows
theorem t_:∀{v:LV}{s:List Int},IntsAre v s->bb (s.map V.int) v
 |_,_,.nil=>.nil
 |_,_,.cons n t h=>.cons ⟨t,rfl⟩ (t_ h)
def DN(H:Hp):Prop:=∀b,H b=none\/∃o xs,H b=some (.frz o (.lst xs))
set_option tactic.hygienic true in
theorem F0{P:Program}{w:World}{K:FG}{mg T:SV}{CX:DT}{k:Nat}{N a:Addr}{fd:FuncData}{x:Str}{sp:Sp}{f:Shared}{j:LV}{G:List Int}
  (Z:K.In f.heap) (B:f.heap.Ns mainGlobals mg) (t:f.heap.Ns builtinsNs T) (Q:∀x:Str,x≠"__name__"->T x=bootBuiltins x) (A:f.heap.NoLimit) (hg:f.gens=#[])
  (L:f.heap.get? a=some { cls:=.type "list",data:=.seq j.toArray }) (hi:IntsAre j G) (hl:G.length≤sizeLine) (hr:Room k callerA)
  (F:∀base:Heap,K.In base->base.Ns mainGlobals mg->FnOk P w K mg base CX k N fd [x] sp) (i:∀(s:Shared)(u:Value),BindsTo s fd ⟨[u],[]⟩ [(x,u)])
  (R:∀H:Hp,DN H->g0 K H a (G.map V.int)->sp [.ref a] H (λv _=>v=.bl true) λ_ _ _=>False)
  (X:∀H e s',CX [] H f (λ_ _ _=>False) e s'->False) :
  codeAny (model P w) callerA (.call (.ref N) ⟨[.ref a],[]⟩) (λr s'=>r=.ok (.ret (.bool true))/\OldK f.heap s'.heap/\s'.os=f.os/\AllBare s'.gens) f:=by
 have rv:=t_ hi;have E:=hi.length;have g:∀H:Hp,DN H->g0 K H a (G.map V.int)->mh P w H f.heap->(∀b,H b≠none->b=a)->(H a≠none->K.lookup a=none) ->
   codeAny (model P w) callerA (.call (.ref N) ⟨[.ref a],[]⟩) (λr s'=>r=.ok (.ret (.bool true))/\OldK f.heap s'.heap/\s'.os=f.os/\AllBare s'.gens) f:=by
  intro H hO hS C hA hK;have c:∀{b:Addr}{o:Obj},f.heap.get? b=some o->H b=none->(wk f.heap H).get? b=some o:=λe n=>Gx e n
  have W:∀{b:Addr}{o:Obj}{es:Array DictEntry}{y:Nat},f.heap.get? b=some o->o.data=.dict es y->H b=none:=λ{b o es y} e d=>by
   cases q:H b with
   |none=>rfl
   |some u=>have M:b=a:=hA b (by rw[q];simp);subst M;rw[L]at e;cases e;have d':Data.seq j.toArray _=Data.dict es y:=d;cases d'
  have p:∀{b:Addr}{m:SV},f.heap.Ns b m->(wk f.heap H).Ns b m:=fun {b m} ⟨o,es,y,e,d,r⟩=>⟨o,es,y,c e (W e d),d,r⟩;have S:K.In (wk f.heap H):=fun b o e=>c (Z b o e) (by
   cases q:H b with
   |none=>rfl
   |some u=>have M:b=a:=hA b (by rw[q];simp);subst M;rw[hK (by rw[q];simp)]at e;cases e)
  have hM:Mod K mg (wk f.heap H):=⟨S,p B,⟨T,p t,Q⟩,let ⟨mc,h1,h2⟩:=A;⟨mc,p h1,h2⟩⟩;have e0:Env0 P w K mg (wk f.heap H) callerA [] f H:=⟨rfl,hM,λb o e=>Jp e,qx (Dt _ _),trivial,λb t=>absurd (show b ∈ ([]:List Addr) from t) (by simp),C,.of_eq hg⟩;refine uJ ((F _ S (p B)).run callerA [] f H ⟨[.ref a],[]⟩ [.ref a] [.ref a] _ _ hr e0 (i f (.ref a)) (.cons rfl .nil) (R H hO hS)) λr s' h=>?_;cases r with
  |error e=>exact(X H e s' h).elim
  |ok fl=>
   cases fl with
   |next=>exact False.elim h
   |brk=>exact False.elim h
   |cont=>exact False.elim h
   |ret u=>
    obtain⟨v,H',os,l,un,D,r',q⟩:=h;have q':v=.bl true:=q;subst q';obtain rfl:u=Value.bool true:=r';refine⟨rfl,OldK.of_keep λb o e=>?_,os,l⟩;cases q:H b with
    |none=>exact un.keep b o e q (by intro z;exact absurd (show b ∈ ([]:List Addr) from z) (by simp)) (by simp)
    |some u=>
     rcases hO b with z|⟨ob,xs,z⟩
     .rw [q]at z;cases z
     .have z2:=un.frzs b ob _ z;obtain⟨e1,_⟩:=C b _ z;obtain⟨e2,_⟩:=D b _ z2;rw[e]at e1;cases e1;exact e2
 cases hk:K.lookup a with
 |some o=>have e:=Z a o hk;rw[L]at e;cases e;refine g (λ_=>none) (λ_=>.inl rfl) (.inr ⟨_,j.toArray,_,hk,rfl,rfl,rfl,by rw[bf,E];exact hl,by simpa using rv⟩) (λb u z=>by have I:(none:Option HO)=some u:=z;cases I) (λb z=>absurd rfl z) λz=>absurd rfl z
 |none=>
  refine g (λb=>if b=a then some (.frz { cls:=.type "list",data:=.seq j.toArray } (.lst (G.map V.int))) else none) (λb=>?_) (.inl (.inr ⟨{ cls:=.type "list",data:=.seq j.toArray },af rfl⟩)) (λb u z=>?_) (λb z=>?_) λ_=>hk
  .by_cases t:b=a
   .exact .inr ⟨_,_,af t⟩
   .exact .inl (ah t)
  .by_cases t:b=a
   .have I:=(af t).symm.trans z;cases I;subst t;exact⟨L,by rw[aZ];exact hl,j,_,rv,L⟩
   .have I:=(ah t).symm.trans z;cases I
  .by_cases t:b=a
   .exact t
   .exact absurd (ah t) z
noncomputable abbrev TH{K:FG}(_:K.In h):FG:=K
theorem Io{l:Ee}{n k:Nat}{q:Program}{c:LS}{B:(SV)->Heap->Prop}{P:World->Heap->Prop}{d:DefRec}{K:Params->FG}{CX:World->DT}{sp:World->Sp}{x:Str}
  (W:l.most=some n) (y:n≤sizeLine) (p:d.params.defaults=[]) (Z:Room k callerA)
  (N:∀(w:World)(h:Heap),P w h->(K w.params).In h)
  (F:∀(w:World) (mg:SV) (r:Addr) (h:Heap),(K w.params).In h->h.Ns mainGlobals mg->mg d.name=some (.ref r) ->
   ∃fd:FuncData,(∀(s:Shared)(u:Value),BindsTo s fd ⟨[u],[]⟩ [(x,u)]) /\
    ∀base:Heap,(K w.params).In base->base.Ns mainGlobals mg->FnOk l.prog w (K w.params) mg base (CX w) k r fd [x] (sp w))
  (z:∀(w:World)(H:Hp)(a:Addr)(t:List Int),t.length≤n->DN H->g0 (K w.params) H a (t.map V.int)->sp w [.ref a] H (λv _=>v=.bl true) λ_ _ _=>False)
  (C:∀(w:World)(H:Hp)(s:Shared)(e:Value)(s':Shared),CX w [] H s (λ_ _ _=>False) e s'->False) :
  Ec q c B P l.row.toRowW d [] (λf A=>PySem.call f A):=by
 refine Att.attach_call W p λw S m mg mb r o pm cd E a A t G D ho hd R g j i b T=>?_;have X:=N w _ D;obtain⟨fd,Q,I⟩:=F w mg r _ X G.T.g g;exact F0 X G.T.g G.T.b G.T.builtins G.T.nolimit T j i (aI b y) Z I Q (λH L M=>z w H a t b L M) λH e s'=>C w H m e s'
theorem Ez{l:Ee}{n k:Nat}{q:Program}{o:LS}{X:(SV)->Heap->Prop}{P:World->Heap->Prop}{d:DefRec}{K:Params->FG}{CX:DT}{sp:FG->Sp}{x:Str}
  (i:l.most=some n) (m:n≤sizeLine) (c:d.params.defaults=[]) (j:Room k callerA)
  (g:∀(w:World)(h:Heap),P w h->(K w.params).In h)
  (F:∀(w:World) (mg:SV) (r:Addr) (h:Heap),(K w.params).In h->h.Ns mainGlobals mg->mg d.name=some (.ref r) ->
   ∃fd:FuncData,(∀(s:Shared)(u:Value),BindsTo s fd ⟨[u],[]⟩ [(x,u)]) /\
    ∀base:Heap,(K w.params).In base->base.Ns mainGlobals mg->FnOk l.prog w (K w.params) mg base CX k r fd [x] (sp (K w.params)))
  (p:∀(K:FG)(H:Hp)(a:Addr)(b:List Int),b.length≤n->DN H->g0 K H a (b.map V.int)->sp K [.ref a] H (λv _=>v=.bl true) λ_ _ _=>False)
  (C:∀(H:Hp)(s:Shared)(e:Value)(s':Shared),CX [] H s (λ_ _ _=>False) e s'->False) :
  Ec q o X P l.row.toRowW d [] (λf y=>PySem.call f y):=
 Io (K:=K) (CX:=λ_=>CX) (sp:=λw=>sp (K w.params)) i m c j g F (λw H a b h1 h2 t=>p (K w.params) H a b h1 h2 t) λ_ H s e s'=>C H s e s'
noncomputable def im(s:Stmt)(j:Nat):Stmt:=match s with
 | .ClassDef _ _ _ b _ _ _ _ _ _ _=>b.getD j (.Pass ⟨0,0,0,0⟩)
 |_=>.Pass ⟨0,0,0,0⟩
noncomputable def ja(s:Stmt):Arguments:=match s with
 | .FunctionDef _ a _ _ _ _ _ _ _ _=>a
 |_=>{ posonlyargs:=[],args:=[],vararg:=none,kwonlyargs:=[],kw_defaults:=[],kwarg:=none,defaults:=[] }
noncomputable def fY(s:Stmt):List Stmt:=match s with
 | .FunctionDef _ _ b _ _ _ _ _ _ _=>b
 |_=>[]
noncomputable def bv(s:Stmt):Scope:=match s with
 | .FunctionDef _ _ _ _ _ _ sc _ _ _=>sc
 |_=>{ kind:=.function,names:=[],isGenerator:=false,isCoroutine:=false }
noncomputable abbrev tu:DT:=λ_ _ _ _ _ _=>False
noncomputable abbrev E0:XK:=λ_ _ _=>False
theorem sr:nl tu X E0:=λ_ _ _ _ _ _ _ h=>h.elim
structure Fun(K:FG)(x qual:Str)(st:Stmt)(f:Addr)(fd:FuncData):Prop where
 ex:∃(oc:Value)(od:Option Addr)(dV kV doc pm:Value)(an:Option Addr)(cdv ct:Value)(osl:Array (OV)),
  fd=jZ x qual (ja st) (fY st) (bv st) dV kV doc pm an cdv ct/\K.lookup f=some ⟨oc,od,.func fd,osl⟩/\rM K cdv qual=true
 kp:iH K (.ref f)=true
section
variable{P:Program}{w:World}{K:FG}{mg:SV}{base:Heap}
theorem Fun.ok{x u:Str}{st:Stmt}{f:Addr}{fd:FuncData}{N ps:LS}{k:Nat}{sp:Sp}(F:Fun K x u st f fd)(S:FnScope N ps (bv st))(len:∀v H Q E,sp v H Q E->v.length=ps.length)
  (b:∀(c:Value) (A:Around) (o:List Env) (s:Shared) (H:Hp) (v:List V) (Q:VK) (E:XK),Room k (A.deeper (envOfC u (bv st) s.heap.objs.size f c))->sp v H Q E ->
   ∃t,qc (xY tu P w K mg base N u (bv st) f c A o s H E).nox (fY st) t/\t { nx:=λ_ H'=>Q .non H',rt:=Q } (start N v) H):FnOk P w K mg base tu (k+1) f fd ps sp:=by
 obtain⟨g,i,m,kV,a,j,n,c,e,l,rfl,lk,d⟩:=F.ex;refine P4 lk d S len λA o s H v Q E r p=>?_;obtain⟨t,h,q⟩:=b c A o s H v Q E r p;exact⟨t,h.nox,q⟩
theorem GA{x q:Str}{st:Stmt}{f:Addr}{h:Value}{e a:Option Addr}{s:Array (OV)}{V kV o p d t:Value}(l:K.lookup f=some ⟨h,e,.func (jZ x q (ja st) (fY st) (bv st) V kV o p a d t),s⟩)
  (c:rM K d q=true) (k:iH K (.ref f)=true):Fun K x q st f (jZ x q (ja st) (fY st) (bv st) V kV o p a d t):=⟨⟨h,e,V,kV,o,p,a,d,t,s,rfl,l,c⟩,k⟩
end
def UB(H H':Hp):Prop:=∀b o,H b=some o->H' b=some o
abbrev KN:List (PyData×V×V)->List (PyData×Addr×Value)->Prop:=Paired λp q=>p.1=q.1/\p.2.1=V.ref q.2.1/\RelV p.2.2 q.2.2
def pA(h:Heap)(d:PyData)(v:V):Prop:=∃b,v=.ref b/\Nk.kd d=true/\d.depth≤8/\∃as,Reads h (.ref b) d as
noncomputable def zh(kvs:List (PyData×V×V))(d:PyData):Bool:=kvs.any λp=>decide (p.1=d)
section
variable{P:Program}{w:World}{H:Hp}{h:Heap}{a:Addr}
theorem KN.has(r:KN kvs xs)(d:PyData):(atKey xs d).isSome=zh kvs d:=by
 induction r with
 |nil=>rfl
 | @cons p q ps qs h t i=>
  unfold zh at i ⊢;rw[dI];by_cases e:p.1=d
  .have x:q.1=d:=h.1.symm.trans e;simp[atKey,h_,e,x]
  .have x:¬q.1=d:=λz=>e (h.1.trans z);rw[be e,nH,<- i];simp[atKey,h_,x]
theorem GP(ok:mh P w H h)(e:H a=some (.dN kvs))(ks:∀p ∈ kvs,pA h p.1 p.2.1):kvs.length≤sizeLine/\(a == sysModules)=false/\∃xs,KN kvs xs/\h.DictOfH (Nk.nest P w) a xs:=by
 obtain⟨z,y,xs,r,o,es,ep,h1,h2,h3,h4,h5⟩:=(show dC P w H h a (.dN kvs) from ok a _ e);refine⟨z,y,xs,r,o,es,ep,h1,h2,h3,h4,?_,h5⟩;clear h4 h5 e z;induction r with
 |nil=>exact λx hx=>nomatch hx
 | @cons p q ps qs hq t ih=>
  intro x hx;rcases aQ.mp hx with rfl|hx
  .obtain⟨b,e1,k,l,as,rd⟩:=ks p aF;have e2:=hq.2.1;rw[e1]at e2;cases e2;rw[<- hq.1];exact⟨k,l,as,rd⟩
  .exact ih (λp hp=>ks p (aH _ hp)) x hx
end
section
variable{X:Cx}{pins:PN}{J:St}{H:Hp}{s:Shared}{a:Addr}{d:PyData}{y v:V}{u r:Value}{A:Around}{E:VP}{kvs:List (PyData×V×V)}
theorem Jr(hu:A.units+9 < cLine)(I:Inv X pins J H s)(e:H a=some (.dN kvs))(ks:∀p ∈ kvs,pA s.heap p.1 p.2.1)(ky:pA s.heap d y)(ry:RelV y u)(h:∀s',Inv X pins J H s'->Q (.bool (!zh kvs d)) s') :
  wpAny (model X.p X.w) A (compareOp .NotIn u (.ref a)) Q E s:=by
 obtain⟨b,rfl,k⟩:=ky;cases (show u=Value.ref b from ry);obtain⟨z,hd,xs,rel,dd⟩:=GP I.h e ks;refine wpAny_notIn_heap (knd:=Nk.nest X.p X.w) (show(A.in1).units+8 < cLine by rw[qN];lia) k hd dd ?_;rw[rel.has];exact h _ (I.tok _)
theorem Pt(hu:A.units+9 < cLine)(I:Inv X pins J H s)(e:H a=some (.dN kvs))(ks:∀p ∈ kvs,pA s.heap p.1 p.2.1)(ky:pA s.heap d y)(ry:RelV y u)(rv:RelV v r)(new:zh kvs d=false)(hl:kvs.length < sizeLine)
  (h:∀s',Inv X pins J (cq H a (.dN (kvs++[(d,y,v)]))) s'->Q () s'):wpAny (model X.p X.w) A (setItem (.ref a) u r) Q E s:=by
 obtain⟨b,rfl,k⟩:=ky;cases (show u=Value.ref b from ry);obtain⟨z,hd,xs,rel,dd⟩:=GP I.h e ks;have hz:xs.length≤sizeLine:=by rw[<- Paired.length rel];exact z
 refine D3 (knd:=Nk.nest X.p X.w) (hsz:=hz) (show(A.in1).units+8 < cLine by rw[qN];lia) k dd λh' dd' hs=>h _ ?_;have nn:atKey xs d=none:=by have:=rel.has d;rw[new]at this;simpa using this
 rw[storedH_new nn]at dd';obtain⟨q,es,ep,hq,h2,h3,h4,_,h5⟩:=dd';exact rc I (by rw[e];exact True.intro) hs ⟨q,hq⟩ ⟨by simp;lia,hd,_,Paired.snoc rel ⟨rfl,rfl,rv⟩,q,es,ep,hq,h2,h3,h4,h5⟩
end
theorem GQ(h:Heap)(b:sysModules < h.objs.size):dC P w H (h.push { cls:=.type "dict",data:=.dict #[] }) h.objs.size (.dN []):=
 ⟨cQ _,jF.mpr (aS (bK b)),[],.nil,_,#[],0,cw _ rfl,⟨rfl,rfl,rfl⟩,rfl,rfl,vc⟩
end L2
set_option tactic.hygienic true
namespace PySem
open PySem PyProof.Rows
namespace F
theorem entry_dict_update_loop:entryFor table "dict.update.loop"=some Builtin.«dict.update.loop»:=entryFor_of_tree (by kernel_rfl)
theorem plain_dict_update_loop:plainId "dict.update.loop"=true:=by decide +kernel
end F
section
variable{prog:Program}{w:World}{A:Around}{E:VP}{s:Shared}
inductive PairsAt{K:Type}[DecidableEq K](knd:KeyKind prog w K)(h:Heap):LV->List (K×Value)->Prop
 |nil:PairsAt knd h [] []
 |cons {t:Addr}{key v:Value}{k:K}{us:LV}{kvs:List (K×Value)}:IsTup h t #[key,v]->knd.is k key=true->PairsAt knd h us kvs->PairsAt knd h (.ref t::us) ((k,v)::kvs)
end
end PySem
set_option tactic.hygienic false
namespace Ev
open PySem L2
inductive P where
 |non|bl (b:Bool)|int (i:Int)|str (x:Str)|tup (xs:List P)|lst (xs:List P)|ro (xs:List P)|dct (ks:List cu) (vs:List P)
inductive D where
 |p (v:P)|ref (i:Nat)
inductive SO where
 |lst (xs:List D)|dct (ks:List cu) (vs:List D)|fz (v:P)|ins (c:Str) (ks:LS) (vs:List D)|dtn (ks:List P) (vs:List D)|dtt (ks:List (List cu)) (vs:List D)
noncomputable abbrev aA:=List SO
noncomputable abbrev Lc:=List (Option D)
mutual
noncomputable def pd:P->PyData
 | .non=>.none
 | .bl b=>.bool b
 | .int i=>.int i
 | .str x=>.str x
 | .tup xs=>.tuple (jD xs)
 | .lst xs=>.list (jD xs)
 | .ro xs=>.list (jD xs)
 | .dct _ _=>.none
noncomputable def jD:List P->List PyData
 | []=>[]
 |x::r=>pd x::jD r
end
def SX(K:FG)(a:Addr)(xs:List V):Prop:=p' K (λ_=>none) a xs
def SY(K:FG)(a:Addr)(xs:List V):Prop:=g0 K (λ_=>none) a xs
def TupAt(K:FG)(H:Hp)(a:Addr)(xs:List V):Prop:=H a=some (.tup xs)\/SX K a xs
def LstAt(F:Aa)(H:Hp)(a:Addr)(xs:List V):Prop:=F a/\H a=some (.lst xs)
def DM(K:FG)(F:Aa)(H:Hp)(a:Addr)(xs:List V):Prop:=(F a/\∃o,H a=some (.frz o (.lst xs)))\/SY K a xs
variable{K:FG}{H:Hp}{a:Addr}{xs:List V}
theorem TupAt.sq(h:TupAt K H a xs):p' K H a xs:=by
 rcases h with h|(h|h)
 .exact .inl (.inl h)
 .rcases h with h|⟨o,h⟩<;>cases h
 .exact .inr h
variable{F:Aa}
theorem LstAt.sq(h:LstAt F H a xs):g0 K H a xs:=.inl (.inl h.2)
theorem DM.sq(h:DM K F H a xs):g0 K H a xs:=by
 rcases h with ⟨_,o,h⟩|(h|h)
 .exact .inl (.inr ⟨o,h⟩)
 .rcases h with h|⟨o,h⟩<;>cases h
 .exact .inr h
section
variable(K:FG)(F:Aa)(H:Hp)
mutual
noncomputable def RP:P->V->Prop
 | .non,v=>v=.non
 | .bl b,v=>v=.bl b
 | .int i,v=>v=.int i
 | .str x,v=>v=.str x
 | .tup ds,v=>∃a xs,v=.ref a/\TupAt K H a xs/\cX ds xs
 | .lst ds,v=>∃a xs,v=.ref a/\LstAt F H a xs/\cX ds xs
 | .ro ds,v=>∃a xs,v=.ref a/\DM K F H a xs/\cX ds xs
 | .dct ks ds,v=>∃a kvs,v=.ref a/\F a/\H a=some (.dK kvs)/\kvs.map (·.1)=ks/\cX ds (kvs.map (·.2))
noncomputable def cX:List P->List V->Prop
 | [],xs=>xs=[]
 |d::ds,xs=>∃x r,xs=x::r/\RP d x/\cX ds r
end
def RD(m:List Addr):D->V->Prop
 | .p d,v=>RP K F H d v
 | .ref i,v=>∃a,v=.ref a/\m[i]? = some a
def dB(m:List Addr):List D->List V->Prop
 | [],xs=>xs=[]
 |d::s,xs=>∃x r,xs=x::r/\RD K F H m d x/\dB m s r
def RO(m:List Addr)(a:Addr):SO->Prop
 | .lst d=>∃xs,H a=some (.lst xs)/\dB K F H m d xs
 | .dct s d=>∃k,H a=some (.dK k)/\k.map (·.1)=s/\dB K F H m d (k.map (·.2))
 | .fz v=>RP K F H v (.ref a)
 | .ins c s d=>∃C x k,oN K mainGlobals c=some (some (.ref C))/\H a=some (.ins C x k)/\k.map (·.1)=s/\dB K F H m d (k.map (·.2))
 | .dtn s d=>∃k,H a=some (.dN k)/\k.map (·.1)=jD s/\cX K F H s (k.map (·.2.1))/\dB K F H m d (k.map (·.2.2))
 | .dtt s d=>∃k,H a=some (.dT k)/\k.map (·.1)=s/\dB K F H m d (k.map (·.2))
def SO.own:SO->Prop
 | .fz _=>False
 |_=>True
structure Rel(m:List Addr)(S:aA):Prop where
 len:m.length=S.length
 nd:m.Nodup
 obj:∀(i:Nat) a o,m[i]? = some a->S[i]? = some o->RO K F H m a o
 sep:∀(i:Nat) a o,m[i]? = some a->S[i]? = some o->o.own->¬F a
 trk:∀a ∈ m,H a≠none
 ft:∀a,F a->H a≠none
end
structure Kp(F:Aa)(m:List Addr)(H:Hp)(F':Aa)(m':List Addr)(H':Hp):Prop where
 pre:∃n,m'=m++n
 frz:∀b,F b->F' b
 frk:∀b o,F b->H b=some o->H' b=some o
 tup:∀b xs,H b=some (.tup xs)->H' b=some (.tup xs)
structure Stp(F:Aa)(m:List Addr)(H:Hp)(F':Aa)(m':List Addr)(H':Hp):Prop where
 pre:∃n,m'=m++n
 oth:∀b o,H b=some o->b ∉ m->H' b=some o
 frz:∀b,F b->F' b
 frk:∀b o,F b->H b=some o->H' b=some o
 tup:∀b xs,H b=some (.tup xs)->H' b=some (.tup xs)
 trk:∀b,H b≠none->H' b≠none
 nf:∀b,F' b->F b\/H b=none\/b ∈ m
 nm:∀b,b ∈ m'->b ∈ m\/H b=none
variable{F':Aa}{m:List Addr}{m':List Addr}{H':Hp}
theorem Stp.kp(s:Stp F m H F' m' H'):Kp F m H F' m' H':=⟨s.pre,s.frz,s.frk,s.tup⟩
theorem Stp.refl:Stp F m H F m H:=
 ⟨⟨[],by simp⟩,λ_ _ h _=>h,λ_ h=>h,λ_ _ _ h=>h,λ_ _ h=>h,λ_ h=>h,λ_ h=>.inl h,λ_ h=>.inl h⟩
theorem Stp.trans(a:Stp F m H C k y)(b:Stp C k y B r I):Stp F m H B r I where
 pre:=by obtain⟨f,s⟩:=a.pre;obtain⟨t,n⟩:=b.pre;exact⟨f++t,by rw[n,s,eD]⟩
 oth:=λc o h x=>b.oth c o (a.oth c o h x) λz=>by
  rcases a.nm c z with z|z
  .exact x z
  .rw [h]at z;cases z
 frz:=λc h=>b.frz c (a.frz c h)
 frk:=λc o h e=>b.frk c o (a.frz c h) (a.frk c o h e)
 tup:=λc xs h=>b.tup c xs (a.tup c xs h)
 trk:=λc h=>b.trk c (a.trk c h)
 nf:=λc h=>by
  rcases b.nf c h with h|h|h
  .exact a.nf c h
  .by_cases e:H c=none
   .exact .inr (.inl e)
   .exact absurd h (a.trk c e)
  .rcases a.nm c h with h|h
   .exact .inr (.inr h)
   .exact .inr (.inl h)
 nm:=λc h=>by
  rcases b.nm c h with h|h
  .exact a.nm c h
  .by_cases e:H c=none
   .exact .inr e
   .exact absurd h (a.trk c e)
section
variable{K:FG}{F F':Aa}{H H':Hp}{m m':List Addr}{S N:aA}
theorem TupAt.kp(s:Kp F m H F' m' H')(h:TupAt K H a xs):TupAt K H' a xs:=by
 rcases h with h|h
 .exact .inl (s.tup _ _ h)
 .exact .inr h
theorem LstAt.kp(s:Kp F m H F' m' H')(h:LstAt F H a xs):LstAt F' H' a xs:=⟨s.frz _ h.1,s.frk _ _ h.1 h.2⟩
theorem DM.kp(s:Kp F m H F' m' H')(h:DM K F H a xs):DM K F' H' a xs:=by
 rcases h with ⟨f,o,h⟩|h
 .exact .inl ⟨s.frz _ f,o,s.frk _ _ f h⟩
 .exact .inr h
mutual
theorem RP.kp(s:Kp F m H F' m' H'):∀{d:P}{v:V},RP K F H d v->RP K F' H' d v
 | .non,_,h=>h
 | .bl _,_,h=>h
 | .int _,_,h=>h
 | .str _,_,h=>h
 | .tup _,_,h=>by obtain⟨a,xs,e,t,r⟩:=h;exact⟨a,xs,e,t.kp s,cX.kp s r⟩
 | .lst _,_,h=>by obtain⟨a,xs,e,t,r⟩:=h;exact⟨a,xs,e,t.kp s,cX.kp s r⟩
 | .ro _,_,h=>by obtain⟨a,xs,e,t,r⟩:=h;exact⟨a,xs,e,t.kp s,cX.kp s r⟩
 | .dct _ _,_,h=>by obtain⟨a,kvs,e,f,t,k,r⟩:=h;exact⟨a,kvs,e,s.frz _ f,s.frk _ _ f t,k,cX.kp s r⟩
theorem cX.kp(s:Kp F m H F' m' H'):∀{ds:List P}{xs:List V},cX K F H ds xs->cX K F' H' ds xs
 | [],_,h=>h
 |_::_,_,h=>by obtain⟨x,r,e,h1,h2⟩:=h;exact⟨x,r,e,RP.kp s h1,cX.kp s h2⟩
end
theorem RD.kp(s:Kp F m H F' m' H'):∀{d:D}{v:V},RD K F H m d v->RD K F' H' m' d v
 | .p _,_,h=>RP.kp s h
 | .ref i,_,h=>by obtain⟨a,e,h⟩:=h;obtain⟨n,x⟩:=s.pre;refine⟨a,e,?_⟩;rw[x];have k:i < m.length:=(bO.mp h).1;rw[bF k];exact h
theorem dB.kp(s:Kp F m H F' m' H'):∀{d:List D}{xs:List V},dB K F H m d xs->dB K F' H' m' d xs
 | [],_,h=>h
 |_::_,_,h=>by obtain⟨x,r,e,a,n⟩:=h;exact⟨x,r,e,RD.kp s a,dB.kp s n⟩
variable{d:P}{v:V}
theorem RP.mono(s:Stp F m H F' m' H')(h:RP K F H d v):RP K F' H' d v:=RP.kp s.kp h
theorem cX.mono(s:Stp F m H F' m' H'){d:List P}{v:List V}(h:cX K F H d v):cX K F' H' d v:=cX.kp s.kp h
theorem RD.mono(s:Stp F m H F' m' H'){d:D}{v:V}(h:RD K F H m d v):RD K F' H' m' d v:=RD.kp s.kp h
theorem dB.mono(s:Stp F m H F' m' H'){d:List D}{v:List V}(h:dB K F H m d v):dB K F' H' m' d v:=dB.kp s.kp h
theorem cX.length:∀{d:List P}{xs:List V},cX K F H d xs->d.length=xs.length
 | [],_,h=>by rw[show _=([]:List V) from h]<;>rfl
 |_::_,_,h=>by obtain⟨x,r,e,_,a⟩:=h;rw[e,aR,aR,cX.length a]
theorem dB.length:∀{d:List D}{xs:List V},dB K F H m d xs->d.length=xs.length
 | [],_,h=>by rw[show _=([]:List V) from h]<;>rfl
 |_::_,_,h=>by obtain⟨x,r,e,_,a⟩:=h;rw[e,aR,aR,dB.length a]
theorem cX.get:∀{s:List P}{xs:List V}{i:Nat}{d:P},cX K F H s xs->s[i]? = some d->∃x,xs[i]? = some x/\RP K F H d x
 | [],_,_,_,_,e=>by simp at e
 |_::_,_,0,_,h,e=>by obtain⟨x,r,rfl,n,_⟩:=h;simp at e;subst e;exact⟨x,rfl,n⟩
 |_::_,_,i+1,d,h,e=>by obtain⟨x,r,rfl,_,k⟩:=h;obtain⟨y,a,f⟩:=cX.get (i:=i) k (by simpa using e);exact⟨y,by simpa using a,f⟩
theorem cX.append:∀{d z:List P}{xs y:List V},cX K F H d xs->cX K F H z y->cX K F H (d++z) (xs++y)
 | [],_,_,_,h,g=>by rw[show _=([]:List V) from h];exact g
 |_::_,_,_,_,h,g=>by obtain⟨x,r,rfl,a,e⟩:=h;exact⟨x,r++_,rfl,a,cX.append e g⟩
theorem dB.append:∀{d z:List D}{xs y:List V},dB K F H m d xs->dB K F H m z y->dB K F H m (d++z) (xs++y)
 | [],_,_,_,h,g=>by rw[show _=([]:List V) from h];exact g
 |_::_,_,_,_,h,g=>by obtain⟨x,r,rfl,a,e⟩:=h;exact⟨x,r++_,rfl,a,dB.append e g⟩
theorem cX.take:∀(n:Nat){d:List P}{xs:List V},cX K F H d xs->cX K F H (d.take n) (xs.take n)
 |0,_,_,_=>rfl
 |_+1,[],_,h=>by rw[show _=([]:List V) from h];rfl
 |n+1,_::_,_,h=>by obtain⟨x,r,rfl,a,e⟩:=h;exact⟨x,r.take n,rfl,a,cX.take n e⟩
theorem cX.drop:∀(n:Nat){d:List P}{xs:List V},cX K F H d xs->cX K F H (d.drop n) (xs.drop n)
 |0,_,_,h=>h
 |_+1,[],_,h=>by rw[show _=([]:List V) from h];rfl
 |n+1,_::_,_,h=>by obtain⟨x,r,rfl,_,a⟩:=h;exact cX.drop n a
theorem dB.take:∀(n:Nat){d:List D}{xs:List V},dB K F H m d xs->dB K F H m (d.take n) (xs.take n)
 |0,_,_,_=>rfl
 |_+1,[],_,h=>by rw[show _=([]:List V) from h];rfl
 |n+1,_::_,_,h=>by obtain⟨x,r,rfl,a,e⟩:=h;exact⟨x,r.take n,rfl,a,dB.take n e⟩
theorem dB.get:∀{s:List D}{xs:List V}{i:Nat}{d:D},dB K F H m s xs->s[i]? = some d->∃x,xs[i]? = some x/\RD K F H m d x
 | [],_,_,_,_,e=>by simp at e
 |_::_,_,0,_,h,e=>by obtain⟨x,r,rfl,n,_⟩:=h;simp at e;subst e;exact⟨x,rfl,n⟩
 |_::_,_,i+1,d,h,e=>by obtain⟨x,r,rfl,_,k⟩:=h;obtain⟨y,a,f⟩:=dB.get (i:=i) k (by simpa using e);exact⟨y,by simpa using a,f⟩
theorem dB.ofP:∀{d:List P}{xs:List V},cX K F H d xs->dB K F H m (d.map .p) xs
 | [],_,h=>h
 |_::_,_,h=>by obtain⟨x,r,e,a,s⟩:=h;exact⟨x,r,e,a,dB.ofP s⟩
variable{p:Addr}
theorem Rel.fresh_m(r:Rel K F H m S)(h:H p=none):p ∉ m:=λz=>r.trk p z h
theorem Rel.fresh_F(r:Rel K F H m S)(h:H p=none):¬F p:=λz=>r.ft p z h
variable{o:HO}
theorem jL(x:H p=none):Stp F m H F m (cq H p o) where
 pre:=⟨[],by simp⟩
 oth:=λb u h _=>by rw[aN (by rintro rfl;rw[x]at h;cases h)];exact h
 frz:=λ_ h=>h
 frk:=λb u _ h=>by rw[aN (by rintro rfl;rw[x]at h;cases h)];exact h
 tup:=λb u h=>by rw[aN (by rintro rfl;rw[x]at h;cases h)];exact h
 trk:=λb h=>by
  by_cases e:b=p
  .subst e;rw[aV];exact λz=>nomatch z
  .rw [aN e];exact h
 nf:=λ_ h=>.inl h
 nm:=λ_ h=>.inl h
theorem RO.kp(s:Kp F m H F' m' H'){a:Addr}{o:SO}(k:∀u,H a=some u->H' a=some u)(h:RO K F H m a o):RO K F' H' m' a o:=by
 cases o with
 |lst d=>obtain⟨xs,e,r⟩:=h;exact⟨xs,k _ e,dB.kp s r⟩
 |dct b d=>obtain⟨x,e,f,r⟩:=h;exact⟨x,k _ e,f,dB.kp s r⟩
 |fz v=>exact RP.kp s (show RP K F H v (.ref a) from h)
 |ins c b d=>obtain⟨C,t,x,n,e,f,r⟩:=h;exact⟨C,t,x,n,k _ e,f,dB.kp s r⟩
 |dtt b d=>obtain⟨x,e,f,r⟩:=h;exact⟨x,k _ e,f,dB.kp s r⟩
 |dtn b d=>obtain⟨x,e,f,p,r⟩:=h;exact⟨x,k _ e,f,cX.kp s p,dB.kp s r⟩
theorem RO.mono(s:Stp F m H F' m' H'){a:Addr}{o:SO}(k:∀u,H a=some u->H' a=some u)(h:RO K F H m a o):RO K F' H' m' a o:=RO.kp s.kp k h
theorem Rel.stayK(r:Rel K F H m S)(s:Kp F m H F' m H')(k:∀a u,a ∈ m->H a=some u->H' a=some u)(n:∀a,F' a->F a\/H a=none)(t:∀a,F' a->H' a≠none):Rel K F' H' m S where
 len:=r.len
 nd:=r.nd
 obj:=λi a o e x=>(r.obj i a o e x).kp s λu h=>k a u (bq e) h
 sep:=λi a o e x w f=>by
  rcases n a f with f|f
  .exact r.sep i a o e x w f
  .exact r.trk a (bq e) f
 trk:=λa h=>by
  cases q:H a with
  |none=>exact absurd q (r.trk a h)
  |some u=>rw[k a u h q];exact λz=>nomatch z
 ft:=t
theorem Rel.stay(r:Rel K F H m S)(s:Stp F m H F' m H')(k:∀a u,a ∈ m->H a=some u->H' a=some u)(n:∀a,F' a->F a\/H a=none)(t:∀a,F' a->H' a≠none):Rel K F' H' m S where
 len:=r.len
 nd:=r.nd
 obj:=λi a o e x=>(r.obj i a o e x).mono s λu h=>k a u (bq e) h
 sep:=λi a o e x w f=>by
  rcases n a f with f|f
  .exact r.sep i a o e x w f
  .exact r.trk a (bq e) f
 trk:=λa h=>s.trk a (r.trk a h)
 ft:=t
theorem Rel.new(r:Rel K F H m S)(x:H p=none):Rel K F (cq H p o) m S:=
 r.stay (jL x) (λa u e h=>by rw[aN (by rintro rfl;exact r.fresh_m x e)];exact h) (λ_ f=>.inl f) λa f=>(jL (F:=F) (m:=m) x).trk a (r.ft a f)
theorem fA{p:Addr}{o:HO}(x:H p=none):Stp F m H F (m++[p]) (cq H p o) where
 pre:=⟨[p],rfl⟩
 oth:=(jL (F:=F) (m:=m) (o:=o) x).oth
 frz:=λ_ h=>h
 frk:=(jL (F:=F) (m:=m) (o:=o) x).frk
 tup:=(jL (F:=F) (m:=m) (o:=o) x).tup
 trk:=(jL (F:=F) (m:=m) (o:=o) x).trk
 nf:=λ_ h=>.inl h
 nm:=λb h=>by
  rcases cI.mp h with h|h
  .exact .inl h
  .have:b=p:=by simpa using h
   subst this;exact .inr x
theorem Rel.own(r:Rel K F H m S){p:Addr}{o:HO}{c:SO}(n:H p=none)(v:RO K F (cq H p o) (m++[p]) p c):Rel K F (cq H p o) (m++[p]) (S++[c]) where
 len:=by rw[bz,bz,r.len];rfl
 nd:=by
  rw[nD];refine⟨r.nd,by simp,λa t b q e=>?_⟩;have:b=p:=by simpa using q
  subst this;subst e;exact r.fresh_m n t
 obj:=λi a u x s=>by
  by_cases k:i < m.length
  .rw [bF k]at x;rw[bF (by rw[<- r.len];exact k)]at s;exact(r.obj i a u x s).mono (fA n) λw h=>by rw[aN (by rintro rfl;rw[n]at h;cases h)];exact h
  .have l:i=m.length:=by
    have:=(bO.mp x).1;rw[bz]at this;simp at this;lia
   subst l;rw[cy (al _)]at x;rw[r.len,cy (al _)]at s;simp at x s;subst x;subst s;exact v
 sep:=λi a u x s w f=>by
  by_cases k:i < m.length
  .rw [bF k]at x;rw[bF (by rw[<- r.len];exact k)]at s;exact r.sep i a u x s w f
  .have l:i=m.length:=by
    have:=(bO.mp x).1;rw[bz]at this;simp at this;lia
   subst l;rw[cy (al _)]at x;simp at x;subst x;exact r.fresh_F n f
 trk:=λa h=>by
  rcases cI.mp h with h|h
  .exact (fA (F:=F) (m:=m) n).trk a (r.trk a h)
  .have:a=p:=by simpa using h
   subst this;rw[aV];exact λz=>nomatch z
 ft:=λa f=>(fA (F:=F) (m:=m) n).trk a (r.ft a f)
variable{i:Nat}
theorem gC(r:Rel K F H m S)(x:m[i]? = some p)(s:S[i]? = some k)(hw:k.own)(t:∀xs,H p≠some (.tup xs)):Stp F m H F m (cq H p o) where
 pre:=⟨[],by simp⟩
 oth:=λb u h a=>by rw[aN (by rintro rfl;exact a (bq x))];exact h
 frz:=λ_ h=>h
 frk:=λb u f h=>by rw[aN (by rintro rfl;exact r.sep i _ k x s hw f)];exact h
 tup:=λb xs h=>by rw[aN (by rintro rfl;exact t xs h)];exact h
 trk:=λb h=>by
  by_cases e:b=p
  .subst e;rw[aV];exact λz=>nomatch z
  .rw [aN e];exact h
 nf:=λ_ h=>.inl h
 nm:=λ_ h=>.inl h
theorem xo(h:m.Nodup)(e:m[i]? = some a)(x:m[k]? = some a):i=k:=by exact(List.getElem?_inj (bO.mp e).1 h).mp (e.trans x.symm)
theorem Rel.set(r:Rel K F H m S){i:Nat}{p:Addr}{c b:SO}{o:HO}(s:m[i]? = some p)(k:S[i]? = some c)(hw:c.own)(t:∀xs,H p≠some (.tup xs))(q:RO K F (cq H p o) m p b) :
  Rel K F (cq H p o) m (S.set i b) where
 len:=by rw[dn];exact r.len
 nd:=r.nd
 obj:=λj a u e x=>by
  by_cases n:i=j
  .subst n;rw[s]at e;cases e;rw[cj (by exact(bO.mp k).1)]at x;cases x;exact q
  .rw [aO n]at x;exact(r.obj j a u e x).mono (gC r s k hw t) λw h=>by rw[aN (by rintro rfl;exact n (xo r.nd s e))];exact h
 sep:=λj a u e x w f=>by
  by_cases n:i=j
  .subst n;rw[s]at e;cases e;exact r.sep i p c s k hw f
  .rw [aO n]at x;exact r.sep j a u e x w f
 trk:=λa h=>(gC (o:=o) r s k hw t).trk a (r.trk a h)
 ft:=λa f=>(gC (o:=o) r s k hw t).trk a (r.ft a f)
theorem vQ(x:p ∈ m):Stp F m H (λb=>F b\/b=p) m H:=
 ⟨⟨[],by simp⟩,fun _ _ h _=>h,fun _ h=>.inl h,fun _ _ _ h=>h,fun _ _ h=>h,fun _ h=>h,fun b h=>by
  rcases h with h|h
  .exact .inl h
  .subst h;exact .inr (.inr x),λ_ h=>.inl h⟩
theorem Rel.frz(r:Rel K F H m S){i:Nat}{p:Addr}{c:SO}{v:P}(n:m[i]? = some p)(k:S[i]? = some c)(o:RP K (λb=>F b\/b=p) H v (.ref p)):Rel K (λb=>F b\/b=p) H m (S.set i (.fz v)) where
 len:=by rw[dn];exact r.len
 nd:=r.nd
 obj:=λj a u x e=>by
  by_cases s:i=j
  .subst s;rw[n]at x;cases x;rw[cj (by exact(bO.mp k).1)]at e;cases e;exact o
  .rw [aO s]at e;exact(r.obj j a u x e).mono (vQ (bq n)) λw h=>h
 sep:=λj a u x e w f=>by
  by_cases s:i=j
  .subst s;rw[cj (by exact(bO.mp k).1)]at e;cases e;exact w
  .rw [aO s]at e;rcases f with f|f
   .exact r.sep j a u x e w f
   .subst f;exact s (xo r.nd n x)
 trk:=r.trk
 ft:=λa f=>by
  rcases f with f|f
  .exact r.ft a f
  .subst f;exact r.trk _ (bq n)
end
noncomputable abbrev EE:=Lc->aA->Option (D×aA)
noncomputable abbrev tw:=Option (D×aA)
noncomputable abbrev EV:=Lc->aA->Option (P×aA)
noncomputable abbrev tyV:=Option (P×aA)
noncomputable abbrev EB:=Lc->aA->Option (Bool×aA)
noncomputable abbrev NH:=Option (Bool×aA)
noncomputable abbrev ko:=Lc->aA->Option (List P×aA)
noncomputable abbrev EG:=Option (List P×aA)
inductive Fl where
 |nx|rt (d:D)|bk|ct
noncomputable abbrev ES:=Lc->aA->Option (Fl×Lc×aA)
noncomputable abbrev yL:=Option (Fl×Lc×aA)
variable{l:Type}{β:Type}
noncomputable def a6(x:Option (l×aA))(f:l->aA->Option β):Option β:=match x with
 |some (a,S)=>f a S
 |none=>none
@[simp] theorem am(a:l)(S:aA)(f:l->aA->Option β):a6 (some (a,S)) f=f a S:=rfl
@[simp] theorem Qn(f:l->aA->Option β):a6 none f=none:=rfl
theorem aj{l β:Type}{x:Option (l×aA)}{f:l->aA->Option β}{r:β}(h:a6 x f=some r):∃a S,x=some (a,S)/\f a S=some r:=by
 cases x with
 |none=>cases h
 |some p=>exact⟨p.1,p.2,rfl,h⟩
def tF(f:D->aA->Option (P×aA)):List D->aA->Option (List P×aA)
 | [],S=>some ([],S)
 |d::r,S=>a6 (f d S) λv h=>a6 (tF f r h) λT x=>some (v::T,x)
def toP:Nat->D->aA->Option (P×aA)
 |_,.p v,S=>some (v,S)
 |0,.ref _,_=>none
 |n+1,.ref i,S=>match S[i]? with
  |some (.lst d)=>a6 (tF (toP n) d S) λT h=>some (.lst T,h.set i (.fz (.lst T)))
  |some (.dct k d)=>a6 (tF (toP n) d S) λT h=>some (.dct k T,h.set i (.fz (.dct k T)))
  |some (.fz v)=>some (v,S)
  |some (.ins _ _ _)=>none
  |some (.dtn _ _)=>none
  |some (.dtt _ _)=>none
  |none=>none
@[simp] theorem Ow(n:Nat)(v:P)(S:aA):toP n (.p v) S=some (v,S):=by cases n<;>rfl
theorem l8(n:Nat):∀(T:List P)(S:aA),tF (toP n) (T.map .p) S=some (T,S)
 | [],_=>rfl
 |v::r,S=>by simp[tF,l8 n r S]
variable{n:Nat}{S:aA}{T:List P}
theorem eU(h:S[i]? = some (.lst (T.map .p))):toP (n+1) (.ref i) S=some (.lst T,S.set i (.fz (.lst T))):=by simp[toP,h,l8]
section
variable{K:FG}{F:Aa}{H:Hp}{m:List Addr}{S N:aA}
theorem wb 
  (n:∀{d:D}{x:V}{v:P}{F:Aa}{S N:aA},f d S=some (v,N)->Rel K F H m S->RD K F H m d x->∃F',Stp F m H F' m H/\Rel K F' H m N/\N.length=S.length/\RP K F' H v x) :
  ∀{s:List D}{xs:List V}{T:List P}{F:Aa}{S N:aA},tF f s S=some (T,N)->Rel K F H m S->dB K F H m s xs->∃F',Stp F m H F' m H/\Rel K F' H m N/\N.length=S.length/\cX K F' H T xs
 | [],xs,T,F,S,N,h,r,a=>by cases h;exact⟨F,.refl,r,rfl,a⟩
 |d::s,xs,T,F,S,N,h,r,a=>by obtain⟨x,y,e,p,q⟩:=a;obtain⟨v,z,c,h⟩:=aj h;obtain⟨A,o,t,h⟩:=aj h;cases h;obtain⟨C,k,i,l,u⟩:=n c r p;obtain⟨B,b,j,w,g⟩:=wb n t i (dB.mono k q);exact⟨B,k.trans b,j,w.trans l,x,y,e,RP.mono b u,g⟩
theorem se:∀(n:Nat){d:D}{x:V}{v:P}{F:Aa}{S N:aA},toP n d S=some (v,N)->Rel K F H m S->RD K F H m d x->∃F',Stp F m H F' m H/\Rel K F' H m N/\N.length=S.length/\RP K F' H v x
 |n,.p w,x,v,F,S,N,h,r,p=>by rw[Ow]at h;cases h;exact⟨F,.refl,r,rfl,p⟩
 |0,.ref i,x,v,F,S,N,h,r,p=>by cases h
 |n+1,.ref i,x,v,F,S,N,h,r,p=>by
  obtain⟨a,e,k⟩:=p;subst e;have t:i < S.length:=by rw[<- r.len];exact(bO.mp k).1
  obtain⟨o,I⟩:∃o,S[i]? = some o:=⟨S[i],by simp[t]⟩;have y:=r.obj i a o k I;simp only[toP,I]at h;cases o with
  |fz w=>cases h;exact⟨F,.refl,r,rfl,y⟩
  |ins c L G=>cases h
  |dtn _ _=>cases h
  |dtt _ _=>cases h
  |lst G=>obtain⟨T,f,u,h⟩:=aj h;cases h;obtain⟨xs,g,B⟩:=y;obtain⟨C,E,A,l,z⟩:=wb (λh=>se n h) u r B;obtain⟨M,s⟩:∃o,f[i]? = some o:=⟨f[i]'(by rw[l];exact t),by simp[l,t]⟩;have Q:Stp C m H (λb=>C b\/b=a) m H:=vQ (bq k);have q:RP K (λb=>C b\/b=a) H (.lst T) (.ref a):=⟨a,xs,rfl,⟨.inr rfl,g⟩,cX.mono Q z⟩;exact⟨_,E.trans Q,A.frz k s q,by rw[dn];exact l,q⟩
  |dct L G=>obtain⟨T,f,u,h⟩:=aj h;cases h;obtain⟨j,g,hk,B⟩:=y;obtain⟨C,E,A,l,z⟩:=wb (λh=>se n h) u r B;obtain⟨M,s⟩:∃o,f[i]? = some o:=⟨f[i]'(by rw[l];exact t),by simp[l,t]⟩;have Q:Stp C m H (λb=>C b\/b=a) m H:=vQ (bq k);have q:RP K (λb=>C b\/b=a) H (.dct L T) (.ref a):=⟨a,j,rfl,.inr rfl,g,hk,cX.mono Q z⟩;exact⟨_,E.trans Q,A.frz k s q,by rw[dn];exact l,q⟩
end
structure Grow(F:Aa)(H:Hp)(F':Aa)(H':Hp):Prop where
 keep:∀b o,H b=some o->H' b=some o
 frz:∀b,F b->F' b
 nf:∀b,F' b->F b\/(H b=none/\H' b≠none)
section
variable{K:FG}{F F' C B:Aa}{H H' y I:Hp}{m:List Addr}{S N:aA}
theorem Grow.refl:Grow F H F H:=⟨λ_ _ h=>h,λ_ h=>h,λ_ h=>.inl h⟩
theorem Grow.stp(g:Grow F H F' H'):Stp F m H F' m H' where
 pre:=⟨[],by simp⟩
 oth:=λb o h _=>g.keep b o h
 frz:=g.frz
 frk:=λb o _ h=>g.keep b o h
 tup:=λb xs h=>g.keep b _ h
 trk:=λb h=>by
  cases q:H b with
  |none=>exact absurd q h
  |some o=>rw[g.keep b o q];exact λz=>nomatch z
 nf:=λb h=>by
  rcases g.nf b h with h|⟨h,_⟩
  .exact .inl h
  .exact .inr (.inl h)
 nm:=λ_ h=>.inl h
theorem Rel.grow(r:Rel K F H m S)(g:Grow F H F' H'):Rel K F' H' m S:=
 r.stay g.stp (fun a u _ h=>g.keep a u h) (fun a f=>by
  rcases g.nf a f with f|⟨f,_⟩
  .exact .inl f
  .exact .inr f) λa f=>by
  rcases g.nf a f with f|⟨_,f⟩
  .exact (g.stp (m:=m)).trk a (r.ft a f)
  .exact f
theorem cB{p:Addr}{o:HO}(x:H p=none):Grow F H F (cq H p o):=
 ⟨λb u h=>by rw[aN (by rintro rfl;rw[x]at h;cases h)];exact h,λ_ h=>h,λ_ h=>.inl h⟩
theorem de{p:Addr}{o:HO}(x:H p=none):Grow F H (λb=>F b\/b=p) (cq H p o):=
 ⟨fun b u h=>by rw [aN (by rintro rfl;rw [x] at h;cases h)];exact h,fun _ h=>.inl h,fun b h=>by
  rcases h with h|h
  .exact .inl h
  .subst h;exact .inr ⟨x,by rw[aV];exact λz=>nomatch z⟩⟩
theorem RP.grow(g:Grow F H F' H')(h:RP K F H d v):RP K F' H' d v:=RP.mono (m:=[]) g.stp h
theorem cX.grow(g:Grow F H F' H')(h:cX K F H d v):cX K F' H' d v:=cX.mono (m:=[]) g.stp h
theorem RP.newTup(x:H p=none)(r:cX K F H h xs):RP K F (cq H p (.tup xs)) (.tup h) (.ref p):=⟨p,xs,rfl,.inl aV,r.grow (cB x)⟩
theorem RP.newLst(x:H p=none)(r:cX K F H h xs):RP K (λb=>F b\/b=p) (cq H p (.lst xs)) (.lst h) (.ref p):=⟨p,xs,rfl,⟨.inr rfl,aV⟩,r.grow (de x)⟩
end
@[simp] def vC(v:P)(_L:Lc)(S:aA):tyV:=some (v,S)
def bo(i:Nat)(L:Lc)(S:aA):tw:=match L[i]? with
 |some (some d)=>some (d,S)
 |_=>none
@[simp] def vE(f:EE)(L:Lc)(S:aA):tyV:=a6 (f L S) (toP 9)
@[simp] def U(f:EV)(L:Lc)(S:aA):tw:=a6 (f L S) λv h=>some (.p v,h)
@[simp] def qQ(g:P->P->Option P)(a b:EV)(L:Lc)(S:aA):tyV:=a6 (a L S) λx h=>a6 (b L h) λy e=>(g x y).map λv=>(v,e)
@[simp] def NG(g:P->Option P)(a:EV)(L:Lc)(S:aA):tyV:=a6 (a L S) λx h=>(g x).map λv=>(v,h)
@[simp] def bV(a:EV)(L:Lc)(S:aA):NH:=a6 (a L S) λx h=>match x with
 | .bl b=>some (b,h)
 |_=>none
@[simp] def jd(a b:EB)(L:Lc)(S:aA):NH:=a6 (a L S) λc h=>if c=true then b L h else some (false,h)
@[simp] def tX(a b:EB)(L:Lc)(S:aA):NH:=a6 (a L S) λc h=>if c=true then some (true,h) else b L h
@[simp] def jc(a:EB)(L:Lc)(S:aA):NH:=a6 (a L S) λc h=>some (!c,h)
@[simp] def vB(a:EB)(L:Lc)(S:aA):tyV:=a6 (a L S) λc h=>some (.bl c,h)
@[simp] def Ot(c:EB)(a b:EV)(L:Lc)(S:aA):tyV:=a6 (c L S) λk h=>if k=true then a L h else b L h
@[simp] def a8(_L:Lc)(S:aA):EG:=some ([],S)
@[simp] def bt(a:EV)(r:ko)(L:Lc)(S:aA):EG:=a6 (a L S) λx h=>a6 (r L h) λxs e=>some (x::xs,e)
@[simp] def b0(g:List P->Option P)(a:ko)(L:Lc)(S:aA):tyV:=a6 (a L S) λxs h=>(g xs).map λv=>(v,h)
@[simp] def cN(L:Lc)(S:aA):yL:=some (.nx,L,S)
@[simp] def ag(f g:ES)(L:Lc)(S:aA):yL:=match f L S with
 |some (.nx,h,x)=>g h x
 |r=>r
@[simp] def aq(i:Nat)(f:EE)(L:Lc)(S:aA):yL:=a6 (f L S) λd h=>some (.nx,L.set i (some d),h)
@[simp] def au(f:EE)(L:Lc)(S:aA):yL:=a6 (f L S) λd h=>some (.rt d,L,h)
@[simp] def cf(f:EE)(L:Lc)(S:aA):yL:=a6 (f L S) λ_ h=>some (.nx,L,h)
@[simp] def b8(c:EB)(a b:ES)(L:Lc)(S:aA):yL:=a6 (c L S) λk h=>if k=true then a L h else b L h
noncomputable def LY:ES:=λ_ _=>none
@[simp] def Th(L:Lc)(S:aA):yL:=some (.bk,L,S)
noncomputable abbrev ki:=P->Lc->Option Lc
noncomputable def ai(i:Nat):ki:=λv L=>some (L.set i (some (.p v)))
noncomputable def bc(g:ki)(b:ES):List P->Lc->aA->Option (Fl×Lc×aA)
 | [],L,S=>some (.nx,L,S)
 |v::r,L,S=>match g v L with
  |none=>none
  |some a=>match b a S with
   |some (.nx,L2,h)=>bc g b r L2 h
   |some (.ct,L2,h)=>bc g b r L2 h
   |some (.bk,L2,h)=>some (.nx,L2,h)
   |x=>x
@[simp] def bE(i:ko)(g:ki)(b:ES)(L:Lc)(S:aA):yL:=a6 (i L S) λxs h=>bc g b xs L h
open PySem PySem.Spec PyProof.Rows L2
section
variable(K:FG)
structure RL(F:Aa)(H:Hp)(m:List Addr)(J:L2.St)(L:Lc):Prop where
 len:J.length=L.length
 at':∀(i:Nat) d,L[i]? = some (some d)->∃v,J[i]? = some (some v)/\RD K F H m d v
inductive tEI(f:EE)(J:L2.St)(H:Hp)(Q:VK):Prop
 |mk (F:Aa) (m:List Addr) (L:Lc) (S:aA) (d:D) (S':aA) (h0_:Rel K F H m S) (h1_:RL K F H m J L) (h2_:f L S=some (d,S')) (h3_:∀v F' m' H',Stp F m H F' m' H'->Rel K F' H' m' S'->RD K F' H' m' d v->Q v H'):tEI f J H Q
noncomputable def tE(f:EE):TE:=λJ H Q=>tEI K f J H Q
inductive tVI(f:EV)(J:L2.St)(H:Hp)(Q:VK):Prop
 |mk (F:Aa) (m:List Addr) (L:Lc) (S:aA) (d:P) (S':aA) (h0_:Rel K F H m S) (h1_:RL K F H m J L) (h2_:f L S=some (d,S')) (h3_:∀v F' m' H',Stp F m H F' m' H'->Rel K F' H' m' S'->RP K F' H' d v->Q v H'):tVI f J H Q
noncomputable def tV(f:EV):TE:=λJ H Q=>tVI K f J H Q
inductive tQI(f:EB)(J:L2.St)(H:Hp)(Q:Bool->Hp->Prop):Prop
 |mk (F:Aa) (m:List Addr) (L:Lc) (S:aA) (b:Bool) (S':aA) (h0_:Rel K F H m S) (h1_:RL K F H m J L) (h2_:f L S=some (b,S')) (h3_:∀F' m' H',Stp F m H F' m' H'->Rel K F' H' m' S'->Q b H'):tQI f J H Q
noncomputable def tQ(f:EB):TT:=λJ H Q=>tQI K f J H Q
inductive tVsI(f:ko)(J:L2.St)(H:Hp)(Q:List V->Hp->Prop):Prop
 |mk (F:Aa) (m:List Addr) (L:Lc) (S:aA) (ds:List P) (S':aA) (h0_:Rel K F H m S) (h1_:RL K F H m J L) (h2_:f L S=some (ds,S')) (h3_:∀xs F' m' H',Stp F m H F' m' H'->Rel K F' H' m' S'->cX K F' H' ds xs->Q xs H'):tVsI f J H Q
noncomputable def tB(f:ko):TA:=λJ H Q=>tVsI K f J H Q
def RU(D:Ends)(F:Aa)(m:List Addr)(J:L2.St)(H:Hp):Fl->Prop
 | .nx=>D.nx J H
 | .bk=>D.bk J H
 | .ct=>D.ct J H
 | .rt d=>∀v,RD K F H m d v->D.rt v H
inductive tStI(f:ES)(D:Ends)(J:L2.St)(H:Hp):Prop
 |mk (F:Aa) (m:List Addr) (L:Lc) (S:aA) (fl:Fl) (L':Lc) (S':aA) (h0_:Rel K F H m S) (h1_:RL K F H m J L) (h2_:f L S=some (fl,L',S')) (h3_:∀J' F' m' H',Stp F m H F' m' H'->Rel K F' H' m' S'->RL K F' H' m' J' L'->RU K D F' m' J' H' fl):tStI f D J H
noncomputable def mO(f:ES):TS:=λD J H=>tStI K f D J H
end
section
variable{K:FG}{F F':Aa}{H H':Hp}{m m':List Addr}{J:L2.St}{L:Lc}{S:aA}
theorem RL.mono(s:Stp F m H F' m' H')(h:RL K F H m J L):RL K F' H' m' J L:=⟨h.len,λi d e=>by obtain⟨v,x,r⟩:=h.at' i d e;exact⟨v,x,RD.mono s r⟩⟩
theorem RL.set (h:RL K F H m J L) (r:RD K F H m d v) (i:Nat):RL K F H m (J.set i (some v)) (L.set i (some d)):=⟨by rw [dn,dn];exact h.len,fun j e q=>by
 by_cases x:i=j
 .subst x;by_cases a:i < L.length
  .rw [cj a]at q;cases q;exact⟨v,cj (by rw[h.len];exact a),r⟩
  .rw [qL (by rw[dn];lia)]at q;cases q
 .rw [aO x]at q;rw[aO x];exact h.at' j e q⟩
end
section
variable{X:Cx}{e:Expr}{z:Ab}{Q:Stmt}{sts:List Stmt}
theorem _root_.L2.PE.imp'(h:PE X e t)(i:∀J H Q,k J H Q->t J H Q):PE X e k:=λp s J H Q I q=>h p s J H Q I (i J H Q q)
theorem _root_.L2.PT.imp'(h:PT X e t)(i:∀J H Q,k J H Q->t J H Q):PT X e k:=λp s J H Q I q=>h p s J H Q I (i J H Q q)
theorem _root_.L2.PW.imp'(h:PW X e t)(i:∀J H Q,k J H Q->t J H Q):PW X e k:=λw p s J H Q I q=>h w p s J H Q I (i J H Q q)
theorem _root_.L2.PA.imp'(h:PA X z t)(i:∀J H Q,k J H Q->t J H Q):PA X z k:=λM p s J H Q I q=>h M p s J H Q I (i J H Q q)
theorem _root_.L2.PS.imp'(h:PS X Q t)(i:∀D J H,k D J H->t D J H):PS X Q k:=λp s J H D I q=>h p s J H D I (i D J H q)
theorem _root_.L2.qc.imp'(h:qc X sts t)(i:∀D J H,k D J H->t D J H):qc X sts k:=λp s J H D I q=>h p s J H D I (i D J H q)
end
section
variable{X:Cx}{a b c e:Expr}{z:Ab}{fa fb:EV}{fe:EE}{M:Pos}
theorem Od(h:PE X e (tE X.K fe)):PE X e (tV X.K (vE fe)):=h.imp' λJ H Q z=>by obtain⟨F,m,L,S,d,N,r,l,q,k⟩:=z;obtain⟨a,x,n,f⟩:=aj q;refine⟨F,m,L,S,a,x,r,l,n,λv F' m' H' s b t=>?_⟩;obtain⟨B,w,c,_,p⟩:=se 9 f b t;exact k v B m' H' (s.trans w) c p
theorem Lg(h:PE X e (tV X.K fa)):PE X e (tE X.K (U fa)):=h.imp' λJ H Q z=>by obtain⟨F,m,L,S,d,N,r,l,q,k⟩:=z;obtain⟨x,c,a,n⟩:=aj q;cases n;exact⟨F,m,L,S,x,N,r,l,a,λv F' m' H' s f b=>k v F' m' H' s f b⟩
set_option tactic.hygienic true in
theorem Rk(i:Nat)(s:X.N[i]? = some x:=by rfl)(n:Nz X.e.scope x:=by first|exact Or.inl rfl|exact Or.inr (Or.inl rfl)|exact Or.inr (Or.inr rfl))(hd:(x == ("__debug__":Str))=false:=by decide)
  (h:(x == ("__classdict__":Str))=false:=by decide):PE X (.Name x M) (tE X.K (bo i)):=(Mh s n hd h).imp' λJ H Q z=>by
 obtain⟨F,m,L,S,d,N,r,l,q,k⟩:=z;unfold bo at q;split at q
 .rename_i b e;cases q;obtain⟨v,a,f⟩:=l.at' i _ e;exact⟨v,a,k v F m H .refl r f⟩
 .cases q
theorem xC(h:PE X e (tC v))(r:∀F H,RP X.K F H d v):PE X e (tV X.K (vC d)):=h.imp' λJ H Q z=>by obtain⟨F,m,L,S,a,N,x,l,q,k⟩:=z;cases q;exact k v F m H .refl x (r F H)
theorem Ry {i h M}:PE X (.Constant (.int i) h M) (tV X.K (vC (.int i))):=xC Mm λ_ _=>rfl
theorem TW {i h M}:PE X (.Constant (.bool i) h M) (tV X.K (vC (.bl i))):=xC O4 λ_ _=>rfl
theorem Rr {h M}:PE X (.Constant .none h M) (tV X.K (vC .non)):=xC Ml λ_ _=>rfl
theorem Rm {i h M}:PE X (.Constant (.str i) h M) (tV X.K (vC (.str i))):=xC Mi λ_ _=>rfl
inductive rPI(K:FG)(g:P->P->Option P)(x:V)(y:V)(H:Hp)(Q:VK):Prop
 |mk (F:Aa) (dx:P) (dy:P) (d:P) (h0_:(∀a,F a->H a≠none)) (h1_:RP K F H dx x) (h2_:RP K F H dy y) (h3_:g dx dy=some d) (h4_:∀v F' H',Grow F H F' H'->RP K F' H' d v->Q v H'):rPI K g x y H Q
noncomputable def rP(K:FG)(g:P->P->Option P):R2:=λx y H Q=>rPI K g x y H Q
def qd(X:Cx)(f:Value->Value->Sem Value)(g:P->P->Option P):Prop:=jY X f (rP X.K g)
theorem vN(h:tV X.K (qQ g fa fb) J H t):LG (rP X.K g) (tV X.K fa) (tV X.K fb) J H t:=by
 obtain⟨F,m,L,S,d,N,r,l,q,k⟩:=h;obtain⟨x,s,o,q⟩:=aj q;obtain⟨a,j,K,q⟩:=aj q;refine⟨F,m,L,S,x,s,r,l,o,λv C P y b M D=>?_⟩;refine⟨C,P,L,s,a,j,M,l.mono b,K,λu B A I c f E=>?_⟩;cases e:g x a with
 |none=>rw[e]at q;cases q
 |some z=>rw[e]at q;cases q;refine⟨B,x,a,_,f.ft,RP.mono c D,E,e,λw p i n G=>?_⟩;exact k w p A i (b.trans (c.trans n.stp)) (f.grow n) G
theorem TR(o:qd X (binaryOp k) g)(x:PE X a (tV X.K fa))(e:PE X b (tV X.K fb)):PE X (.BinOp a k b M) (tV X.K (qQ g fa fb)):=
 (Kw o x e).imp' λ_ _ _ h=>vN h
theorem RB(o:qd X (compareOp k) g)(x:PE X a (tV X.K fa))(e:PE X b (tV X.K fb))(m:behindInMarks k b=false):PE X (.Compare a [k] [b] M) (tV X.K (qQ g fa fb)):=
 (B2 o x e m).imp' λ_ _ _ h=>vN h
theorem ER(h:tQ X.K (bV (qQ g fa fb)) J H t):ET (LG (rP X.K g) (tV X.K fa) (tV X.K fb)) J H t:=by
 refine vN ?_;obtain⟨F,m,L,S,d,N,r,l,q,k⟩:=h;obtain⟨x,n,e,q⟩:=aj q;cases x with
 |bl b=>cases q;exact⟨F,m,L,S,_,_,r,l,e,λv F' m' H' s a p=>⟨_,p,k F' m' H' s a⟩⟩
 |_=>cases q
theorem Ri(o:qd X (compareOp k) g)(x:PE X a (tV X.K fa))(e:PE X b (tV X.K fb))(m:behindInMarks k b=false):PT X (.Compare a [k] [b] M) (tQ X.K (bV (qQ g fa fb))):=
 (BX o x e m).imp' λ_ _ _ h=>ER h
variable{qa qb:EB}{u:Ab}
theorem Ob(h:PT X a (tQ X.K qa)):PW X (.BoolOp .And [a] M) (tQ X.K qa):=IT h
theorem Rg(h:PT X a (tQ X.K qa)):PW X (.BoolOp .Or [a] M) (tQ X.K qa):=L5 h
theorem Rj(n:PT X a (tQ X.K qa))(f:PW X (.BoolOp .And (b::u) M) (tQ X.K qb)):PW X (.BoolOp .And (a::b::u) M) (tQ X.K (jd qa qb)):=
 (L6 n f).imp' λJ H Q z=>by
  obtain⟨F,m,L,S,d,N,r,l,q,k⟩:=z;obtain⟨c,h,e,q⟩:=aj q;refine⟨F,m,L,S,c,h,r,l,e,λF' m' H' s x=>?_⟩;cases c with
  |true=>rw[af rfl]at q ⊢;exact⟨F',m',L,h,d,N,x,l.mono s,q,λB t I v p=>k B t I (s.trans v) p⟩
  |false=>rw[ah bP]at q ⊢;cases q;exact k F' m' H' s x
theorem TN(n:PT X a (tQ X.K qa))(f:PW X (.BoolOp .Or (b::u) M) (tQ X.K qb)):PW X (.BoolOp .Or (a::b::u) M) (tQ X.K (tX qa qb)):=
 (OY n f).imp' λJ H Q z=>by
  obtain⟨F,m,L,S,d,N,r,l,q,k⟩:=z;obtain⟨c,h,e,q⟩:=aj q;refine⟨F,m,L,S,c,h,r,l,e,λF' m' H' s x=>?_⟩;cases c with
  |false=>rw[ah bP]at q ⊢;exact⟨F',m',L,h,d,N,x,l.mono s,q,λB t I v p=>k B t I (s.trans v) p⟩
  |true=>rw[af rfl]at q ⊢;cases q;exact k F' m' H' s x
theorem Rh(h:PT X a (tQ X.K qa)):PT X (.UnaryOp .Not a M) (tQ X.K (jc qa)):=
 (L7 h).imp' λJ H Q z=>by obtain⟨F,m,L,S,d,N,r,l,q,k⟩:=z;obtain⟨c,n,e,q⟩:=aj q;cases q;exact⟨F,m,L,S,c,N,r,l,e,λF' m' H' s x=>k F' m' H' s x⟩
theorem Om {k} (h:PE X a (tV X.K (vB qa))):PE X (.BoolOp k [a] M) (tV X.K (vB qa)):=Fq h
theorem wX(h:tQ X.K qa J H k)(hk:∀b H',k b H'->t (.bl b) H'):tV X.K (vB qa) J H t:=by obtain⟨F,m,L,S,d,N,r,l,q,x⟩:=h;exact⟨F,m,L,S,.bl d,N,r,l,by unfold vB;rw[q];rfl,λv F' m' H' s a p=>by rw[show v=.bl d from p];exact hk _ _ (x F' m' H' s a)⟩
theorem B8(h:tV X.K (vB qa) J H k):tQ X.K qa J H λb H'=>k (.bl b) H':=by obtain⟨F,m,L,S,d,N,r,l,q,x⟩:=h;obtain⟨c,n,e,q⟩:=aj q;cases q;exact⟨F,m,L,S,c,N,r,l,e,λF' m' H' s a=>x _ F' m' H' s a rfl⟩
theorem RC(f:PE X a (tV X.K (vB qa)))(t:PE X (.BoolOp .And (b::u) M) (tV X.K (vB qb))):PE X (.BoolOp .And (a::b::u) M) (tV X.K (vB (jd qa qb))):=
 (Mo f t).imp' λJ H Q h=>by
  obtain⟨F,m,L,S,d,N,r,l,q,k⟩:=B8 h;obtain⟨c,x,n,q⟩:=aj q;refine wX (k:=λc y=>if c=true then tV X.K (vB qb) J y Q else Q (.bl false) y) ⟨F,m,L,S,c,x,r,l,n,λF' m' H' s e=>?_⟩ λb H' q=>⟨b,rfl,q⟩;cases c with
  |true=>rw[af rfl]at q ⊢;exact wX (k:=λb I=>Q (.bl b) I) ⟨F',m',L,x,d,N,e,l.mono s,q,λB p I w v=>k B p I (s.trans w) v⟩ λ_ _ q=>q
  |false=>rw[ah bP]at q ⊢;cases q;exact k F' m' H' s e
theorem TQ(f:PE X a (tV X.K (vB qa)))(t:PE X (.BoolOp .Or (b::u) M) (tV X.K (vB qb))):PE X (.BoolOp .Or (a::b::u) M) (tV X.K (vB (tX qa qb))):=
 (O3 f t).imp' λJ H Q h=>by
  obtain⟨F,m,L,S,d,N,r,l,q,k⟩:=B8 h;obtain⟨c,x,n,q⟩:=aj q;refine wX (k:=λc y=>if c=true then Q (.bl true) y else tV X.K (vB qb) J y Q) ⟨F,m,L,S,c,x,r,l,n,λF' m' H' s e=>?_⟩ λb H' q=>⟨b,rfl,q⟩;cases c with
  |false=>rw[ah bP]at q ⊢;exact wX (k:=λb I=>Q (.bl b) I) ⟨F',m',L,x,d,N,e,l.mono s,q,λB p I w v=>k B p I (s.trans w) v⟩ λ_ _ q=>q
  |true=>rw[af rfl]at q ⊢;cases q;exact k F' m' H' s e
theorem Rp(x:PE X a (tV X.K (vB qa))):PE X (.UnaryOp .Not a M) (tV X.K (vB (jc qa))):=
 (Mj x).imp' λJ H Q h=>by obtain⟨F,m,L,S,d,N,r,l,q,k⟩:=B8 h;obtain⟨c,f,e,q⟩:=aj q;cases q;exact wX (k:=λb H'=>Q (.bl (!b)) H') ⟨F,m,L,S,c,N,r,l,e,λF' m' H' s n=>k F' m' H' s n⟩ λb H' q=>⟨b,rfl,q⟩
theorem t6(h:PE X e (tV X.K fa)):PE X e (tV X.K (vB (bV fa))):=h.imp' λJ H Q h=>by
 obtain⟨F,m,L,S,d,N,r,l,q,k⟩:=B8 h;obtain⟨x,f,a,q⟩:=aj q;cases x with
 |bl b=>cases q;exact⟨F,m,L,S,_,_,r,l,a,λv F' m' H' s n p=>by cases (show v=.bl d from p);exact k F' m' H' s n⟩
 |_=>cases q
theorem TV(u:PT X c (tQ X.K qa))(p:PE X a (tV X.K fa))(w:PE X b (tV X.K fb)):PE X (.IfExp c a b M) (tV X.K (Ot qa fa fb)):=
 (xf u p w).imp' λJ H Q z=>by
  obtain⟨F,m,L,S,d,N,r,l,q,k⟩:=z;obtain⟨c,h,t,q⟩:=aj q;refine⟨F,m,L,S,c,h,r,l,t,λF' m' H' s f=>?_⟩;cases c with
  |true=>rw[af rfl]at q ⊢;exact⟨F',m',L,h,d,N,f,l.mono s,q,λv B x I n e=>k v B x I (s.trans n) e⟩
  |false=>rw[ah bP]at q ⊢;exact⟨F',m',L,h,d,N,f,l.mono s,q,λv B x I n e=>k v B x I (s.trans n) e⟩
variable{fs:ko}
theorem Ny:PA X [] (tB X.K a8):=js.imp' λJ H Q h=>by obtain⟨F,m,L,S,d,N,r,l,q,k⟩:=h;cases q;exact k [] F m H .refl r rfl
theorem K3(b:PE X e (tV X.K fa))(c:PA X z (tB X.K fs))(t:starEach (e::z) X.e=(false,eval e X.e)::starEach z X.e:=by rfl):PA X (e::z) (tB X.K (bt fa fs)):=
 (fX b c t).imp' λJ H Q p=>by obtain⟨F,m,L,S,d,N,r,l,q,k⟩:=p;obtain⟨x,h,n,q⟩:=aj q;obtain⟨xs,K,f,q⟩:=aj q;cases q;refine⟨F,m,L,S,x,h,r,l,n,λv C w y s j g=>?_⟩;refine⟨C,w,L,h,xs,N,j,l.mono s,f,λT B u I a o i=>?_⟩;exact k (v::T) B u I (s.trans a) o ⟨v,T,rfl,RP.mono a g,i⟩
noncomputable def few(xs:List l):Bool:=decide (xs.length≤1000000)
theorem m7{l:Type}{xs:List l}(h:few xs=true):xs.length≤sizeLine:=aI (aM h) (by decide)
@[simp] def aP(a:ko)(L:Lc)(S:aA):tyV:=a6 (a L S) λxs h=>if few xs=true then some (.tup xs,h) else none
@[simp] def aW(a:ko)(L:Lc)(S:aA):tyV:=a6 (a L S) λxs h=>if few xs=true then some (.lst xs,h) else none
@[simp] def df(a:ko)(L:Lc)(S:aA):tw:=a6 (a L S) λxs h=>if few xs=true then some (.ref h.length,h++[.lst (xs.map .p)]) else none
set_option tactic.hygienic true in
theorem Rl {t} (h:PA X z (tB X.K fs)):PE X (.Tuple z t M) (tV X.K (aP fs)):=(vV h).imp' λJ H Q s=>by
 obtain⟨F,m,L,S,d,N,r,l,q,k⟩:=s;obtain⟨xs,v,e,q⟩:=aj q;split at q
 .rename_i f;cases q;refine⟨F,m,L,S,xs,N,r,l,e,λT C n y c b a=>⟨by rw[<- a.length];exact m7 f,λp x=>?_⟩⟩;exact k (.ref p) C n _ (c.trans (cB x).stp) (b.grow (cB x)) (.newTup x a)
 .cases q
set_option tactic.hygienic true in
theorem Rt(h:PA X z (tB X.K fs)):PE X (.List z M) (tV X.K (aW fs)):=(Ft h).imp' λJ H Q s=>by
 obtain⟨F,m,L,S,d,N,r,l,q,k⟩:=s;obtain⟨xs,t,e,q⟩:=aj q;split at q
 .rename_i f;cases q;refine⟨F,m,L,S,xs,N,r,l,e,λT C n y c b a=>⟨by rw[<- a.length];exact m7 f,λp x=>?_⟩⟩;exact k (.ref p) _ n _ (c.trans (de x).stp) (b.grow (de x)) (.newLst x a)
 .cases q
set_option tactic.hygienic true in
theorem Kl(h:PA X z (tB X.K fs)):PE X (.List z M) (tE X.K (df fs)):=(Ft h).imp' λJ H Q t=>by
 obtain⟨F,m,L,S,d,N,r,l,q,k⟩:=t;obtain⟨xs,f,b,q⟩:=aj q;split at q
 .rename_i c;cases q;refine⟨F,m,L,S,xs,f,r,l,b,λT C x y v s e=>⟨by rw[<- e.length];exact m7 c,λp a=>?_⟩⟩;have n:Stp C x y C (x++[p]) (cq y p (.lst T)):=fA a;refine k (.ref p) C (x++[p]) _ (v.trans n) (s.own a ⟨T,aV,dB.ofP (cX.mono n e)⟩) ⟨p,rfl,?_⟩;rw[<- s.len,cy (al _)];simp
 .cases q
def rC(K:FG)(g:List P->Option P):List V->Hp->VK->Prop:=λxs H Q=>∃F s d,(∀a,F a->H a≠none)/\cX K F H s xs/\g s=some d/\∀v F' H',Grow F H F' H'->RP K F' H' d v->Q v H'
theorem yQ(h:tV X.K (b0 g fs) J H t):tB X.K fs J H λT y=>rC X.K g T y t:=by
 obtain⟨F,m,L,S,d,N,r,l,q,k⟩:=h;obtain⟨xs,c,s,q⟩:=aj q;cases e:g xs with
 |none=>rw[e]at q;cases q
 |some z=>rw[e]at q;cases q;exact⟨F,m,L,S,xs,_,r,l,s,λT C n y b a f=>⟨C,xs,_,a.ft,f,e,λv B I x p=>k v B n I (b.trans x.stp) (a.grow x) p⟩⟩
theorem Lp{x:Str}{p:Pos}{id:String}{g:List P->Option P}(c:fL X (.builtin id) (rC X.K g))(n:Gl X x)(m:X.g x=none)(v:bootBuiltins x=some (.builtin id))(a:PA X (e::z) (tB X.K fs))(k:x≠"__name__":=by decide)(d:(x == ("__debug__":Str))=false:=by decide)
  (s:starEach (e::z) X.e=(false,eval e X.e)::starEach z X.e:=by rfl) (l:(backTo M (starEach z X.e)).any (·.1)=false:=by rfl):PE X (.Call (.Name x p) (e::z) [] M) (tV X.K (b0 g fs)):=
 (nR c n m v a k d s l).imp' λ_ _ _ h=>yQ h
theorem yJ(c:fL X (.type k) (rC X.K g))(n:Gl X x)(m:X.g x=none)(v:bootBuiltins x=some (.type k))(a:PA X (e::z) (tB X.K fs))(f:x≠"__name__":=by decide)(d:(x == ("__debug__":Str))=false:=by decide)
  (s:starEach (e::z) X.e=(false,eval e X.e)::starEach z X.e:=by rfl) (l:(backTo M (starEach z X.e)).any (·.1)=false:=by rfl):PE X (.Call (.Name x p) (e::z) [] M) (tV X.K (b0 g fs)):=
 (l0 c n m v a f d s l).imp' λ_ _ _ h=>yQ h
noncomputable def QE(K:FG)(g:List P->Option P):Sp:=λT H Q _=>rC K g T H Q
theorem Ol(G:FnOk X.p X.w X.K X.g X.b tu k f t ps (QE X.K g))(i:Room k X.A)(w:Gl X x)(u:X.g x=some (.ref f))(hk:iH X.K (.ref f)=true)(c:Binds X.K t ps [])
  (b:PA X (e::z) (tB X.K fs)) (d:(x == ("__debug__":Str))=false:=by decide) (v:starEach (e::z) X.e=(false,eval e X.e)::starEach z X.e:=by rfl) (a:(backTo M (starEach z X.e)).any (·.1)=false:=by rfl) :
  PE X (.Call (.Name x p) (e::z) [] M) (tV X.K (b0 g fs)):=
 (vW G i w u hk c .nil sr b d v a).imp' λJ H Q h=>by obtain⟨F,m,L,S,n,N,r,l,q,k⟩:=yQ h;exact⟨F,m,L,S,n,N,r,l,q,λxs F' m' H' s j p=>by show QE X.K g (xs++[]) H' Q E0;rw[eA];exact k xs F' m' H' s j p⟩
end
section
variable{X:Cx}{a b e:Expr}{Q:Stmt}{u bs cs:List Stmt}{f g:ES}{fe:EE}{qa:EB}{M:Pos}
theorem Rb:qc X [] (mO X.K cN):=IV.imp' λD J H h=>by obtain⟨F,m,L,S,f,x,N,r,l,q,k⟩:=h;cases q;exact k J F m H .refl r l
theorem N9(z:PS X Q (mO X.K f))(o:qc X u (mO X.K g)):qc X (Q::u) (mO X.K (ag f g)):=(Fh z o).imp' λD J H K=>by
 obtain⟨F,m,L,S,w,v,N,r,l,q,k⟩:=K;cases e:f L S with
 |none=>rw[show ag f g L S=none by unfold ag;rw[e]]at q;cases q
 |some x=>
  obtain⟨i,t,p⟩:=x;cases i with
  |nx=>
   have s:g t p=some (w,v,N):=by have:=q;unfold ag at this;rw[e]at this;exact this
   exact⟨F,m,L,S,.nx,t,p,r,l,e,λc C a y b n h=>⟨C,a,t,p,w,v,N,n,h,s,λj B A I G E P=>k j B A I (b.trans G) E P⟩⟩
  |rt d=>
   have s:some (Fl.rt d,t,p)=some (w,v,N):=by have:=q;unfold ag at this;rw[e]at this;exact this
   cases s;exact⟨F,m,L,S,_,_,_,r,l,e,λc C a y b n h=>k c C a y b n h⟩
  |bk=>
   have s:some (Fl.bk,t,p)=some (w,v,N):=by have:=q;unfold ag at this;rw[e]at this;exact this
   cases s;exact⟨F,m,L,S,_,_,_,r,l,e,λc C a y b n h=>k c C a y b n h⟩
  |ct=>
   have s:some (Fl.ct,t,p)=some (w,v,N):=by have:=q;unfold ag at this;rw[e]at this;exact this
   cases s;exact⟨F,m,L,S,_,_,_,r,l,e,λc C a y b n h=>k c C a y b n h⟩
theorem Ra(h:PS X Q (mO X.K f)):qc X [Q] (mO X.K f):=IU h
theorem Et(h:PE X e (tE X.K fe)):PS X (.Return (some e) M) (mO X.K (au fe)):=(L9 h).imp' λD J H z=>by obtain⟨F,m,L,S,b,n,N,r,l,q,k⟩:=z;obtain⟨d,f,x,q⟩:=aj q;cases q;exact⟨F,m,L,S,d,N,r,l,x,λv F' m' H' s a p=>k J F' m' H' s a (l.mono s) v p⟩
theorem N8(h:PE X e (tE X.K fe))(a:swapsWith e none M.line X.e=pure false:=by rfl):PS X (.Expr e M) (mO X.K (cf fe)):=(IX h a).imp' λD J H z=>by obtain⟨F,m,L,S,c,f,N,r,l,q,k⟩:=z;obtain⟨d,b,x,q⟩:=aj q;cases q;exact⟨F,m,L,S,d,N,r,l,x,λv F' m' H' s n p=>k J F' m' H' s n (l.mono s)⟩
theorem Es(i:Nat)(n:X.N.Nodup)(h:PE X e (tE X.K fe))(b:X.N[i]? = some x:=by rfl)(w:Loc X.e.scope x:=by first|exact Or.inl rfl|exact Or.inr rfl)(c:swapsWith e (some (.Name x t)) M.line X.e=pure false:=by rfl)
  (f:X.fn x=true\/X.e.scope.names.lookup x=some .local:=by first|exact .inl rfl|exact .inr rfl|assumption):PS X (.Assign [.Name x t] e M) (mO X.K (aq i fe)):=
 (L8 n b w h c f).imp' λD J H z=>by obtain⟨F,m,L,S,y,g,N,r,l,q,k⟩:=z;obtain⟨d,j,a,q⟩:=aj q;cases q;exact⟨F,m,L,S,d,N,r,l,a,λv F' m' H' s u p=>k (J.set i (some v)) F' m' H' s u ((l.mono s).set p i)⟩
theorem TL(i:PT X c (tQ X.K qa))(w:qc X bs (mO X.K f))(u:qc X cs (mO X.K g)):PS X (.If c bs cs M) (mO X.K (b8 qa f g)):=(O1 i w u).imp' λD J H z=>by
 obtain⟨F,m,L,S,p,t,N,r,l,q,k⟩:=z;obtain⟨c,x,d,q⟩:=aj q;refine⟨F,m,L,S,c,x,r,l,d,λF' m' H' s v=>?_⟩;cases c with
 |true=>rw[af rfl]at q ⊢;exact⟨F',m',L,x,p,t,N,v,l.mono s,q,λh B e I b n a=>k h B e I (s.trans b) n a⟩
 |false=>rw[ah bP]at q ⊢;exact⟨F',m',L,x,p,t,N,v,l.mono s,q,λh B e I b n a=>k h B e I (s.trans b) n a⟩
theorem TM:PS X (.Break M) (mO X.K Th):=Fi.imp' λD J H h=>by obtain⟨F,m,L,S,f,x,N,r,l,q,k⟩:=h;cases q;exact k J F m H .refl r l
inductive gTI(K:FG)(g:ki)(x:V)(J:L2.St)(H:Hp)(Q:L2.St->Hp->Prop):Prop
 |mk (F:Aa) (m:List Addr) (L:Lc) (v:P) (L':Lc) (h0_:RL K F H m J L) (h1_:RP K F H v x) (h2_:g v L=some L') (h3_:∀J',RL K F H m J' L'->Q J' H):gTI K g x J H Q
noncomputable def gT(K:FG)(g:ki):TG:=λx J H Q=>gTI K g x J H Q
theorem _root_.L2.PG.imp'(h:PG X tg t)(i:∀v J H Q,k v J H Q->t v J H Q):PG X tg k:=λp s J H v u Q I r q=>h p s J H v u Q I r (i v J H Q q)
theorem M5(i:Nat)(h:X.N.Nodup)(a:X.N[i]? = some x:=by rfl)(e:Loc X.e.scope x:=by first|exact Or.inl rfl|exact Or.inr rfl)(f:X.fn x=true\/X.e.scope.names.lookup x=some .local:=by first|exact .inl rfl|exact .inr rfl|assumption) :
  PG X (.Name x M) (gT X.K (ai i)):=(Jf h a e f).imp' λv J H Q z=>by
 obtain⟨F,m,L,d,s,l,p,q,k⟩:=z;cases q;exact k _ (l.set (d:=.p d) p i)
def NF(K:FG)(a:It)(T:List P)(F:Aa)(m:List Addr)(H:Hp):Prop:=∀B s I,Stp F m H B s I ->
 (∀(i:Nat) v,T[i]? = some v->a.go i I/\∀x h,a.yld i I x h->∃e,Grow B I e h/\RP K e h v x)/\a.stop T.length I
inductive tII(K:FG)(f:ko)(J:L2.St)(H:Hp)(R:It->Hp->Prop):Prop
 |mk (F:Aa) (m:List Addr) (L:Lc) (S:aA) (vs:List P) (S':aA) (h0_:Rel K F H m S) (h1_:RL K F H m J L) (h2_:f L S=some (vs,S')) (h3_:∀J9 F' m' H',Stp F m H F' m' H'->Rel K F' H' m' S'->NF K J9 vs F' m' H'->R J9 H'):tII K f J H R
noncomputable def tI(K:FG)(f:ko):TI:=λJ H R=>tII K f J H R
theorem Rc{tg iter:Expr}{fi:ko}{g:ki}{b:List Stmt}{fb:ES}(hp:PassesOwn (model X.p X.w) X.A X.e X.xe)(hc:X.c=true)(hi:PI X tg iter (tI X.K fi))(hg:PG X tg (gT X.K g))(hb:qc X b (mO X.K fb))
  (hs:∀x,foldedSetIterable iter X.e x=pure x:=by intro _;rfl):PS X (.For tg iter b [] M) (mO X.K (bE fi g fb)):=
 (L_ hp hc hi hg hb hs).imp' λD J H hz=>by
  obtain⟨F,m,L,S,fl,L',N,r,l,q,k⟩:=hz;obtain⟨T,S1,e1,q⟩:=aj q;refine⟨F,m,L,S,T,S1,r,l,e1,fun J9 C u y P r1 it=>?_⟩;refine⟨fun i n Q I=>n=T.length-i/\i≤T.length/\∃B s L2 f,Stp C u y B s I/\Rel X.K B I s f/\RL X.K B I s Q L2/\bc g fb (T.drop i) L2 f=some (fl,L',N),
   ⟨T.length,rfl,cQ _,C,u,L,S1,.refl,r1,l.mono P,by rw[qC];exact q⟩,?_⟩
  rintro i n Q I ⟨rfl,hi,B,s,L2,f,s2,r2,l2,a⟩;obtain⟨go,o⟩:=it B s I s2;by_cases t:i < T.length
  .right;have hv:T[i]? = some T[i]:=by simp[t]
   rw[A8 t]at a;obtain⟨hgo,hy⟩:=go i _ hv;refine⟨hgo,λJ3 c=>∃n',n' < T.length-i/\(n'=T.length-(i+1)/\i+1≤T.length/\∃B s L2 f,Stp C u y B s c/\Rel X.K B c s f/\RL X.K B c s J3 L2/\bc g fb (T.drop (i+1)) L2 f=some (fl,L',N)),λ_ _ z=>z,λx c h=>?_⟩;obtain⟨G,gr,p3⟩:=hy x c h;unfold bc at a;cases eg:g T[i] L2 with
   |none=>rw[eg]at a;cases a
   |some R=>
    rw[eg]at a;dsimp only at a;refine⟨G,s,L2,T[i],R,l2.mono gr.stp,p3,eg,λJ3 l3=>?_⟩;have A:Stp C u y G s c:=s2.trans gr.stp;have r3:=r2.grow gr;cases Z:fb R f with
    |none=>rw[Z]at a;cases a
    |some z=>
     obtain⟨p,V,W⟩:=z;rw[Z]at a;refine⟨G,s,R,f,p,V,W,r3,l3,Z,λJ4 v j H4 E K w=>?_⟩;cases p with
     |nx=>exact⟨T.length-(i+1),by lia,rfl,t,v,j,V,W,A.trans E,K,w,a⟩
     |ct=>exact⟨T.length-(i+1),by lia,rfl,t,v,j,V,W,A.trans E,K,w,a⟩
     |bk=>cases a;exact k J4 v j H4 (P.trans (A.trans E)) K w
     |rt d=>cases a;exact k J4 v j H4 (P.trans (A.trans E)) K w
  .left;have e:i=T.length:=by lia
   subst e;rw[qE]at a;cases a;exact⟨o,k Q B s I (P.trans s2) r2 l2⟩
end
theorem Stp.toGrow(s:Stp F [] H F' m' H')(f:∀a,F' a->H' a≠none):Grow F H F' H':=
 ⟨fun b o h=>s.oth b o h (by simp),s.frz,fun b h=>by
  rcases s.nf b h with q|q|q
  .exact .inl q
  .exact .inr ⟨q,f b h⟩
  .simp at q⟩
theorem mu{l:Prop}{β:Type}{d:β}(h:(none:Option β)=some d):l:=nomatch h
noncomputable def jb(n:Nat):Bool:=decide (n≤1000000)
theorem jV(h:jb n=true):n≤sizeLine:=aI (aM h) (by decide)
section
variable{X:Cx}
def wD:P->P->Option P
 | .int i,.int j=>some (.int (i+j))
 | .str x,.str y=>if jb (x.length+y.length)=true then some (.str (x++y)) else none
 | .tup xs,.tup s=>if (!xs.isEmpty && jb (xs.length+s.length))=true then some (.tup (xs++s)) else none
 | .lst xs,.lst s=>if jb (xs.length+s.length)=true then some (.lst (xs++s)) else none
 |_,_=>none
set_option tactic.hygienic true in
theorem Po:qd X (binaryOp .Add) wD:=by
 intro f s J H x y v u Q I o S h;obtain⟨F,E,w,d,L,g,l,q,k⟩:=h;cases E with
 |int i=>
  cases w with
  |int j=>cases q;cases (show x=.int i from g);cases (show y=.int j from l);exact Mv f s J H _ _ v u Q I o S ⟨i,j,rfl,rfl,k _ F H .refl rfl⟩
  |_=>exact mu q
 |str i=>
  cases w with
  |str j=>
   simp only[wD]at q;split at q
   .rename_i c;cases q;cases (show x=.str i from g);cases (show y=.str j from l);exact y3 f s J H _ _ v u Q I o S ⟨i,j,rfl,rfl,jV c,k _ F H .refl rfl⟩
   .cases q
  |_=>exact mu q
 |tup B=>
  cases w with
  |tup z=>
   simp only[wD]at q;split at q
   .rename_i c;rw[av]at c;cases q;obtain⟨a,xs,rfl,K,r⟩:=g;obtain⟨b,A,rfl,P,t⟩:=l;have C:=r.length;have D:=t.length;have G:xs≠[]:=λn=>by
     subst n;have:B=[]:=i7 C;subst this;simp at c
    refine Jm f s J H _ _ v u Q I o S ⟨a,b,xs,A,rfl,rfl,K.sq,P.sq,G,by rw[<- C,<- D];exact jV c.2,λn=>?_,λ_ p m=>?_⟩
    .subst n;have e:z=[]:=i7 D;subst e;refine k _ F H .refl ?_;rw[eA];exact⟨a,xs,rfl,K,r⟩
    .exact k _ F _ (cB m) (.newTup m (r.append t))
   .cases q
  |_=>exact mu q
 |lst B=>
  cases w with
  |lst z=>
   simp only[wD]at q;split at q
   .rename_i c;cases q;obtain⟨a,xs,rfl,K,r⟩:=g;obtain⟨b,A,rfl,P,t⟩:=l;exact Mu f s J H _ _ v u Q I o S ⟨a,b,xs,A,rfl,rfl,K.2,P.2,by rw[<- r.length,<- t.length];exact jV c,λp m=>k _ _ _ (de m) (.newLst m (r.append t))⟩
   .cases q
  |_=>exact mu q
 |_=>exact mu q
noncomputable def Ho(c:Int->Int->Bool)(g:Int->Int->P):P->P->Option P
 | .int i,.int j=>if c i j=true then some (g i j) else none
 |_,_=>none
@[simp] theorem JW(c:Int->Int->Bool)(g:Int->Int->P)(i j:Int):Ho c g (.int i) (.int j)=if c i j=true then some (g i j) else none:=rfl
set_option tactic.hygienic true in
theorem xi{f:Value->Value->Sem Value}{C:Int->Int->Prop}{a:Int->Int->V}{c:Int->Int->Bool}{g:Int->Int->P}(o:jY X f (rI C a))(b:∀i j,c i j=true->C i j)(m:∀K F H i j,RP K F H (g i j) (a i j)):qd X f (Ho c g):=by
 intro p s J H x y v u Q I l z h;obtain⟨F,e,n,d,S,t,w,q,k⟩:=h;cases e with
 |int i=>
  cases n with
  |int j=>
   rw[JW]at q;split at q
   .rename_i r;cases q;cases (show x=.int i from t);cases (show y=.int j from w);exact o p s J H _ _ v u Q I l z ⟨i,j,rfl,rfl,b i j r,k _ F H .refl (m _ _ _ _ _)⟩
   .cases q
  |_=>exact mu q
 |_=>exact mu q
theorem sm(h:jY X f (IQ k)):jY X f (rI (λ_ _=>True) k):=λp s J H x y v u Q I r n ⟨i,j,e,a,_,q⟩=>h p s J H x y v u Q I r n ⟨i,j,e,a,q⟩
noncomputable abbrev Eu:Int->Int->Bool:=λ_ _=>true
abbrev Ng:=Ho Eu λi j=>.int (i-j)
theorem Pa:qd X (binaryOp .Sub) Ng:=xi (sm Mp) (λ_ _ _=>trivial) λ_ _ _ _ _=>rfl
noncomputable abbrev Md:Int->Int->Bool:=λ_ j=>decide (0 < j) && decide (j < 1152921504606846976)
theorem FF:jY X (binaryOp .FloorDiv) (rI (λ_ j=>0 < j/\j < 1152921504606846976) λi j=>.int (i / j)):=QH λi j _ _ _ _ _ h q=>by have a:(0:Int) < j:=h.1;have e:j < 1152921504606846976:=h.2;have x:j.natAbs.log2 < 9000:=cg ((AB (by lia)).mpr (show j.natAbs < 2 ^ 60 by lia)) (by decide);exact floordiv_int (by lia) (by rw[Int.fdiv_eq_ediv_of_nonneg i (by lia)];exact q) (.inl (PyProof.noPylong_of_log2 x))
abbrev zy:=Ho Md λi j=>.int (i / j)
theorem Jn:qd X (binaryOp .FloorDiv) zy:=xi FF (λi j h=>by rw[av]at h;exact⟨aM h.1,aM h.2⟩) λ_ _ _ _ _=>rfl
abbrev Nj:=Ho (λ_ j=>decide (0 < j)) λi j=>.int (i % j)
theorem Pe:qd X (binaryOp .Mod) Nj:=xi Mr (λi j h=>aM h) λ_ _ _ _ _=>rfl
abbrev Ni:=Ho (λi j=>decide (0≤j) && decide (j≤1000000) && decide (i.natAbs < 2 ^ 64)) λi j=>.int (i ^ j.toNat)
theorem Pb:qd X (binaryOp .Pow) Ni:=xi Mq (λi j h=>by simp only[av]at h;exact⟨aM h.1.1,aM h.1.2,aM h.2⟩) λ_ _ _ _ _=>rfl
abbrev SH:=Ho Eu λi j=>.bl (decide (i < j))
theorem R':qd X (compareOp .Lt) SH:=xi (sm O6) (λ_ _ _=>trivial) λ_ _ _ _ _=>rfl
abbrev Qe:=Ho Eu λi j=>.bl (decide (i≤j))
theorem Sd:qd X (compareOp .LtE) Qe:=xi (sm O7) (λ_ _ _=>trivial) λ_ _ _ _ _=>rfl
abbrev SJ:=Ho Eu λi j=>.bl (decide (j < i))
theorem Se:qd X (compareOp .Gt) SJ:=xi (sm O8) (λ_ _ _=>trivial) λ_ _ _ _ _=>rfl
abbrev SK:=Ho Eu λi j=>.bl (decide (j≤i))
theorem Sf:qd X (compareOp .GtE) SK:=xi (sm O_) (λ_ _ _=>trivial) λ_ _ _ _ _=>rfl
noncomputable def gJ(i j:Int):Bool:=decide (i.natAbs.log2+j.natAbs.log2 < 100000000)
theorem FR{i j:Int}(h:gJ i j=true):IntMulOk i j:=by
 have a:i.natAbs.log2+j.natAbs.log2 < 100000000:=aM h;have b:∀x:Int,Builtin.Int.intBits x≤x.natAbs.log2+1:=λx=>by
  unfold Builtin.Int.intBits;split
  .exact cQ _
  .exact al _
 exact IntMulOk.of_le (b i) (b j) (by lia)
theorem Jl:jY X (binaryOp .Mult) (rI (λi j=>IntMulOk i j) λi j=>.int (i * j)):=QH λ_ _ _ _ _ _ _ h q=>mul_int q h
noncomputable def e_(x:Str)(n:Nat):Str:=⟨(List.replicate n x.cps).foldl (·++·) #[]⟩
theorem yS(x:Str):e_ x 1=x:=by unfold e_;cases x;simp
theorem Dy(n:Nat):(List.replicate n (#[]:Array Nat)).foldl (·++·) #[]=#[]:=by
 induction n with
 |zero=>rfl
 |succ n i=>rw[cS,gy];simpa using i
theorem vP(x:Str)(n:Nat)(h:x.length=0):e_ x n=x:=by have e:x.cps=#[]:=Array.eq_empty_of_size_eq_zero (by simpa[nq] using h);unfold e_;cases x;simp only at e;subst e;rw[Dy]
theorem zl(a:Array Nat)(n:Nat):∀b:Array Nat,((List.replicate n a).foldl (·++·) b).size=b.size+n * a.size:=by
 induction n with
 |zero=>intro b;simp
 |succ n i=>intro b;rw[cS,gy,i,Bk,u5];lia
theorem mq(x:Str)(n:Nat):(e_ x n).length=n * x.length:=by unfold e_ nq;simp only;rw[zl];simp
def wC:P->P->Option P
 | .int i,.int j=>if gJ i j=true then some (.int (i * j)) else none
 | .str x,.int n=>if (jb (n.toNat * x.length) && decide (n.natAbs < 1000000))=true then some (.str (e_ x n.toNat)) else none
 | .lst xs,.int n=>if (jb (xs.length * n.toNat) && decide (n.natAbs < 1000000))=true then some (.lst (List.replicate n.toNat xs).flatten) else none
 |_,_=>none
theorem cX.rep(h:cX K F H r xs):∀k:Nat,cX K F H (List.replicate k r).flatten (List.replicate k xs).flatten
 |0=>rfl
 |k+1=>by rw[cS,cS,fS,fS];exact h.append (cX.rep h k)
set_option tactic.hygienic true in
theorem Pd:qd X (binaryOp .Mult) wC:=by
 intro r s J H x y v u Q I o S h;obtain⟨F,B,w,d,M,g,l,q,k⟩:=h;cases B with
 |int i=>
  cases w with
  |int j=>
   simp only[wC]at q;split at q
   .rename_i c;cases q;cases (show x=.int i from g);cases (show y=.int j from l);exact Jl r s J H _ _ v u Q I o S ⟨i,j,rfl,rfl,FR c,k _ F H .refl rfl⟩
   .cases q
  |_=>exact mu q
 |str i=>
  cases w with
  |int n=>
   simp only[wC]at q;split at q
   .rename_i c;rw[av]at c;have E:=aM c.2;have N:n.toNat * i.length≤1000000:=aM c.1;have T:=lA;have V:(1000000:Nat)≤sizeLine:=by decide
    cases q;cases (show x=.str i from g);cases (show y=.int n from l);obtain⟨t,rfl⟩:=o;obtain⟨W,rfl⟩:=S;refine PySem.P.mul_str (by have C:decide (n < -(2 ^ 63:Int))=false:=be (by lia);have D:decide (n ≥ 2 ^ 63)=false:=be (by lia);rw[C,D];rfl) (λa b=>?_) (λa b=>?_) ?_
    .intro z;have R:((i.length:Nat):Int)≤(2 ^ 63-1) / n:=by
      refine(Int.le_ediv_iff_mul_le (by lia)).mpr ?_;have e:((i.length:Nat):Int) * n=((n.toNat * i.length:Nat):Int):=by rw[zR,zS (by lia),Int.mul_comm]
      rw[e];lia
     lia
    .unfold Builtin.Str.tooLong;first
      |exact be (by rw[qy];lia)
      |(rw[qy];exact be (by lia))
    .have f:Q (.str (e_ i n.toNat)) H:=k _ F H .refl rfl;by_cases K:n < 1
     .rw [af K];have e:n.toNat=0:=by lia
      rw[e]at f;exact⟨by decide,⟨.str Str.empty,H,I.tok _,⟨_,rfl⟩,f⟩⟩
     .rw [ah K];by_cases m:(n == 1 ||i.length == 0)=true
      .rw [af m];rw[Bg]at m;have e:e_ i n.toNat=i:=by
        rcases m with m|m
        .have:n=1:=by simpa using m
         subst this;exact yS i
        .exact vP i _ (by simpa using m)
       rw[e]at f;exact⟨.str i,H,I,⟨_,rfl⟩,f⟩
      .rw [ah m];refine⟨?_,⟨.str (e_ i n.toNat),H,I.tok _,⟨_,rfl⟩,f⟩⟩;have:=mq i n.toNat
       unfold e_ at this;rw[this];lia
   .cases q
  |_=>exact mu q
 |lst L=>
  cases w with
  |int n=>
   simp only[wC]at q;split at q
   .rename_i c;rw[av]at c;have E:=aM c.2;cases q;obtain⟨a,xs,rfl,G,A⟩:=g;cases (show y=.int n from l);exact FD r s J H _ _ v u Q I o S ⟨a,n,xs,rfl,rfl,G.2,by lia,by lia,by rw[<- A.length];exact jV c.1,λp P=>k _ _ _ (de P) (.newLst P (A.rep _))⟩
   .cases q
  |_=>exact mu q
 |_=>exact mu q
noncomputable def Tw:P->P->Option P
 | .int i,.int j=>some (.bl (decide (i=j)))
 | .str x,.str y=>some (.bl (decide (x=y)))
 | .bl a,.bl b=>some (.bl (decide (a=b)))
 |_,_=>none
noncomputable def dNe:P->P->Option P
 | .int i,.int j=>some (.bl (!decide (i=j)))
 | .str x,.str y=>some (.bl (!decide (x=y)))
 | .bl a,.bl b=>some (.bl (!decide (a=b)))
 |_,_=>none
theorem pN{i j:Int}:decide (V.int i=V.int j)=decide (i=j):=by
 by_cases h:i=j
 .subst h;simp
 .rw [be h,be λz=>h (V.int.inj z)]
theorem pM:decide (V.str i=V.str k)=decide (i=k):=by
 by_cases h:i=k
 .subst h;simp
 .rw [be h,be λz=>h (V.str.inj z)]
theorem sV:decide (V.bl i=V.bl k)=decide (i=k):=by
 by_cases h:i=k
 .subst h;simp
 .rw [be h,be λz=>h (V.bl.inj z)]
theorem Sg:qd X (compareOp .Eq) Tw:=by
 intro p s J H x y v u Q I r f h;obtain⟨F,b,a,d,t,e,n,q,k⟩:=h;cases b with
 |int i=>
  cases a with
  |int j=>cases q;cases (show x=.int i from e);cases (show y=.int j from n);exact FH p s J H _ _ v u Q I r f ⟨rfl,by rw[pN];exact k _ F H .refl rfl⟩
  |_=>exact mu q
 |str i=>
  cases a with
  |str j=>cases q;cases (show x=.str i from e);cases (show y=.str j from n);exact FH p s J H _ _ v u Q I r f ⟨rfl,by rw[pM];exact k _ F H .refl rfl⟩
  |_=>exact mu q
 |bl i=>
  cases a with
  |bl j=>cases q;cases (show x=.bl i from e);cases (show y=.bl j from n);exact FH p s J H _ _ v u Q I r f ⟨rfl,by rw[sV];exact k _ F H .refl rfl⟩
  |_=>exact mu q
 |_=>exact mu q
theorem R_:qd X (compareOp .NotEq) dNe:=by
 intro p s J H x y v u Q I r f h;obtain⟨F,b,a,d,t,e,n,q,k⟩:=h;cases b with
 |int i=>
  cases a with
  |int j=>cases q;cases (show x=.int i from e);cases (show y=.int j from n);exact FE p s J H _ _ v u Q I r f ⟨rfl,by rw[pN];exact k _ F H .refl rfl⟩
  |_=>exact mu q
 |str i=>
  cases a with
  |str j=>cases q;cases (show x=.str i from e);cases (show y=.str j from n);exact FE p s J H _ _ v u Q I r f ⟨rfl,by rw[pM];exact k _ F H .refl rfl⟩
  |_=>exact mu q
 |bl i=>
  cases a with
  |bl j=>cases q;cases (show x=.bl i from e);cases (show y=.bl j from n);exact FE p s J H _ _ v u Q I r f ⟨rfl,by rw[sV];exact k _ F H .refl rfl⟩
  |_=>exact mu q
 |_=>exact mu q
theorem CN{l β:Type}{xs:List l}{s:List β}{i:Int}{d:l}(x:xs.length=s.length)(h:L2.atI xs i=some d):∃j:Nat,xs[j]? = some d/\∀y,s[j]? = some y->L2.atI s i=some y:=by
 unfold L2.atI at h ⊢;rw[x]at h;cases e:F6 s.length i with
 |none=>rw[e]at h;cases h
 |some j=>rw[e]at h;exact⟨j,h,λy a=>a⟩
theorem cX.atI{K:FG}{F:Aa}{H:Hp}{s:List P}{xs:List V}{i:Int}{d:P}(r:cX K F H s xs)(h:L2.atI s i=some d):∃x,L2.atI xs i=some x/\RP K F H d x:=by obtain⟨j,a,n⟩:=CN r.length h;obtain⟨x,e,p⟩:=r.get a;exact⟨x,n x e,p⟩
theorem dB.atI{K:FG}{F:Aa}{H:Hp}{m:List Addr}{s:List D}{xs:List V}{i:Int}{d:D}(r:dB K F H m s xs)(h:L2.atI s i=some d):∃x,L2.atI xs i=some x/\RD K F H m d x:=by obtain⟨j,a,n⟩:=CN r.length h;obtain⟨x,e,p⟩:=r.get a;exact⟨x,n x e,p⟩
noncomputable def cO(k:cu):List cu->List l->Option l
 |h::s,v::T=>if h=k then some v else cO k s T
 |_,_=>none
noncomputable def db:P->Option cu
 | .int i=>some (.inl i)
 | .str x=>some (.inr x)
 |_=>none
def sW:P->P->Option P
 | .tup xs,.int i=>L2.atI xs i
 | .lst xs,.int i=>L2.atI xs i
 | .ro xs,.int i=>L2.atI xs i
 | .str x,.int i=>if jb x.length=true then (L2.atI x.cps.toList i).map λc=>.str ⟨#[c]⟩ else none
 | .dct s T,y=>match db y with
  |some k=>cO k s T
  |none=>none
 |_,_=>none
theorem oQ:∀{s:List (cu×V)}{a:List P}{d:P},cX K F H a (s.map (·.2))->cO k (s.map (·.1)) a=some d->∃v,iA s k=some v/\RP K F H d v
 | [],a,d,r,h=>by cases a<;>exact mu h
 |(n,v)::s,[],d,r,h=>mu h
 |(n,v)::s,q::a,d,r,h=>by
  obtain⟨x,u,e,p,f⟩:=r;rw[aG]at e;injection e with b c;simp only[aG,cO]at h;by_cases hk:n=k
  .rw [af hk]at h;cases h;exact⟨v,jn (p:=(n,v)) hk,by rw[show v=x from b];exact p⟩
  .rw [ah hk]at h;rw[<- c]at f;obtain⟨w,m,t⟩:=oQ f h;exact⟨w,by rw[iz (p:=(n,v)) hk];exact m,t⟩
theorem ju(h:db t=some k)(r:RP K F H t v):v=kV k:=by
 cases t with
 |int i=>cases h;exact r
 |str x=>cases h;exact r
 |_=>exact mu h
theorem F7(m:X.A.units+1 < cLine):DR X (λx y H Q=>∃a v,x=.ref a/\lh H a y (some v)/\(∃k,H a=some (.dK k))/\Q v H):=by
 intro f l p s J H x y v u Q I t d h c;obtain⟨a,w,rfl,g,⟨k,hk⟩,q⟩:=h;cases t;have n:∃o,s.heap.get? a=some o/\o.ExactDict:=by obtain⟨_,_,_,_,o,_,_,e,n,_⟩:=I.h a _ hk;exact⟨o,e,n⟩
 obtain⟨o,e,n⟩:=n;exact nu ⟨o,e,n.1⟩ yw.lookup (ux m I g d λj i b r=>⟨w,H,b,r,q⟩) c
set_option tactic.hygienic true in
theorem Tt(L:X.A.units+1 < cLine):DR X (rP X.K sW):=by
 intro n l f s J H x y v u Q I o S h t;obtain⟨F,C,m,d,N,g,j,q,k⟩:=h;cases C with
 |tup b=>
  cases m with
  |int i=>obtain⟨a,xs,rfl,K,r⟩:=g;cases (show y=.int i from j);obtain⟨z,e,p⟩:=r.atI (show L2.atI b i=some d from q);exact F5 n l f s J H _ _ v u Q I o S ⟨a,xs,i,z,rfl,rfl,K.sq,e,k z F H .refl p⟩ t
  |_=>exact mu q
 |lst b=>
  cases m with
  |int i=>obtain⟨a,xs,rfl,K,r⟩:=g;cases (show y=.int i from j);obtain⟨z,e,p⟩:=r.atI (show L2.atI b i=some d from q);exact wf n l f s J H _ _ v u Q I o S ⟨a,xs,i,z,rfl,rfl,K.sq,e,k z F H .refl p⟩ t
  |_=>exact mu q
 |ro b=>
  cases m with
  |int i=>obtain⟨a,xs,rfl,K,r⟩:=g;cases (show y=.int i from j);obtain⟨z,e,p⟩:=r.atI (show L2.atI b i=some d from q);exact wf n l f s J H _ _ v u Q I o S ⟨a,xs,i,z,rfl,rfl,K.sq,e,k z F H .refl p⟩ t
  |_=>exact mu q
 |str z=>
  cases m with
  |int i=>
   cases (show x=.str z from g);cases (show y=.int i from j);simp only[sW]at q;split at q
   .rename_i G;cases e:L2.atI z.cps.toList i with
    |none=>rw[e]at q;exact mu q
    |some c=>rw[e]at q;cases q;exact MT n l f s J H _ _ v u Q I o S ⟨z,i,c,rfl,rfl,jV G,e,k _ F H .refl rfl⟩ t
   .cases q
  |_=>exact mu q
 |dct R b=>
  obtain⟨a,B,rfl,fa,hk,E,r⟩:=g;simp only[sW]at q;cases P:db m with
  |none=>rw[P]at q;exact mu q
  |some M=>rw[P]at q;dsimp only at q;subst E;obtain⟨w,D,p⟩:=oQ r q;have A:=ju P j;subst A;exact F7 L n l f s J H _ _ v u Q I o S ⟨a,w,rfl,by rw[<- D];exact lh.k hk,⟨B,hk⟩,k w F H .refl p⟩ t
 |_=>exact mu q
theorem TU{a b:Expr}{fa fb:EV}{M:Pos}(u:X.A.units+1 < cLine)(x:PE X a (tV X.K fa))(e:PE X b (tV X.K fb))(s:mf b):PE X (.Subscript a b M) (tV X.K (qQ sW fa fb)):=
 (B1 (Tt u) x e s).imp' λ_ _ _ h=>vN h
end
section
variable{X:Cx}
theorem rX:∀{s:List (cu×V)}{a:List D}{d:D},dB K F H m a (s.map (·.2))->cO k (s.map (·.1)) a=some d->∃v,iA s k=some v/\RD K F H m d v
 | [],a,d,r,h=>by cases a<;>exact mu h
 |(n,v)::s,[],d,r,h=>mu h
 |(n,v)::s,u::a,d,r,h=>by
  obtain⟨x,g,e,p,f⟩:=r;rw[aG]at e;injection e with b c;simp only[aG,cO]at h;by_cases hk:n=k
  .rw [af hk]at h;cases h;exact⟨v,jn (p:=(n,v)) hk,by rw[show v=x from b];exact p⟩
  .rw [ah hk]at h;rw[<- c]at f;obtain⟨w,t,q⟩:=rX f h;exact⟨w,by rw[iz (p:=(n,v)) hk];exact t,q⟩
@[simp] def oK(r:EE)(k:EV)(L:Lc)(S:aA):tw:=a6 (r L S) λd x=>a6 (k L x) λy h=>match d with
 | .p v=>(sW v y).map λz=>(.p z,h)
 | .ref i=>match h[i]? with
  | some (.lst s)=>(match y with
   | .int j=>(L2.atI s j).map λz=>(z,h)
   |_=>none)
  |some (.fz v)=>(sW v y).map λz=>(.p z,h)
  | some (.dct a T)=>(match db y with
   |some k=>(cO k a T).map λz=>(z,h)
   |none=>none)
  |_=>none
theorem Rx{a b:Expr}{fa:EE}{fb:EV}{M:Pos}(hu:X.A.units+1 < cLine)(ha:PE X a (tE X.K fa))(hb:PE X b (tV X.K fb))(hs:mf b):PE X (.Subscript a b M) (tE X.K (oK fa fb)):=
 (B1 ((((Tt hu).or wf).or (F7 hu)).or F5) ha hb hs).imp' λJ H Q hz=>by
  obtain⟨F,m,L,S,d,N,r,l,q,k⟩:=hz;obtain⟨x,S1,A,q⟩:=aj q;obtain⟨h,K,e2,q⟩:=aj q;refine⟨F,m,L,S,x,S1,r,l,A,λv C m1 y c r1 p1=>?_⟩;refine⟨C,m1,L,S1,h,K,r1,l.mono c,e2,λu B V I o f Z=>?_⟩;have px:=RD.mono o p1;have s:∀w:P,RP X.K B I w v->(sW w h).map (λe=>(D.p e,K))=some (d,N)->rP X.K sW v u I Q:=λw pw q=>by
   cases g:sW w h with
   |none=>rw[g]at q;cases q
   |some e=>rw[g]at q;cases q;exact⟨B,w,h,e,f.ft,pw,Z,g,λt F3 H3 gr p3=>k t F3 V H3 (c.trans (o.trans gr.stp)) (f.grow gr) p3⟩
  cases x with
  |p w=>exact .inl (.inl (.inl (s w px q)))
  |ref i=>
   obtain⟨a,rfl,hm⟩:=px;dsimp only at q;cases z:K[i]? with
   |none=>rw[z]at q;cases q
   |some so=>
    rw[z]at q;have W:=f.obj i a so hm z;cases so with
    |fz w=>exact .inl (.inl (.inl (s w W q)))
    |dct ks T=>
     dsimp only at q;obtain⟨n,hk,ek,ra⟩:=W;cases E:db h with
     |none=>rw[E]at q;cases q
     |some R=>
      rw[E]at q;dsimp only at q;subst ek;cases g:cO R (n.map (·.1)) T with
      |none=>rw[g]at q;cases q
      |some e=>rw[g]at q;cases q;obtain⟨w,A,p⟩:=rX ra g;have G:=ju E Z;subst G;exact .inl (.inr ⟨a,w,rfl,by rw[<- A];exact lh.k hk,⟨n,hk⟩,k w B V I (c.trans o) f p⟩)
    |ins _ _ _=>cases q
    |dtn _ _=>cases q
    |dtt _ _=>cases q
    |lst ds=>
     dsimp only at q;cases h with
     |int j=>
      dsimp only at q;obtain⟨xs,hH,rs⟩:=W;cases g:L2.atI ds j with
      |none=>rw[g]at q;cases q
      |some e=>rw[g]at q;cases q;obtain⟨t,e3,p3⟩:=rs.atI g;cases (show u=.int j from Z);exact .inl (.inl (.inr ⟨a,xs,j,t,rfl,rfl,g0.of hH,e3,k t B V I (c.trans o) f p3⟩))
     |_=>cases q
def d5:P->Option Nat
 | .tup xs=>some xs.length
 | .lst xs=>some xs.length
 | .ro xs=>some xs.length
 | .str x=>if jb x.length=true then some x.length else none
 |_=>none
def di:D->aA->Option Nat
 | .p v,_=>d5 v
 | .ref i,S=>match S[i]? with
  |some (.lst d)=>some d.length
  |some (.fz v)=>d5 v
  |_=>none
def dq(r:EE):EV:=λL S=>a6 (r L S) λd h=>(di d h).map λn=>(.int n,h)
set_option tactic.hygienic true in
theorem Ch{F:Aa}{H:Hp}{w:P}{v:V}{n:Nat}{Q:VK}(p:RP X.K F H w v)(h:d5 w=some n)(q:Q (.int n) H) :
  (∃p y,[v]=[V.ref p]/\(g0 X.K H p y\/p' X.K H p y)/\Q (.int y.length) H)\/(∃z,[v]=[V.str z]/\z.length≤sizeLine/\Q (.int z.length) H):=by
 cases w with
 |tup d=>obtain⟨a,xs,rfl,t,r⟩:=p;cases h;exact .inl ⟨a,xs,rfl,.inr t.sq,by rw[<- r.length];exact q⟩
 |lst d=>obtain⟨a,xs,rfl,t,r⟩:=p;cases h;exact .inl ⟨a,xs,rfl,.inl t.sq,by rw[<- r.length];exact q⟩
 |ro d=>obtain⟨a,xs,rfl,t,r⟩:=p;cases h;exact .inl ⟨a,xs,rfl,.inl t.sq,by rw[<- r.length];exact q⟩
 |str x=>
  cases (show v=.str x from p);simp only[d5]at h;split at h
  .rename_i c;cases h;exact .inr ⟨x,rfl,jV c,q⟩
  .cases h
 |_=>exact mu h
theorem Ru(A:Gl X "len")(f:X.g "len"=none)(P:PE X e (tE X.K fe))(c:starEach [e] X.e=[(false,eval e X.e)]:=by rfl):PE X (.Call (.Name "len" p) [e] [] M) (tV X.K (dq fe)):=
 (nR (wH.or wG) A f PySem.boot_len (fX P js (by rw[c];rfl)) (by decide) (by decide) (by rw[c];rfl) rfl).imp' λJ H Q B=>by
  obtain⟨F,m,L,S,d,N,r,l,q,k⟩:=B;obtain⟨x,b,j,q⟩:=aj q;refine⟨F,m,L,S,x,b,r,l,j,λv C D y G u t=>?_⟩;cases h:di x b with
  |none=>rw[h]at q;cases q
  |some n=>
   rw[h]at q;cases q;have s:Q (.int n) y:=k _ C D y G u rfl;cases x with
   |p w=>exact Ch t h s
   |ref i=>
    obtain⟨a,rfl,f⟩:=t;simp only[di]at h;cases z:N[i]? with
    |none=>rw[z]at h;cases h
    |some g=>
     rw[z]at h;have o:=u.obj i a g f z;cases g with
     |fz w=>exact Ch o h s
     |dct R T=>cases h
     |ins _ _ _=>cases h
     |dtn _ _=>cases h
     |dtt _ _=>cases h
     |lst I=>cases h;obtain⟨xs,K,E⟩:=o;exact .inl ⟨a,xs,rfl,.inl (g0.of K),by rw[<- E.length];exact s⟩
noncomputable def eZ(d:D)(S:aA):Option (Nat×List D):=match d with
 | .ref i=>match S[i]? with
  |some (.lst s)=>some (i,s)
  |_=>none
 |_=>none
set_option tactic.hygienic true in
theorem l7(h:eZ d S=some (i,k)):d=.ref i/\S[i]? = some (.lst k):=by
 unfold eZ at h;split at h
 .split at h
  .rename_i e;cases h;exact⟨rfl,e⟩
  .cases h
 .cases h
@[simp] def bB(r:EE)(a:EE)(L:Lc)(S:aA):tw:=a6 (r L S) λd h=>match eZ d h with
 |none=>none
 |some _=>a6 (a L h) λx e=>match eZ d e with
  |some (i,s)=>if few s=true then some (.p .non,e.set i (.lst (s++[x]))) else none
  |none=>none
set_option tactic.hygienic true in
theorem Im{o e:Expr}{W fe:EE}{p c:Pos}(ho:PE X o (tE X.K W))(he:PE X e (tE X.K fe))(M:starEach [e] X.e=[(false,eval e X.e)]:=by rfl)
  (t:attributeBase o "append" X.e (eval o X.e)=eval o X.e:=by rfl) (w:(p.endLine == c.line)=true:=by rfl):PE X (.Call (.Attribute o "append" p) [e] [] c) (tE X.K (bB W fe)):=
 (Ky qo zY PySem.F.type_list_append uj ho (fX he js (by rw[M];rfl)) t (by rw[M];rfl) w (by rw[M];rfl) rfl).imp' λJ H h hz=>by
  obtain⟨F,m,L,S,d,N,r,l,q,k⟩:=hz;obtain⟨x,A,e1,q⟩:=aj q;refine⟨F,m,L,S,x,A,r,l,e1,λv C m1 y s1 r1 p1=>?_⟩;cases E:eZ x A with
  |none=>rw[E]at q;cases q
  |some s=>
   obtain⟨i,ds⟩:=s;rw[E]at q;dsimp only at q;obtain⟨rfl,z⟩:=l7 E;obtain⟨a,rfl,hm⟩:=id p1;obtain⟨xs,hH,rs⟩:=r1.obj i a _ hm z;refine⟨.inl ⟨rfl,xs,g0.of hH⟩,?_⟩;obtain⟨n,V,e2,q⟩:=aj q;refine⟨C,m1,L,A,n,V,r1,l.mono s1,e2,λu B R I s2 T p2=>?_⟩;cases f:eZ (.ref i) V with
   |none=>rw[f]at q;cases q
   |some s=>
    obtain⟨i2,D⟩:=s;rw[f]at q;dsimp only at q;obtain⟨e3,b⟩:=l7 f;cases e3;split at q
    .rename_i Z;cases q;obtain⟨a2,e4,g⟩:=RD.mono s2 p1;cases e4;obtain⟨j,K,P⟩:=T.obj i a _ g b;have hl:=m7 Z;have G:j.length < sizeLine:=by
      have:D.length≤1000000:=aM Z;rw[<- P.length];exact kC this (by decide)
     have nt:∀zs,I a≠some (.tup zs):=λzs s=>by rw[K]at s;cases s
     have Q:Stp B R I B R (cq I a (.lst (j++[u]))):=gC T g b trivial nt;refine⟨a,j,u,rfl,rfl,K,G,?_⟩;exact k .non B R _ (s1.trans (s2.trans Q)) (T.set g b trivial nt ⟨_,aV,dB.mono Q (P.append ⟨u,[],rfl,p2,rfl⟩)⟩) rfl
    .cases q
noncomputable abbrev EO:=Lc->aA->Option (Option Int×aA)
noncomputable def gH:EO:=λ_ S=>some (none,S)
def fJ(a:EV):EO:=λL S=>a6 (a L S) λv h=>match v with
 | .int i=>some (some i,h)
 |_=>none
inductive tOI(K:FG)(f:EO)(J:L2.St)(H:Hp)(Q:Option Int->Hp->Prop):Prop
 |mk (F:Aa) (m:List Addr) (L:Lc) (S:aA) (b:Option Int) (S':aA) (h0_:Rel K F H m S) (h1_:RL K F H m J L) (h2_:f L S=some (b,S')) (h3_:∀F' m' H',Stp F m H F' m' H'->Rel K F' H' m' S'->Q b H'):tOI K f J H Q
noncomputable def tO(K:FG)(f:EO):TO:=λJ H Q=>tOI K f J H Q
theorem _root_.L2.PO.imp'(h:PO X e t)(i:∀J H Q,k J H Q->t J H Q):PO X e k:=λp s J H Q I q=>h p s J H Q I (i J H Q q)
theorem MG:PO X none (tO X.K gH):=Ja.imp' λJ H Q h=>by obtain⟨F,m,L,S,d,N,r,l,q,k⟩:=h;cases q;exact k F m H .refl r
theorem MF(h:PE X e (tV X.K fa)):PO X (some e) (tO X.K (fJ fa)):=(I0 h).imp' λJ H Q z=>by
 obtain⟨F,m,L,S,d,N,r,l,q,k⟩:=z;obtain⟨x,b,a,q⟩:=aj q;cases x with
 |int i=>cases q;exact⟨F,m,L,S,_,_,r,l,a,λv C s y f n p=>⟨i,p,k C s y f n⟩⟩
 |_=>cases q
def cut(xs:List l)(lo h:Option Int):List l:=(xs.drop (HT.fW xs.length 0 lo)).take (HT.fW xs.length xs.length h-HT.fW xs.length 0 lo)
theorem cX.cut(r:cX K F H k xs)(lo h:Option Int):cX K F H (Ev.cut k lo h) (x4 xs lo h):=by unfold Ev.cut x4;rw[r.length];exact(r.drop _).take _
def UA:P->Option Int->Option Int->Option P
 | .lst xs,lo,h=>some (.lst (cut xs lo h))
 | .ro xs,lo,h=>some (.lst (cut xs lo h))
 | .tup xs,lo,h=>if HT.fW xs.length 0 lo=0/\HT.fW xs.length xs.length h=xs.length then none else some (.tup (cut xs lo h))
 |_,_,_=>none
theorem _root_.L2.PI.imp'(h:PI X r iter t)(i:∀J H R,k J H R->t J H R):PI X r iter k:=λp s J H R I q=>h p s J H R I (i J H R q)
theorem F_(f:∀B h I,Stp F m H B h I->g0 K I a xs)(r:cX K F H T xs):NF K (Qz K a) T F m H:=by
 intro B h I s;have q:=f B h I s;have k:=cX.mono s r;refine⟨λi v e=>?_,⟨xs,q,by rw[k.length];exact al _⟩⟩;obtain⟨x,n,p⟩:=k.get e;refine⟨⟨xs,x,q,n⟩,λy b z=>?_⟩;obtain⟨rfl,z⟩:=z;have:=z xs q
 rw[n]at this;cases this;exact⟨B,.refl,p⟩
theorem MU(k:TupAt K H a xs)(r:cX K F H T xs):NF K (TJ K a) T F m H:=by
 intro B b I s;have q:=(k.kp s.kp).sq;have n:=cX.mono s r;refine⟨λi v e=>?_,⟨xs,q,by rw[n.length];exact al _⟩⟩;obtain⟨x,h,p⟩:=n.get e;refine⟨⟨xs,x,q,h⟩,λy f z=>?_⟩;obtain⟨rfl,z⟩:=z;have:=z xs q
 rw[h]at this;cases this;exact⟨B,.refl,p⟩
noncomputable def intsFrom(lo:Int)(n:Nat):List P:=(List.range n).map λ(i:Nat)=>.int (lo+(i:Int))
def iI(a:EV):ko:=λL S=>a6 (a L S) λv h=>match v with
 | .int j=>if decide (j.natAbs < 1000000)=true then some (intsFrom 0 j.toNat,h) else none
 |_=>none
theorem MV{lo:Int}:NF K (Q7 lo n) (intsFrom lo n) F m H:=by
 intro B k I s;have l:(intsFrom lo n).length=n:=by unfold intsFrom;simp
 refine⟨λi v e=>?_,by show n≤(intsFrom lo n).length;rw[l];exact al _⟩;have h:i < n:=by rw[<- l];exact(bO.mp e).1
 refine⟨h,λx a z=>?_⟩;obtain⟨rfl,rfl⟩:=z;refine⟨B,.refl,?_⟩;unfold intsFrom at e;simp[h]at e;subst e;exact rfl
set_option tactic.hygienic true in
theorem Um{w a:Expr}{fa:EV}{p M:Pos}(g:Gl X "range")(n:X.g "range"=none)(s:PE X a (tV X.K fa))(h:starEach [a] X.e=[(false,eval a X.e)]:=by rfl):PI X w (.Call (.Name "range" p) [a] [] M) (tI X.K (iI fa)):=
 (Dc g n (fX s js (by rw[h];rfl)) h).imp' λJ H R z=>by
  obtain⟨F,m,L,S,T,N,r,l,q,k⟩:=z;obtain⟨v,u,e,q⟩:=aj q;cases v with
  |int j=>
   dsimp only at q;split at q
   .rename_i c;have i:j.natAbs < 1000000:=aM c;cases q;refine⟨F,m,L,S,_,_,r,l,e,λx C f y d t b=>?_⟩;cases (show x=.int j from b);exact⟨j,rfl,by lia,by lia,k _ C f y d t MV⟩
   .cases q
  |_=>cases q
end
def bG(g:ki)(c:EB)(e:EV):List P->Lc->aA->Option (List P×aA)
 | [],_,S=>some ([],S)
 |v::r,L,S=>match g v L with
  |none=>none
  |some h=>a6 (c h S) λk x=>if k=true then a6 (e h x) λy a=>a6 (bG g c e r h a) λn s=>some (y::n,s) else bG g c e r h x
open Classical in
def g8(ok:aA->Prop)(g:ki)(c:EB)(e:EV):List P->Lc->aA->Option (List P×aA)
 | [],_,S=>if ok S then some ([],S) else none
 | v::r,L,S=>if ok S then (match g v L with
  |none=>none
  |some h=>a6 (c h S) λk x=>if k=true then a6 (e h x) λy a=>a6 (g8 ok g c e r h a) λn s=>some (y::n,s) else g8 ok g c e r h x) else none
theorem sX:∀{T:List P}{L:Lc}{S:aA},g8 (λ_=>True) g c e T L S=bG g c e T L S
 | [],_,_=>af trivial
 |v::r,L,S=>by
  unfold g8 bG;rw[af trivial];cases g v L with
  |none=>rfl
  |some h=>simp only[sX (T:=r)]
noncomputable def lZ(j:List Nat)(n:Nat)(L:List (Option l)):List (Option l):=(j.foldl (λL i=>L.set i none) L)++List.replicate n none
def aX(i:ko)(j:List Nat)(n:Nat)(g:ki)(c:EB)(e:EV):EV:=λL S=>a6 (i L S) λxs h=>if few xs=true then a6 (bG g c e xs (lZ j n L) h) λy x=>some (.lst y,x) else none
@[simp] def dF(_L:Lc)(S:aA):NH:=some (true,S)
theorem io(j:List Nat):∀L:List (Option l),(j.foldl (λL i=>L.set i none) L).length=L.length:=by
 induction j with
 |nil=>intro L;rfl
 |cons t j h=>intro L;rw[gy,h,dn]
theorem tJ(j:List Nat):∀(L:List (Option l))(i:Nat)(d:l),(j.foldl (λL i=>L.set i none) L)[i]? = some (some d)->L[i]? = some (some d)/\i ∉ j:=by
 induction j with
 |nil=>intro L i d h;exact⟨h,by simp⟩
 |cons t j n=>
  intro L i d h;rw[gy]at h;obtain⟨x,a⟩:=n _ _ _ h;by_cases e:t=i
  .subst e;by_cases s:t < L.length
   .rw [cj s]at x;cases x
   .rw [qL (by rw[dn];lia)]at x;cases x
  .rw [aO e]at x;exact⟨x,by simp[a];exact λz=>e z.symm⟩
theorem vI(j:List Nat)(n:Nat)(L:List (Option l)):(lZ j n L).length=L.length+n:=by unfold lZ;rw[bz,io,A0]
theorem BK(h:(lZ j n L)[i]? = some (some d)):L[i]? = some (some d)/\i ∉ j/\i < L.length:=by
 unfold lZ at h;by_cases x:i < L.length
 .rw [bF (by rw[io];exact x)]at h;obtain⟨a,e⟩:=tJ j L i d h;exact⟨a,e,x⟩
 .rw [cy (by rw[io];lia),vr]at h;split at h<;>cases h
variable{J:L2.St}
theorem RL.up(l:RL K F H m J L)(j:List Nat)(n:Nat):RL K F H m (lZ j n J) (lZ j n L):=by
 refine⟨by rw[vI,vI,l.len],λi d h=>?_⟩;obtain⟨a,s,f⟩:=BK h;obtain⟨v,e,r⟩:=l.at' i d a;refine⟨v,?_,r⟩;unfold lZ;rw[bF (by rw[io,l.len];exact f)];have k:∀(j:List Nat)(J:L2.St),i ∉ j->J[i]? = some (some v)->(j.foldl (λL i=>L.set i none) J)[i]? = some (some v):=by
  intro j;induction j with
  |nil=>intro J _ e;exact e
  |cons t j b=>intro J x e;rw[gy];refine b _ (λz=>x (aH _ z)) ?_;rw[aO (λz=>x (by rw[z];exact aF))];exact e
 exact k j J s e
noncomputable def oo(G:Scope)(e:Env):List (Str×Addr):=((G.names.filter λx=>x.2 == .free).map λx=>(x.1,(e.cells.lookup x.1).getD 0)).reverse
def inn(X:Cx)(G:Scope)(q:LS)(s:Shared)(H:Hp)(C:Addr)(f:List Addr):Cx:=
 { X with N:=q,z:=s,y:=H,e:=compEnvC G (oo G X.e) C X.e,o:=X.k,ex:=f,fn:=λ_=>false,pn:=[],xe:=λ_ _=>False }
structure BlockOk(X:Cx)(scope:Scope)(N':LS)(ts:List Nat)(n:Nat):Prop where
 kind:scope.kind=.function
 cell:∀x ∈ scope.names,x.2≠.cell
 loc:∀x ∈ scope.names,x.2=.local->scope.names.lookup x.1=some .local
 fr:∀x ∈ scope.names,x.2=.free->scope.names.lookup x.1=some .free/\(X.e.kindOf x.1=some .cell\/X.e.kindOf x.1=some .free)
 names:X.N=N'.take X.N.length
 more:N'.length=X.N.length+n
 ts:∀x ∈ scope.names,x.2=.local->∀i:Nat,X.N[i]? = some x.1->i ∈ ts
theorem jt:∀{a:List (Str×l)}{x:Str}{v:l},a.lookup x=some v->(x,v) ∈ a
 | [],_,_,h=>by simp at h
 |(y,w)::r,x,v,h=>by
  rw[qF]at h;cases e:x == y with
  |true=>rw[e]at h;cases h;rw[show x=y from by simpa using e];exact aF
  |false=>rw[e]at h;exact aH _ (jt h)
theorem mw:∀{a:List (Str×l)}{x:Str}{v:l},(x,v) ∈ a->∃w,a.lookup x=some w
 | [],_,_,h=>by simp at h
 |(y,w)::r,x,v,h=>by
  rw[qF];cases e:x == y with
  |true=>exact⟨w,rfl⟩
  |false=>
   rcases aQ.mp h with h|h
   .injection h with s _;subst s;simp at e
   .exact mw h
variable{x:Str}
theorem gF(h:(relabel G r).names.lookup x=some k):∃a,(x,a) ∈ G.names/\(k=a\/(k=.cell/\a=.free)):=by
 have m:=jt h;unfold relabel at m;obtain⟨⟨n,a⟩,t,e⟩:=bN.mp m;by_cases c:(a == NameKind.free && r.scope.kind == .function && r.kindOf n == some .cell)=true
 .have s:(n,NameKind.cell)=(x,k):=by simpa[c] using e
  injection s with f b;subst f;rw[av,av]at c;exact⟨a,t,.inr ⟨b.symm,by simpa using c.1.1⟩⟩
 .have s:(n,a)=(x,k):=by simpa[c] using e
  injection s with f b;subst f;exact⟨a,t,.inl b.symm⟩
section
variable{X:Cx}{G:Scope}{q:LS}{j:List Nat}{n:Nat}
theorem BlockOk.cl(B:BlockOk X G q j n)(I:Inv X pins J H s)(h:(oo G X.e).lookup x=some c):X.e.cells.lookup x=some c/\(x,NameKind.free) ∈ G.names:=by
 have t:=jt h;unfold oo at t;obtain⟨⟨y,k⟩,m,e⟩:=bN.mp (AV.mp t);obtain⟨m,hk⟩:=gA.mp m;have r:k=.free:=by simpa using hk
 subst r;injection e with v f;subst v;obtain⟨_,d⟩:=B.fr _ m rfl;obtain⟨p,a⟩:=I.o.has y d;dsimp only at f;rw[a]at f;have b:p=c:=f;subst b;exact⟨a,m⟩
theorem BlockOk.has(B:BlockOk X G q j n)(h:(x,NameKind.free) ∈ G.names):∃c,(oo G X.e).lookup x=some c:=by unfold oo;exact mw (v:=(X.e.cells.lookup x).getD 0) (AV.mpr (bN.mpr ⟨(x,.free),gA.mpr ⟨h,by simp⟩,rfl⟩))
theorem Gn(B:BlockOk X G q j n)(I:Inv X r J H s)(C:s.heap.objs.size≤k)(f:∀b ∈ t,tj X r H b)(w:∀b ∈ t,b < s.heap.objs.size) :
  (inn X G q s H k t).Ok where
 mod:=I.o.mod
 kind:=B.kind
 glob:=I.o.glob
 blt:=I.o.blt
 above:=C
 inj:=λx y c v d=>I.o.inj x y c (B.cl I v).1 (B.cl I d).1
 has:=λx h=>by
  have p:(relabel G X.e).names.lookup x=some .cell\/(relabel G X.e).names.lookup x=some .free:=h;rcases p with h|h
  .obtain⟨u,m,e|⟨_,e⟩⟩:=gF h
   .subst e;exact absurd rfl (B.cell _ m)
   .subst e;exact B.has m
  .obtain⟨u,m,e|⟨e,_⟩⟩:=gF h
   .subst e;exact B.has m
   .cases e
 cab:=λx c h=>nomatch h
 hd:=I.o.hd
 frames:=I.o.frames
 stk:=.inl rfl
 exf:=λb a=>⟨bK (cg (w b a) C),λx c h=>(f b a).2.2.2.2.1 x c (B.cl I h).1⟩
 bs:=I.bs
 bsz:=aI I.o.bsz I.sz
 noex:=λb o e a=>by
  rcases(f b a).2.2.2.1 with z|z
  .exact I.o.noex b o e z
  .exact absurd (cg (aJ (I.o.bs b o e).1) z) (jG _)
 exfs:=λb a z=>by
  rcases aQ.mp (I.stkSub b z) with z|z
  .exact (f b a).2.1 z
  .exact (f b a).2.2.1 z
 funs:=I.stack
 frf:=I.stkFree
theorem _root_.L2.Un.sameBut(u:Un fs r H H' h t)(s:fw k t h2)(C:∀b o,h.get? b=some o->b≠k):Un fs r H H' h h2 where
 keep:=λb o e n a x=>s.extBut b o (C b o e) (u.keep b o e n a x)
 slot:=λb o e n a x=>by obtain⟨l,q⟩:=u.slot b o e n a x;exact⟨l,s.extBut b _ (C b o e) q⟩
 free:=u.free
 there:=λb o e x=>by obtain⟨f,q⟩:=u.there b o e x;exact⟨f,s.extBut b _ (C b o e) q⟩
 tups:=u.tups
 frzs:=u.frzs
 tbls:=u.tbls
theorem _root_.L2.mh.sameBut{P:Program}{w:World}{H:Hp}{h x:Heap}{C:Addr}(ok:mh P w H h)(n:fw C h x)(a:H C=none):mh P w H x:=λb u e=>
 (ok b u e).stay (fun c v s q=>n.extBut c v (by
  rintro rfl;rcases s with z|z
  .subst z;rw[a]at e;cases e
  .rw [a]at z;cases z) q) (λ_ q=>q) λ_ _ q=>q
inductive PIfs(X:Cx):Ab->EB->Prop where
 |none:PIfs X [] dF
 |one {c:Expr}{q:EB}:PT X c (tQ X.K q)->PIfs X [c] q
theorem Kp.bump(x:¬F p)(t:∀xs,H p≠some (.tup xs)):Kp F m H F m (cq H p o):=
 ⟨⟨[],by simp⟩,λ_ h=>h,λb u f h=>by rw[aN (by rintro rfl;exact x f)];exact h,λb xs h=>by rw[aN (by rintro rfl;exact t xs h)];exact h⟩
theorem Stp.bump(s:Stp F m H F' m' H')(x:H p=none):Stp F m H F' m' (cq H' p o) where
 pre:=s.pre
 oth:=λb u h a=>by rw[aN (by rintro rfl;rw[x]at h;cases h)];exact s.oth b u h a
 frz:=s.frz
 frk:=λb u f h=>by rw[aN (by rintro rfl;rw[x]at h;cases h)];exact s.frk b u f h
 tup:=λb xs h=>by rw[aN (by rintro rfl;rw[x]at h;cases h)];exact s.tup b xs h
 trk:=λb h=>by
  by_cases e:b=p
  .subst e;rw[aV];exact λz=>nomatch z
  .rw [aN e];exact s.trk b h
 nf:=s.nf
 nm:=s.nm
theorem Rel.bump(r:Rel K F H m S)(x:¬F p)(s:p ∉ m)(t:∀xs,H p≠some (.tup xs)):Rel K F (cq H p o) m S:=
 r.stayK (Kp.bump x t) (λa u e h=>by rw[aN (by rintro rfl;exact s e)];exact h) (λ_ f=>.inl f) λa f=>by rw[aN (by rintro rfl;exact x f)];exact r.ft a f
theorem Ts:Kp F m H (λb=>F b\/b=p) m H:=⟨⟨[],by simp⟩,λ_ h=>.inl h,λ_ _ _ h=>h,λ_ _ h=>h⟩
theorem Stp.addF(s:Stp F m H F' m' H')(x:H p=none):Stp F m H (λb=>F' b\/b=p) m' H':=
 ⟨s.pre,s.oth,fun b h=>.inl (s.frz b h),s.frk,s.tup,s.trk,fun b h=>by
  rcases h with h|h
  .exact s.nf b h
  .subst h;exact .inr (.inl x),s.nm⟩
theorem Rel.addF(r:Rel K F H m S)(s:p ∉ m)(n:H p≠none):Rel K (λb=>F b\/b=p) H m S where
 len:=r.len
 nd:=r.nd
 obj:=λi a o e x=>(r.obj i a o e x).kp Ts λu h=>h
 sep:=λi a o e x w f=>by
  rcases f with f|f
  .exact r.sep i a o e x w f
  .subst f;exact s (bq e)
 trk:=r.trk
 ft:=λa f=>by
  rcases f with f|f
  .exact r.ft a f
  .subst f;exact n
theorem _root_.L2.Inv.letGo(I:Inv X k J H s)(f:fw h s.heap t)(C:H h=none)(v:X.z.heap.objs.size≤h)(d:h≠X.e.locals)
  (w:∀x c,X.e.cells.lookup x=some c->c≠h) (u:∀p ∈ X.pn++k,p.1≠h):Inv X k J H { s with heap:=t }:=by
 have r:∀b:Addr,b ∉ [h]->b≠h:=λb m z=>m (by simp[z]);refine I.call' (s':={ s with heap:=t }) (q:=[h]) rfl ⟨λb o e _ _ a=>f.extBut b o (r b a) e,λb o e _ _ a=>⟨o.slots,f.extBut b o (r b a) e⟩,λ_ _ _ n _=>n,λb o e a=>⟨o,f.extBut b o (r b a) e⟩,λ_ _ q=>q,λ_ _ _ q=>q,λb g q=>⟨#[],by rw[q];simp⟩⟩ (I.h.sameBut f C) I.bare λb m=>?_;have e:b=h:=by simpa using m
 subst e;exact⟨.inr v,d,w,u⟩
set_option tactic.hygienic true in
theorem DH(I:Nat->Shared->Prop)
  (u:∀n s,I n s->wpAny (model t w) A (pyNext it) (fun r f=>match r with
   |none=>R (.ok .next) f
   | some v=>wpAny (model t w) A (letOwnedTupleGo tg it v) (fun _ d=>wpAny (model t w) A (assign tg k v) (fun _ g=>
     wpAny (model t w) A (forIn ifs true fun c r=>if r=true then do let ok <- isTrue c k (eval c k);pure (ForInStep.yield ok) else pure (ForInStep.yield r)) (fun ok b=>
      if ok=true then wpAny (model t w) A (eval elt k) (fun x i=>
       wpAny (model t w) A (call (.builtin "list.append") [acc,x]) (λ_ j=>∃m,m < n/\I m j) (notedBy (model t w) A k λe a=>R (.error e) a) i) (notedBy (model t w) A k λe a=>R (.error e) a) b
      else ∃m,m < n/\I m b) (notedBy (model t w) A k λe a=>R (.error e) a) g) (notedBy (model t w) A k λe a=>R (.error e) a) d) (notedBy (model t w) A k λe a=>R (.error e) a) f) (notedBy (model t w) A k λe a=>R (.error e) a) s)
  (n:Nat) (h:I n s):codeAny (model t w) A (.compLoop (.ListComp elt [⟨tg,iter,ifs,0⟩] G M) 0 it acc k) R s:=by
 refine codeAny_loop rfl I (λn s S=>?_) n h;show wpAny _ A ((compTurn (.ListComp elt [⟨tg,iter,ifs,0⟩] G M) 0 it acc k).onRaise (λx=>do noteFrame x k;theTreesLotGoes x)) _ _ s;refine wpAny_noted ?_;rw[compTurn_list];refine ae (yo (ae (cM (u n s S) (λr f p=>?_) λ_ _ z=>z)));cases r with
 |none=>exact aC p
 |some v=>
  refine ae (cM p (λ_ d l=>ae (cM l (λ_ g y=>ae (cM y (λok b q=>?_) λ_ _ z=>z)) λ_ _ z=>z)) λ_ _ z=>z);cases ok with
  |false=>exact aC ⟨rfl,q⟩
  |true=>exact ae (ae (cM q (λx i o=>ae (cM o (λ_ j H=>aC (aC ⟨rfl,H⟩)) λ_ _ z=>z)) λ_ _ z=>z))
theorem JZ{H:Heap}{tk:Nat}(B:BlockOk X G q j n)(a:Inv X pins J I k)(C:k.heap.objs.size≤h)(Z:∀b ∈ fp,tj X pins I b)(A:∀b ∈ fp,b < k.heap.objs.size)(l:∀b o,k.heap.get? b=some o->H.get? b=some o)
  (hD:I k.heap.objs.size=none) (D:k.heap.objs.size≠h) (P:I h=none) (d:H.Ns h mC) (s:H.get? k.heap.objs.size=some { cls:=.type "list",dict:=none,data:=.seq ([]:LV).toArray }) :
  Inv (inn X G q k I h fp) [] (lZ j n J) (cq I k.heap.objs.size (.lst [])) { k with heap:=H,toks:=tk }:=by
 refine⟨Gn B a C Z A,rfl,a.bare,Un.laid l (al _) hD,?_,λx c e=>?_,?_,λx c e=>?_,λp hp=>absurd (show p ∈ ([]:PN) from hp) (by simp),?_,?_⟩
 .obtain⟨m0,hn0,E⟩:=a.loc;refine⟨_,d,λi x v T V hv=>?_⟩;obtain⟨S,F,K⟩:=BK V;have t:J.length=X.N.length:=a.len;have N:X.N[i]? = some x:=by
   rw[B.names,ik (by rw[<- t];exact K)];exact T
  have g:(relabel G X.e).names.lookup x=some .local\/(relabel G X.e).names.lookup x=some .cell\/(relabel G X.e).names.lookup x=some .free:=hv;have R:¬(relabel G X.e).names.lookup x=some .local:=λz=>by
   obtain⟨Q,m,e|⟨e,_⟩⟩:=gF z
   .subst e;exact absurd (B.ts _ m rfl i N) F
   .cases e
  have M:(x,NameKind.free) ∈ G.names:=by
   rcases g with z|z|z
   .exact absurd z R
   .obtain⟨Q,m,e|⟨_,e⟩⟩:=gF z
    .subst e;exact absurd rfl (B.cell _ m)
    .subst e;exact m
   .obtain⟨Q,m,e|⟨e,_⟩⟩:=gF z
    .subst e;exact m
    .cases e
  obtain⟨_,r⟩:=B.fr _ M rfl;have L:Nz X.e.scope x:=by
   rcases r with z|z
   .exact .inr (.inl z)
   .exact .inr (.inr z)
  obtain⟨u,ru,lk⟩:=E i x v N S L;refine⟨u,ru,.inr ⟨?_,?_⟩⟩
  .rcases g with z|z|z
   .exact absurd z R
   .exact .inl z
   .exact .inr z
  .rcases lk with ⟨z,_⟩|⟨_,c,W,ic⟩
   .rcases r with y|y
    .rw [z]at y;cases y
    .rw [z]at y;cases y
   .obtain⟨c',f⟩:=B.has M;have:=(B.cl a f).1
    rw[W]at this;cases this;obtain⟨o,w,hd⟩:=ic;exact⟨c,f,o,l c o w,hd⟩
 .obtain⟨v,o,w,hd⟩:=a.cell x c (B.cl a e).1;exact⟨v,o,l c o w,hd⟩
 .show cq I k.heap.objs.size (.lst []) h=none;rw[aN (aS D)];exact P
 .obtain⟨v,o,w,hd⟩:=a.cell x c (B.cl a e).1;rw[aN (bK (aJ w))];exact a.freeC x c (B.cl a e).1
 .exact a.h.laid l (al _) ⟨cQ _,[],0,.nil,s⟩
 .show (lZ j n J).length=q.length;rw[vI,a.len,B.more]
inductive cIv(K:FG)(Y9:Cx)(F1:Aa)(m1:List Addr)(H2:Hp)(A:Addr)(tn:Nat->Heap->Prop)(fp:List Addr)(R:Nat->Nat->Lc->aA->List P->Prop)(ys:List P)(nn:Nat)(sx:Shared):Prop
 |mk (i:Nat) (J':L2.St) (F':Aa) (m':List Addr) (H':Hp) (L':Lc) (S':aA) (acc rest:List P) (xs:List V) (h0_:Inv Y9 [] J' H' sx) (h1_:tn i sx.heap) (h2_:∀b ∈ fp,H' b=none) (h3_:Stp F1 m1 H2 F' m' H') (h4_:Rel K F' H' m' S') (h5_:RL K F' H' m' J' L') (h6_:H' A=some (.lst xs)) (h7_:cX K F' H' acc xs) (h8_:acc.length≤i) (h9_:¬F' A) (ha_:A ∉ m') (hb_:R nn i L' S' rest) (hc_:acc++rest=ys):cIv K Y9 F1 m1 H2 A tn fp R ys nn sx
def TK(K:FG)(ok:aA->Prop)(a:It)(T:List P)(F:Aa)(m:List Addr)(H:Hp):Prop:=∀B s I S,Stp F m H B s I->Rel K B I s S->ok S ->
 (∀(i:Nat) v,T[i]? = some v->a.go i I/\∀x h,a.yld i I x h->∃e,Grow B I e h/\RP K e h v x)/\a.stop T.length I
def tq(X:Cx)(t iter:Expr)(f:EV)(j:List Nat)(n:Nat)(g:ki)(c:EB)(fe:EV):Prop:=∃w,PI X t iter w/\∀J H F m L S d a,Rel X.K F H m S->RL X.K F H m J L->f L S=some (d,a) ->
 ∃ok T x s,d=.lst s/\few T=true/\w J H (λe y=>∃C h,Stp F m H C h y/\Rel X.K C y h x/\TK X.K ok e T C h y)/\g8 ok g c fe T (lZ j n L) x=some (s,a)
set_option tactic.hygienic true in
theorem Qk(i:PI X tg iter (tI X.K fi)):tq X tg iter (aX fi j n g t fe) j n g t fe:=by
 refine⟨_,i,λJ H F m L S d a r l q=>?_⟩;obtain⟨T,x,s,q⟩:=aj q;split at q;case isFalse=>cases q
 rename_i h;obtain⟨w,e,k,q⟩:=aj q;cases q;exact⟨λ_=>True,T,x,w,rfl,h,⟨F,m,L,S,T,x,r,l,s,λu C b y v p f=>⟨C,b,v,p,λB c I a Q _ _=>f B c I Q⟩⟩,by rw[sX];exact k⟩
set_option tactic.hygienic true in
theorem pf 
  (B:BlockOk X G q j n) (hcalm:X.c=true)
  (hi:PI X tg iter wi) (hg:∀s H h Q,PG (inn X G q s H h Q) tg (gT X.K g)) (hc:∀s H h Q,PIfs (inn X G q s H h Q) ifs fc) (he:∀s H h Q,PE (inn X G q s H h Q) elt (tV X.K fe))
  (hclos:closureFor G X.e=pure (oo G X.e)) (hs:∀x,foldedSetIterable iter X.e x=pure x)
  (a:Inv X pins J H s) (r:Rel X.K F H m S) (l:RL X.K F H m J L) (hw:wi J H λJ9 y=>∃C m1,Stp F m H C m1 y/\Rel X.K C y m1 S1/\TK X.K ok J9 T C m1 y) (hfew:few T=true) (e2:g8 ok g fc fe T (lZ j n L) S1=some (ds,S2))
  (fin:∀p F' m' H' sx h xs,Inv X pins J H' sx->Stp F m H F' m' H'->Rel X.K F' H' m' S2->H p=none/\¬F' p/\p ∉ m'/\H' p=some (.lst xs)/\cX X.K F' H' ds xs->H' h=none->X.z.heap.objs.size≤h->h≠X.e.locals->(∀x c,X.e.cells.lookup x=some c->c≠h)->(∀p ∈ X.pn++pins,p.1≠h) ->
   (∃mC,sx.heap.Ns h mC)->compPost (model X.p X.w) X.A X.xe use k (.ref p) h (.ok .next) sx) :
  wx X (comprehension (.ListComp elt [⟨tg,iter,ifs,0⟩] G M) G X.e p2 (newList []) false (eval iter X.e) use) k X.xe s:=by
 refine wpAny_comprehension_free (use:=use) rfl hs hclos B.kind B.loc (c_ (hi pins s J H _ a hw) λxv sA hA=>c_ hA λitv D h2=>?_);obtain⟨it,Q,tn,J9,I,rfl,I2,t,st2,f2,C,m1,s1,r1,itp⟩:=h2;have hfp:∀b ∈ Q,b < D.heap.objs.size:=λb V=>by obtain⟨o,e,_⟩:=t.obj _ _ st2 b V;exact aJ e
 refine rG ?_ (by show 0≤sizeLine;exact cQ _);refine wpAny_newFunctionEnv B.cell (by intro d hy;simp at hy) (λh1 hns1 hsb1=>?_) B.kind;dsimp only at hns1 hsb1 ⊢;have hD:I D.heap.objs.size=none:=I2.h.fresh (al _);generalize hH2:D.heap.push { cls:=.type "list",dict:=none,data:=.seq ([]:LV).toArray }=A at hns1 hsb1 ⊢;have hC:A.objs.size=D.heap.objs.size+1:=by rw[<- hH2,uV]
 have E:D.heap.objs.size≤A.objs.size:=by rw[hC];exact nw _
 have old:∀b o,D.heap.get? b=some o->h1.get? b=some o:=λb o e=>hsb1.extBut b o (bK (cg (aJ e) E)) (ba _ (hH2 ▸ ba _ e));have hDC:D.heap.objs.size≠A.objs.size:=by rw[hC];exact bK (jH _)
 have accO:h1.get? D.heap.objs.size=some { cls:=.type "list",dict:=none,data:=.seq ([]:LV).toArray }:=hsb1.extBut _ _ hDC (ba _ (hH2 ▸ cw _ rfl));have hCn:I A.objs.size=none:=I2.h.fresh E;have hCcell:∀x c,X.e.cells.lookup x=some c->c≠A.objs.size:=λx c e z=>by obtain⟨v,o,ho,_⟩:=I2.cell x c e;exact absurd (aJ ho) (AA.mpr (by rw[z];exact E))
 have hCloc:A.objs.size≠X.e.locals:=cx (cg I2.lt E);have hCpin:∀p ∈ X.pn++pins,p.1≠A.objs.size:=λp hp z=>absurd (aJ (I2.pin p hp).1) (AA.mpr (by rw[z];exact E));have I3:=JZ (tk:=D.toks+([]:List (Str×Value)).length) B I2 E f2 hfp old hD hDC hCn hns1 accO;have okX:=Gn (k:=A.objs.size) B I2 E f2 hfp;have fpH:∀{H':Hp},(∀b ∈ Q,H' b=none)->∀b ∈ Q,tj (inn X G q D I A.objs.size Q) [] H' b:=λhn b V=>
  ⟨hn b V,bK (cg (hfp b V) E),okX.exfs b V,.inl V,(okX.exf b V).2,λp hp=>absurd (show p ∈ ([]:PN) from hp) (by simp)⟩
 have tn1:tn 0 h1:=t.keep _ _ _ st2 λb V o e=>old b o e;have loop:∀s3:Shared,s3={ D with heap:=h1,toks:=D.toks+([]:List (Str×Value)).length } ->
   codeAny (model X.p X.w) X.A (.compLoop (.ListComp elt [⟨tg,iter,ifs,0⟩] G M) 0 (.ref it) (.ref D.heap.objs.size) (compEnvC G (oo G X.e) A.objs.size X.e))
    (compPost (model X.p X.w) X.A X.xe use k (.ref D.heap.objs.size) A.objs.size) s3:=by
  rintro s3 rfl;refine DH (cIv X.K (inn X G q D I A.objs.size Q) C m1 I D.heap.objs.size tn Q (λnn i L' N u=>nn=T.length-i/\i≤T.length/\g8 ok g fc fe (T.drop i) L' N=some (u,S2)) ds) ?_ T.length ?_
  .rintro nn sx ⟨i,J',F',m',H',L',N,acc,u,xs,I',tn',fr',st',r',l',hacc,ra,hal,nF,nm,⟨rfl,hi',R⟩,rfl⟩;by_cases hlt:i < T.length
   .have hv:T[i]? = some T[i]:=by simp[hlt]
    rw[A8 hlt]at R;unfold g8 at R;split at R;case isFalse=>cases R
    rename_i hok;obtain⟨hgo,_⟩:=itp F' m' H' N st' r' hok;obtain⟨hgo1,hy⟩:=hgo i _ hv;refine cM (t.item (inn X G q D I A.objs.size Q) rfl rfl rfl hcalm i [] sx J' H' (λ_ _=>False) I' (fpH fr') tn' hgo1) (λrr sy hr=>?_) (λ_ _ f=>f.elim);obtain⟨w,rfl,hr⟩:=hr;refine cM hr (λ_ sz hz=>?_) (λ_ _ f=>f.elim);obtain⟨x,H3,I4,rx,yl,tn4,fr4⟩:=hz;obtain⟨F3,gr,p3⟩:=hy x H3 yl;have OM:Stp C m1 I F3 m' H3:=st'.trans gr.stp;have r4:=r'.grow gr;have l4:=l'.mono (gr.stp (m:=m'));have acc4:=gr.keep _ _ hacc;have nF4:¬F3 D.heap.objs.size:=λz=>by
     rcases gr.nf _ z with z|⟨z,_⟩
     .exact nF z
     .rw [hacc]at z;cases z
    have I4':=I4.pinned (fpH fr4) (t.obj _ _ tn4);have back:∀{J7:L2.St}{H7:Hp}{s7:Shared},Inv (inn X G q D I A.objs.size Q) ([]++oW Q sz.heap) J7 H7 s7->tn (i+1) s7.heap/\∀b ∈ Q,H7 b=none:=λ{J7 H7 s7} I7=>
     ⟨t.keep _ _ _ tn4 λb V o e=>(I7.pin (b,o) (fV _ (fV _ (kM V e)))).1,λb V=>by obtain⟨o,e,dd⟩:=t.obj _ _ tn4 b V;exact(I7.pin (b,o) (fV _ (fV _ (kM V e)))).2.1⟩
    cases eg:g T[i] L' with
    |none=>rw[eg]at R;cases R
    |some L1=>
     rw[eg]at R;dsimp only at R;obtain⟨kk,S5,e5,R⟩:=aj R;refine cM (hg D I A.objs.size Q _ sz J' H3 x w (λJ5 H5=>H5=H3/\RL X.K F3 H3 m' J5 L1) I4' rx ⟨F3,m',L',T[i],L1,l4,p3,eg,λJ5 l5=>⟨rfl,l5⟩⟩) (λ_ s5 h5=>?_) (λ_ _ f=>f.elim);obtain⟨J5,H5,I5,rfl,l5⟩:=h5;have test:wx X (forIn ifs true λc r=>if r=true then do let ok <- isTrue c (compEnvC G (oo G X.e) A.objs.size X.e) (eval c (compEnvC G (oo G X.e) A.objs.size X.e));pure (ForInStep.yield ok) else pure (ForInStep.yield r))
       (λok s6=>ok=kk/\∃W m6 H6,Inv (inn X G q D I A.objs.size Q) ([]++oW Q sz.heap) J5 H6 s6/\Stp F3 m' H5 W m6 H6/\Rel X.K W H6 m6 S5) (λ_ _=>False) s5:=by
      have hcc:=hc D I A.objs.size Q;cases hcc with
      |none=>cases e5;exact wpAny_tests_nil ⟨rfl,F3,m',H5,I5,.refl,r4⟩
      |one hq=>refine wpAny_tests_one (cM (hq _ s5 J5 H5 (λb H6=>b=kk/\∃W m6,Stp F3 m' H5 W m6 H6/\Rel X.K W H6 m6 S5) I5 ⟨F3,m',L1,N,kk,S5,r4,l5,e5,λW m6 H6 s6 r6=>⟨rfl,W,m6,s6,r6⟩⟩) (λb s6 h6=>?_) λ_ _ f=>f);obtain⟨H6,I6,rfl,W,m6,EW,r6⟩:=h6;exact⟨rfl,W,m6,H6,I6,EW,r6⟩
     refine cM test (λok s6 h6=>?_) (λ_ _ f=>f.elim);obtain⟨rfl,W,m6,H6,I6,EW,r6⟩:=h6;have Z:=EW.oth _ _ acc4 nm;have nm6:D.heap.objs.size ∉ m6:=λz=>by
      rcases EW.nm _ z with z|z
      .exact nm z
      .rw [acc4]at z;cases z
     have nF6:¬W D.heap.objs.size:=λz=>by
      rcases EW.nf _ z with z|z|z
      .exact nF4 z
      .rw [acc4]at z;cases z
      .exact nm z
     have ra6:=cX.mono EW (ra.grow gr);have l6:=l5.mono EW;cases ok with
     |false=>rw[ah bP]at R ⊢;obtain⟨t7,f7⟩:=back I6;exact⟨T.length-(i+1),by lia,i+1,J5,W,m6,H6,L1,S5,acc,u,xs,I6.pins_of λp hp=>absurd hp (by simp),t7,f7,OM.trans EW,r6,l6,Z,ra6,AH hal,nF6,nm6,⟨rfl,hlt,R⟩,rfl⟩
     |true=>
      rw[af rfl]at R ⊢;obtain⟨d,S8,e8,R⟩:=aj R;obtain⟨zs,S9,e9,R⟩:=aj R;cases R;refine cM (he D I A.objs.size Q _ s6 J5 H6 (λv8 H8=>∃F8 m8,Stp W m6 H6 F8 m8 H8/\Rel X.K F8 H8 m8 S8/\RP X.K F8 H8 d v8) I6 ⟨W,m6,L1,S5,d,S8,r6,l6,e8,λv8 F8 m8 H8 s8 r8 p8=>⟨F8,m8,s8,r8,p8⟩⟩) (λu8 s8 h8=>?_) (λ_ _ f=>f.elim);obtain⟨v8,H8,I8,rv8,F8,m8,st8,r8,p8⟩:=h8;have acc8:=st8.oth _ _ Z nm6;have nm8:D.heap.objs.size ∉ m8:=λz=>by
       rcases st8.nm _ z with z|z
       .exact nm6 z
       .rw [Z]at z;cases z
      have nF8:¬F8 D.heap.objs.size:=λz=>by
       rcases st8.nf _ z with z|z|z
       .exact nF6 z
       .rw [Z]at z;cases z
       .exact nm6 z
      have ra8:=cX.mono st8 ra6;have nt8:∀zs,H8 D.heap.objs.size≠some (.tup zs):=λzs z=>by rw[acc8]at z;cases z
      have hl8:xs.length < sizeLine:=by have h9:T.length≤1000000:=aM hfew;rw[<- ra8.length];exact cg (kC hal hlt) (aI h9 (by decide))
      refine cM (uj (X:=inn X G q D I A.objs.size Q) _ s8 J5 H8 (.ref D.heap.objs.size) [v8] (.ref D.heap.objs.size) [u8] (λ_ H9=>H9=cq H8 D.heap.objs.size (.lst (xs++[v8]))) I8 rfl (.cons rv8 .nil) ⟨_,xs,v8,rfl,rfl,acc8,hl8,rfl⟩) (λ_ s9 h9=>?_) (λ_ _ f=>f.elim);obtain⟨_,H9,I9,_,rfl⟩:=h9;obtain⟨t9,f9⟩:=back I9;have kb:Kp F8 m8 H8 F8 m8 (cq H8 D.heap.objs.size (.lst (xs++[v8]))):=Kp.bump nF8 nt8;have st9:Stp C m1 I F8 m8 (cq H8 D.heap.objs.size (.lst (xs++[v8]))):=(OM.trans (EW.trans st8)).bump hD;have l9:RL X.K F8 (cq H8 D.heap.objs.size (.lst (xs++[v8]))) m8 J5 L1:=⟨l6.len,λK dd e=>by obtain⟨v,e1,rr⟩:=(l6.mono st8).at' K dd e;exact⟨v,e1,RD.kp kb rr⟩⟩
      exact⟨T.length-(i+1),by lia,i+1,J5,F8,m8,_,L1,S8,acc++[d],zs,xs++[v8],I9.pins_of fun p hp=>absurd hp (by simp),t9,f9,st9,r8.bump nF8 nm8 nt8,l9,aV,
       cX.kp kb (ra8.append ⟨v8,[],rfl,p8,rfl⟩),by rw[bz];exact Nat.succ_le_succ hal,nF8,nm8,⟨rfl,hlt,e9⟩,by simp⟩
   .have e:i=T.length:=by lia
    subst e;rw[qE]at R;unfold g8 at R;split at R;case isFalse=>cases R
    rename_i hok;cases R;obtain⟨_,hstop⟩:=itp F' m' H' _ st' r' hok;refine cM (t.done (inn X G q D I A.objs.size Q) rfl rfl rfl hcalm T.length [] sx J' H' (λ_ _=>False) I' (fpH fr') tn' hstop) (λrr sy hr=>?_) (λ_ _ f=>f.elim);obtain⟨rfl,I5⟩:=hr;rw[eA] at *
    have Iout:Inv X pins J H' sy:=I2.call' (q:=Q) I5.os I5.base I5.h I5.bare λb V=>⟨(f2 b V).2.2.2.1,(f2 b V).2.1,(f2 b V).2.2.2.2.1,(f2 b V).2.2.2.2.2⟩;have hD0:H D.heap.objs.size=none:=by
     cases P:H D.heap.objs.size with
     |none=>rfl
     |some o=>exact absurd hD (s1.trk _ (by rw[P];exact λz=>nomatch z))
    have hCH:H' A.objs.size=none:=I5.free;obtain⟨mC,hmC,_⟩:=I5.loc;exact fin D.heap.objs.size F' m' H' sy A.objs.size xs Iout (s1.trans st') r' ⟨hD0,nF,nm,hacc,ra⟩ hCH (aI I2.sz E) hCloc hCcell hCpin ⟨mC,hmC⟩
  .exact⟨0,_,C,m1,_,lZ j n L,S1,[],ds,[],I3,tn1,λb V=>by rw[aN (bK (hfp b V))];exact(f2 b V).1,(cB hD).stp,r1.grow (cB hD),((l.mono s1).mono (cB hD).stp).up j n,aV,rfl,cQ _,r1.fresh_F hD,r1.fresh_m hD,⟨rfl,cQ _,by rw[qC];exact e2⟩,rfl⟩
 exact codeAny_compStart_list (loop _ rfl) (t.self X.A 0 _ _ _ tn1 (loop _ rfl))
theorem x8(Q:Stp F m H F' m' H')(r:Rel K F' H' m' S)(f:H p=none/\¬F' p/\p ∉ m'/\H' p=some (.lst xs)/\cX K F' H' k xs) :
  Stp F m H (λb=>F' b\/b=p) m' H'/\Rel K (λb=>F' b\/b=p) H' m' S/\RP K (λb=>F' b\/b=p) H' (.lst k) (.ref p):=by
 obtain⟨x,e,n,h,a⟩:=f;exact⟨Q.addF x,r.addF n (by rw[h];exact λz=>nomatch z),_,xs,rfl,⟨.inr rfl,h⟩,cX.kp (m:=m') Ts a⟩
theorem Oi(B:BlockOk X G q j n)(c:X.c=true)
  (W:tq X tg iter f j n g fc fe) (hg:∀s H C e,PG (inn X G q s H C e) tg (gT X.K g)) (V:∀s H C e,PIfs (inn X G q s H C e) ifs fc) (Z:∀s H C e,PE (inn X G q s H C e) t (tV X.K fe))
  (o:closureFor G X.e=pure (oo G X.e)) (hs:∀x,foldedSetIterable iter X.e x=pure x:=by intro _;rfl) :
  PE X (.ListComp t [⟨tg,iter,ifs,0⟩] G M) (tV X.K f):=by
 intro i s J H h I ⟨F,m,L,S,d,N,r,l,a,k⟩;rw[Bq];obtain⟨wi,hi,W⟩:=W;obtain⟨ok,T,S1,ds,rfl,w,hw,K⟩:=W J H F m L S d N r l a;refine pf B c hi hg V Z o hs I r l hw w K λp F' m' H' sx C xs v Q r' f R P A D E hz=>?_
 obtain⟨mC,b⟩:=hz;obtain⟨u,y,z⟩:=x8 Q r' f;exact⟨mC,b,λh' sb=>⟨.ref p,H',v.letGo sb R P A D E,rfl,k _ _ m' H' u y z⟩⟩
@[simp] def iF(f:EV)(L:Lc)(S:aA):tw:=a6 (f L S) λv h=>match v with
 | .lst d=>some (.ref h.length,h++[.lst (d.map .p)])
 |_=>none
theorem G0(Q:Stp F m H F' m' H')(r:Rel K F' H' m' S)(f:H p=none/\¬F' p/\p ∉ m'/\H' p=some (.lst xs)/\cX K F' H' ds xs) :
  Stp F m H F' (m'++[p]) H'/\Rel K F' H' (m'++[p]) (S++[.lst (ds.map .p)]):=by
 obtain⟨q,g,j,c,l⟩:=f;have d:Kp F' m' H' F' (m'++[p]) H':=⟨⟨[p],rfl⟩,λ_ h=>h,λ_ _ _ h=>h,λ_ _ h=>h⟩;have lt:∀{i:Nat}{a:Addr},(m'++[p])[i]? = some a->i < m'.length\/(i=m'.length/\a=p):=λ{i a} e=>by
  rcases AC i m'.length with h|h
  .exact .inl h
  .rw [cy h]at e;have v:i-m'.length=0:=by
    rcases AJ (i-m'.length) with z|z
    .exact z
    .rw [qL (by simp;lia)]at e;cases e
   rw[v]at e;exact .inr ⟨by lia,by simpa using e.symm⟩
 refine⟨⟨?_,Q.oth,Q.frz,Q.frk,Q.tup,Q.trk,Q.nf,λb t=>?_⟩,⟨by rw[bz,bz,r.len];rfl,?_,λi a o s x=>?_,λi a o s x w=>?_,λa k=>?_,r.ft⟩⟩
 .obtain⟨n,e⟩:=Q.pre;exact⟨n++[p],by rw[e,eD]⟩
 .rcases cI.mp t with t|t
  .exact Q.nm b t
  .have:b=p:=by simpa using t
   subst this;exact .inr q
 .rw [nD];refine⟨r.nd,by simp,λa k b t e=>?_⟩;have:b=p:=by simpa using t
  subst this;subst e;exact j k
 .rcases lt s with h|⟨h,rfl⟩
  .rw [bF h]at s;rw[bF (by rw[<- r.len];exact h)]at x;exact(r.obj i a o s x).kp d λu z=>z
  .subst h;rw[r.len,cy (al _)]at x;simp at x;subst x;exact⟨xs,c,dB.ofP l⟩
 .rcases lt s with h|⟨h,rfl⟩
  .rw [bF h]at s;rw[bF (by rw[<- r.len];exact h)]at x;exact r.sep i a o s x w
  .exact g
 .rcases cI.mp k with k|k
  .exact r.trk a k
  .have:a=p:=by simpa using k
   subst this;rw[c];exact λz=>nomatch z
theorem Ll(B:BlockOk X G q j n)(c:X.c=true)
  (W:tq X tg iter f j n g fc fe) (hg:∀s H C e,PG (inn X G q s H C e) tg (gT X.K g)) (hc:∀s H C e,PIfs (inn X G q s H C e) ifs fc) (he:∀s H C e,PE (inn X G q s H C e) t (tV X.K fe))
  (o:closureFor G X.e=pure (oo G X.e)) (hs:∀x,foldedSetIterable iter X.e x=pure x:=by intro _;rfl) :
  PE X (.ListComp t [⟨tg,iter,ifs,0⟩] G M) (tE X.K (iF f)):=by
 intro i s J H h I ⟨F,m,L,S,d,N,r,l,a,k⟩;rw[Bq];obtain⟨v,z,A,a⟩:=aj a;obtain⟨wi,hi,W⟩:=W;obtain⟨ok,T,S3,ds,rfl,w,hw,D⟩:=W J H F m L S v z r l A;cases a;refine pf B c hi hg hc he o hs I r l hw w D λp F' m' H' sx C xs y Q u f hC E R V Z hz=>?_
 obtain⟨mC,b⟩:=hz;obtain⟨K,P⟩:=G0 Q u f;refine⟨mC,b,λh' sb=>⟨.ref p,H',y.letGo sb hC E R V Z,rfl,k _ F' _ H' K P ⟨p,rfl,?_⟩⟩⟩;rw[<- u.len,cy (al _)];simp
set_option tactic.hygienic true in
theorem N_(i:Nat)(hN:X.N.Nodup)(B:BlockOk X G q j n)(c:X.c=true)
  (W:tq X tg iter f j n g fc fe) (hg:∀s H C b,PG (inn X G q s H C b) tg (gT X.K g)) (hc:∀s H C b,PIfs (inn X G q s H C b) ifs fc) (he:∀s H C b,PE (inn X G q s H C b) t (tV X.K fe))
  (o:closureFor G X.e=pure (oo G X.e)) (E:swapsWith (.ListComp t [⟨tg,iter,ifs,0⟩] G M) (some (.Name x px)) spos.line X.e=pure true:=by rfl)
  (hs:∀x,foldedSetIterable iter X.e x=pure x:=by intro _;rfl) (P:X.N[i]? = some x:=by rfl) (hx:Loc X.e.scope x:=by first|exact Or.inl rfl|exact Or.inr rfl)
  (hf:X.fn x=true\/X.e.scope.names.lookup x=some .local:=by first|exact .inl rfl|exact .inr rfl|assumption) :
  PS X (.Assign [.Name x px] (.ListComp t [⟨tg,iter,ifs,0⟩] G M) spos) (mO X.K (aq i (U f))):=by
 intro z s J H D I ⟨F,m,L,S,fl,L',N,r,l,h,k⟩;obtain⟨d,S1,e1,h⟩:=aj h;cases h;obtain⟨v,S2,e2,e3⟩:=aj e1;cases e3;rw[exec_Assign_Name_used _ _ _ _ E];refine ae (yo (ae ?_));show wpAny _ _ (do let _ <- comprehension (.ListComp t [⟨tg,iter,ifs,0⟩] G M) G X.e _ (newList []) false (eval iter X.e) (some (assign (.Name x px) X.e))) _ _ s;obtain⟨wi,hi,W⟩:=W;obtain⟨ok,T,S3,ds,rfl,u,hw,e4⟩:=W J H F m L S v _ r l e2;refine ae (cM (pf (use:=some (assign (.Name x px) X.e)) (k:=λ_ R=>SP X z D .next R) B c hi hg hc he o hs I r l hw u e4 λp F' m' H' sx C xs I' Z r0 f hC h0 h1 h2 h3 hz=>?_) (λ_ R hq=>aC (aC hq)) λ_ _ e=>e);obtain⟨mC,A⟩:=hz;obtain⟨Q,r',rp⟩:=x8 Z r0 f;refine DY (ud I' hN P hx (v:=.ref p) rfl (λR K y=>?_) hf);refine⟨mC,?_,λh' sb=>⟨_,H',K.letGo sb hC h0 h1 h2 h3,k _ _ m' H' Q r' ((l.mono Q).set (d:=.p (.lst ds)) rp i)⟩⟩;obtain⟨a,V,w⟩:=y;refine A.sameBut V ?_;rcases w with w|w
 .rw [w];exact h1
 .exact aS (h2 x a w)
end
end Ev
set_option tactic.hygienic true
namespace Ev
open PySem PySem.Spec PyProof.Rows L2
section
variable{X:Cx}{a b e:Expr}{es:Ab}{C t:EV}{fs:ko}{N p:Pos}
noncomputable def zx:P->Option P
 | .int i=>some (.int (-i))
 |_=>none
theorem Rs(f:PE X a (tV X.K C)):PE X (.UnaryOp .USub a N) (tV X.K (NG zx C)):=(O2 Lr f).imp' λJ H Q z=>by
 obtain⟨F,m,L,S,d,t,r,l,q,k⟩:=z;obtain⟨x,w,n,q⟩:=aj q;cases x with
 |int i=>cases q;exact⟨F,m,L,S,_,_,r,l,n,λv h b e s c p=>⟨i,p,k _ h b e s c rfl⟩⟩
 |_=>cases q
noncomputable def lI:List P->Option P
 | [.int i]=>some (.int i)
 | [.bl b]=>some (.int (if b then 1 else 0))
 |_=>none
theorem C4{K:FG}{F:Aa}{H:Hp}{d:P}{xs:List V}(r:cX K F H [d] xs):∃x,xs=[x]/\RP K F H d x:=by obtain⟨x,h,rfl,p,a⟩:=r;cases (show h=[] from a);exact⟨x,rfl,p⟩
theorem J2:fL X (.type "int") (rC X.K lI):=by
 intro B s J H xs u Q I r h;obtain⟨F,e,d,f,a,q,k⟩:=h;unfold lI at q;split at q
 .cases q;obtain⟨x,rfl,p⟩:=C4 a;exact uB B s J H _ u Q I r (.inl ⟨_,by rw[show x=_ from p],k _ F H .refl rfl⟩)
 .cases q;obtain⟨x,rfl,p⟩:=C4 a;exact uB B s J H _ u Q I r (.inr ⟨_,by rw[show x=_ from p],k _ F H .refl rfl⟩)
 .cases q
noncomputable def my:EE:=λ_ S=>some (.ref S.length,S++[.dct [] []])
theorem Ey:PE X (.Dict [] [] N) (tE X.K my):=Fw.imp' λJ H Q z=>by obtain⟨F,m,L,S,d,x,r,l,q,k⟩:=z;cases q;intro p h;refine k (.ref p) F (m++[p]) _ (fA h) (r.own h ⟨[],aV,rfl,rfl⟩) ⟨p,rfl,?_⟩;rw[<- r.len,cy (al _)];simp
noncomputable def p9(k:cu)(v:D):List cu->List D->List cu×List D
 |h::s,w::x=>if h=k then (h::s,v::x) else (h::(p9 k v s x).1,w::(p9 k v s x).2)
 |_,_=>([k],[v])
noncomputable def mU(d:D)(S:aA):Option (Nat×List cu×List D):=match d with
 | .ref i=>match S[i]? with
  |some (.dct k T)=>some (i,k,T)
  |_=>none
 |_=>none
theorem vZ(h:mU v S=some (i,u,T)):v=.ref i/\S[i]? = some (.dct u T):=by
 unfold mU at h;split at h
 .split at h
  .rename_i e;cases h;exact⟨rfl,e⟩
  .cases h
 .cases h
def w8(o:EE)(k v:EV):ES:=λL S=>a6 (v L S) λy x=>a6 (o L x) λd a=>a6 (k L a) λz h=>match mU d h,db z with
 |some (i,s,T),some e=>if (s.Nodup/\few s=true) then some (.nx,L,h.set i (.dct (p9 e (.p y) s T).1 (p9 e (.p y) s T).2)) else none
 |_,_=>none
theorem uh{K:FG}{F:Aa}{H:Hp}{m:List Addr}{k:cu}{y:D}{u:V}(b:RD K F H m y u):∀{v:List (cu×V)}{s:List D},(v.map (·.1)).Nodup->dB K F H m s (v.map (·.2)) ->
  (putK v k u).map (·.1)=(p9 k y (v.map (·.1)) s).1/\dB K F H m (p9 k y (v.map (·.1)) s).2 ((putK v k u).map (·.2))
 | [],s,_,r=>by have:s=[]:=i7 r.length;subst this;exact⟨rfl,u,[],rfl,b,rfl⟩
 |(h,w)::v,[],_,r=>by have:=r.length;simp at this
 |(h,w)::v,d::s,g,r=>by
  obtain⟨x,E,e,C,i⟩:=r;rw[aG]at e g;injection e with j o;subst j;subst o;obtain⟨t,p⟩:=ci.mp g;simp only[aG,p9];by_cases hk:h=k
  .subst hk;rw[af rfl];have n:putK ((h,w)::v) h u=(h,u)::v:=by
    unfold putK;rw[af (by simp)];rw[aG,af rfl];congr 1;have:∀l:List (cu×V),h ∉ l.map (·.1)->l.map (λa=>if a.1=h then (a.1,u) else a)=l:=by
     intro l;induction l with
     |nil=>intro _;rfl
     |cons q l B=>
      intro f;rw[aG]at f;have S:¬q.1=h:=λz=>f (by rw[<- z];exact aF)
      rw[aG,ah S,B λz=>f (aH _ z)]
    exact this v t
   rw[n];exact⟨rfl,u,_,rfl,b,i⟩
  .rw [ah hk];obtain⟨P,A⟩:=uh b p i;have n:putK ((h,w)::v) k u=(h,w)::putK v k u:=by
    unfold putK;rw[dI,be (show ¬(h,w).1=k from hk),nH];by_cases c:(v.any λa=>decide (a.1=k))=true
    .rw [af c,af c,aG,ah (show ¬(h,w).1=k from hk)]
    .rw [ah c,ah c];rfl
   rw[n,aG,aG,P];exact⟨rfl,w,_,rfl,C,A⟩
theorem Q'{o i g:Expr}{h:EE}{k z:EV}{G:Pos}(hu:X.A.units+1 < cLine)(ho:PE X o (tE X.K h))(hi:PE X i (tV X.K k))(hv:PE X g (tV X.K z))(hs:swapsWith g (some (.Subscript o i G)) N.line X.e=pure false:=by rfl) :
  PS X (.Assign [.Subscript o i G] g N) (mO X.K (w8 h k z)):=(BY hu ho hi hv hs).imp' λD J H hz=>by
 obtain⟨F,m,L,S,fl,L',S',r,l,q,e⟩:=hz;obtain⟨y,I,e1,q⟩:=aj q;obtain⟨d,M,e2,q⟩:=aj q;obtain⟨s,Q,e3,q⟩:=aj q;refine⟨F,m,L,S,y,I,r,l,e1,λv E Z H1 p r1 p1=>?_⟩;refine⟨E,Z,L,I,d,M,r1,l.mono p,e2,λx F2 m2 H2 u r2 p2=>?_⟩;refine⟨F2,m2,L,M,s,Q,r2,(l.mono p).mono u,e3,λw b m3 c K C p3=>?_⟩;cases A:mU d Q with
 |none=>rw[A]at q;cases q
 |some t=>
  obtain⟨j,ks,T⟩:=t;rw[A]at q;cases P:db s with
  |none=>rw[P]at q;cases q
  |some f=>
   rw[P]at q;dsimp only at q;split at q
   .rename_i W;cases q;obtain⟨rfl,es⟩:=vZ A;obtain⟨a,rfl,B⟩:=RD.mono K p2;obtain⟨n,V,hk,rs⟩:=C.obj j a _ B es;subst hk;have pv:RD X.K b c m3 (.p y) v:=RD.mono K (RD.mono u (show RD X.K E H1 Z (.p y) v from p1));obtain⟨h1,h2⟩:=uh (k:=f) pv W.1 rs;cases (ju P p3);have nt:∀zs,c a≠some (.tup zs):=λzs s=>by rw[V]at s;cases s
    have st:Stp b m3 c b m3 (cq c a (.dK (putK n f v))):=gC C B es trivial nt;have hl:n.length < sizeLine:=by have R:(n.map (·.1)).length≤1000000:=aM W.2;rw[aZ]at R;exact kC R (by decide)
    refine⟨a,_,rfl,ye.k V hl,?_⟩;exact e J b m3 _ (p.trans (u.trans (K.trans st))) (C.set B es trivial nt ⟨_,aV,h1,dB.mono st h2⟩) (((l.mono p).mono u).mono (K.trans st))
   .cases q
end
section
variable{X:Cx}{a b c e:Expr}{es:Ab}{C t r:EV}{fs:ko}{N p:Pos}
abbrev zA:P->P->Option P:=Tw
theorem Pn(_:X.A.units+1 < cLine):qd X (compareOp .Eq) zA:=Sg
@[simp] def fK(a:EV)(L:Lc)(S:aA):EG:=a6 (a L S) λv h=>match v with
 | .lst xs=>some (xs,h)
 | .ro xs=>some (xs,h)
 | .tup xs=>some (xs,h)
 |_=>none
theorem iS{M iter:Expr}(h:PE X iter (tV X.K C)):PI X M iter (tI X.K (fK C)):=by
 intro B s J H R I ⟨F,m,L,S,T,W,r,l,q,k⟩;obtain⟨v,z,Z,q⟩:=aj q;refine c_ (h B s J H (λx n=>∃c w,Stp F m H c w n/\Rel X.K c n w z/\RP X.K c n v x) I ⟨F,m,L,S,v,z,r,l,Z,λx c w n f A j=>⟨c,w,f,A,j⟩⟩) λu f P=>?_
 obtain⟨x,n,t,G,c,w,st,A,j⟩:=P;have mk:∀{D:It},NF X.K D T c w n->z=W->R D n:=λit e=>by subst e;exact k _ c w n st A it
 have i:∀{a:Addr}{xs:List V},x=.ref a->g0 X.K n a xs->R (Qz X.K a) n->wx X (pyIter u) (Qv X B J M R) X.xe f:=λ{a xs} e hq q=>by
  subst e;cases G;obtain⟨g,rv,p,P⟩:=t.list hq;refine yy p.isList ?_;refine⟨f.heap.objs.size,[f.heap.objs.size],_,_,n,rfl,t.kept (t':=f.toks) λb o e=>ba _ e,ub a _,⟨_,cw _ rfl,rfl,rfl⟩,λb K=>?_,q⟩;have e:b=f.heap.objs.size:=by simpa using K
  subst e;exact t.fpOk (al _) (t.h.fresh (al _))
 cases v with
 |lst E=>cases q;obtain⟨a,xs,rfl,d,y⟩:=j;exact i rfl d.sq (mk (F_ (λN m2 Q s=>(d.kp s.kp).sq) y) rfl)
 |ro E=>cases q;obtain⟨a,xs,rfl,d,y⟩:=j;exact i rfl d.sq (mk (F_ (λN m2 Q s=>(d.kp s.kp).sq) y) rfl)
 |tup E=>
  cases q;obtain⟨a,xs,rfl,d,y⟩:=j;cases G;obtain⟨g,rv,pp,P⟩:=t.tuple d.sq;refine D2 (show f.heap.IsTuple a g.toArray from pp) ?_;refine⟨f.heap.objs.size,[f.heap.objs.size],_,_,n,rfl,t.kept (t':=f.toks) λb o e=>ba _ e,yM a _,⟨_,cw _ rfl,rfl,rfl⟩,λb K=>?_,mk (MU d y) rfl⟩;have e:b=f.heap.objs.size:=by simpa using K
  subst e;exact t.fpOk (al _) (t.h.fresh (al _))
 |_=>cases q
end
section
variable{X:Cx}{N p:Pos}
noncomputable abbrev DE:=List (Str×EV)
end
noncomputable def cm:Nat->P->Bool
 |_,.non=>true
 |_,.bl _=>true
 |_,.int _=>true
 |_,.str x=>az x
 |n+1,.tup xs=>xs.all (cm n)
 |n+1,.lst xs=>xs.all (cm n)
 |n+1,.ro xs=>xs.all (cm n)
 |_,_=>false
variable{n:Nat}
theorem qY:∀{s:List P},(∀d ∈ s,(pd d).canLay0=true/\(pd d).depth≤n)->wO (jD s)=true/\rN (jD s)≤n
 | [],_=>⟨rfl,cQ _⟩
 |d::r,h=>by obtain⟨⟨p,a⟩,q⟩:=List.forall_mem_cons.mp h;obtain⟨x,e⟩:=qY q;exact⟨by simp only[jD,wO,p,x,Bool.and_self],by simp only[jD,rN];lia⟩
theorem eX:∀(n:Nat)(p:P),cm n p=true->(pd p).canLay0=true/\(pd p).depth≤n
 |_,.non,_=>⟨rfl,cQ _⟩
 |_,.bl _,_=>⟨rfl,cQ _⟩
 |_,.int _,_=>⟨rfl,cQ _⟩
 |n,.str x,h=>⟨by cases n<;>exact h,cQ _⟩
 |n,.dct _ _,h=>by cases n<;>cases h
 |0,.tup _,h=>by cases h
 |0,.lst _,h=>by cases h
 |0,.ro _,h=>by cases h
 |n+1,.tup s,h=>by obtain⟨a,b⟩:=qY λd hd=>eX n d (bw.mp h d hd);exact⟨a,by simp only[pd,t3];lia⟩
 |n+1,.lst s,h=>by obtain⟨a,b⟩:=qY λd hd=>eX n d (bw.mp h d hd);exact⟨a,by simp only[pd,t3];lia⟩
 |n+1,.ro s,h=>by obtain⟨a,b⟩:=qY λd hd=>eX n d (bw.mp h d hd);exact⟨a,by simp only[pd,t3];lia⟩
theorem kK(h:cm 20 p=true):Ax (pd p)=true:=by obtain⟨x,a⟩:=eX 20 p h;unfold Ax;rw[x,Be];exact fR (by lia)
section
variable{X:Cx}{B:PN}{J:L2.St}{H:Hp}{s:Shared}{F:Aa}
theorem jM(o:∀{p:P}{v:V}{u:Value},RP X.K F H p v->RelV v u->cm n p=true->∃a,Reads s.heap u (pd p) a) :
  ∀{k:List P}{xs:List V}{f:LV},cX X.K F H k xs->bb xs f->(∀d ∈ k,cm n d=true)->∃a,ReadsAll s.heap f (jD k) a
 | [],xs,f,r,v,_=>by cases (show xs=[] from r);cases v;exact⟨_,.nil⟩
 |d::k,xs,f,r,v,h=>by
  obtain⟨x,w,rfl,p,r⟩:=r;cases v with
  |cons t m=>obtain⟨a,q⟩:=o p t (h d (.head _));obtain⟨bs,c⟩:=jM o r m λe b=>h e (.tail _ b);exact⟨_,.cons q c⟩
theorem gG(I:Inv X B J H s):∀(n:Nat){p:P}{v:V}{u:Value},RP X.K F H p v->RelV v u->cm n p=true->∃w,Reads s.heap u (pd p) w:=by
 intro n;induction n with
 |zero=>
  intro p v u r k h;cases p with
  |non=>cases (show v=.non from r);cases k;exact⟨_,.none⟩
  |bl b=>cases (show v=.bl b from r);cases k;exact⟨_,.bool b⟩
  |int i=>cases (show v=.int i from r);obtain⟨t,rfl⟩:=k;exact⟨_,.int i t⟩
  |str x=>cases (show v=.str x from r);obtain⟨t,rfl⟩:=k;exact⟨_,.str x t⟩
  |_=>simp[cm]at h
 |succ n y=>
  intro p v u r k h;cases p with
  |non=>cases (show v=.non from r);cases k;exact⟨_,.none⟩
  |bl b=>cases (show v=.bl b from r);cases k;exact⟨_,.bool b⟩
  |int i=>cases (show v=.int i from r);obtain⟨t,rfl⟩:=k;exact⟨_,.int i t⟩
  |str x=>cases (show v=.str x from r);obtain⟨t,rfl⟩:=k;exact⟨_,.str x t⟩
  |dct K T=>simp[cm]at h
  |tup z=>obtain⟨a,xs,rfl,l,j⟩:=r;cases k;obtain⟨g,f,⟨o,e,c,m,d⟩,S⟩:=I.tuple l.sq;obtain⟨w,q⟩:=jM y j f (by simpa[cm] using h);rw[pd];exact⟨w,reads_tuple_at e c d (by simpa using q)⟩
  |lst z=>obtain⟨a,xs,rfl,l,j⟩:=r;cases k;obtain⟨g,f,⟨o,m,e,c,_,d⟩,S⟩:=I.list l.sq;obtain⟨w,q⟩:=jM y j f (by simpa[cm] using h);rw[pd];exact⟨_,uU e c d (by simpa using q)⟩
  |ro z=>obtain⟨a,xs,rfl,l,j⟩:=r;cases k;obtain⟨g,f,⟨o,m,e,c,_,d⟩,S⟩:=I.list l.sq;obtain⟨w,q⟩:=jM y j f (by simpa[cm] using h);rw[pd];exact⟨_,uU e c d (by simpa using q)⟩
end
noncomputable def pY(f:D->Option P):List D->Option (List P)
 | []=>some []
 |d::r=>(f d).bind λv=>(pY f r).map λT=>v::T
def eQ(S:aA):Nat->D->Option P
 |_,.p v=>some v
 |0,.ref _=>none
 |n+1,.ref i=>match S[i]? with
  |some (.lst d)=>(pY (eQ S n) d).map .lst
  |some (.fz v)=>some v
  |_=>none
@[simp] theorem yU(S:aA)(n:Nat)(v:P):eQ S n (.p v)=some v:=by cases n<;>rfl
theorem B9(S:aA)(n:Nat):∀T:List P,pY (eQ S n) (T.map .p)=some T
 | []=>rfl
 |v::r=>by simp[pY,B9 S n r]
section
variable{X:Cx}{B:PN}{J:L2.St}{H:Hp}{s:Shared}{F:Aa}{m:List Addr}{S:aA}
theorem sC(o:∀{d:D}{v:V}{u:Value}{p:P},RD X.K F H m d v->RelV v u->eQ S n d=some p->cm a0 p=true->∃b,Reads s.heap u (pd p) b) :
  ∀{f:List D}{xs:List V}{c:LV}{k:List P},dB X.K F H m f xs->bb xs c->pY (eQ S n) f=some k->(∀d ∈ k,cm a0 d=true)->∃b,ReadsAll s.heap c (jD k) b
 | [],xs,c,k,r,v,q,_=>by cases (show xs=[] from r);cases v;cases q;exact⟨_,.nil⟩
 |d::f,xs,c,k,r,v,q,h=>by
  obtain⟨x,K,rfl,p,r⟩:=r;obtain⟨y,i,q⟩:∃a,eQ S n d=some a/\(pY (eQ S n) f).map (λT=>a::T)=some k:=by
   cases e:eQ S n d with
   |none=>simp[pY,e]at q
   |some a=>exact⟨a,rfl,by simpa[pY,e] using q⟩
  obtain⟨A,j,rfl⟩:∃a,pY (eQ S n) f=some a/\k=y::a:=by
   cases e:pY (eQ S n) f with
   |none=>rw[e]at q;cases q
   |some a=>rw[e]at q;cases q;exact⟨a,rfl,rfl⟩
  cases v with
  |cons z l=>obtain⟨b,g⟩:=o p z i (h y (.head _));obtain⟨bs,t⟩:=sC o r l j λe w=>h e (.tail _ w);exact⟨_,.cons g t⟩
theorem ff(I:Inv X B J H s)(y:Rel X.K F H m S):∀(n k:Nat){d:D}{v:V}{u:Value}{p:P},RD X.K F H m d v->RelV v u->eQ S n d=some p->cm k p=true->∃b,Reads s.heap u (pd p) b:=by
 intro n;induction n with
 |zero=>
  intro k d v u p r x q h;cases d with
  |p w=>rw[yU]at q;cases q;exact gG I k r x h
  |ref i=>cases q
 |succ n C=>
  intro k d v u p r x q h;cases d with
  |p w=>rw[yU]at q;cases q;exact gG I k r x h
  |ref i=>
   obtain⟨a,rfl,g⟩:=r;have A:i < S.length:=by rw[<- y.len];exact(bO.mp g).1
   obtain⟨o,j⟩:∃o,S[i]? = some o:=⟨S[i],by simp[A]⟩;have l:=y.obj i a o g j;simp only[eQ,j]at q;cases o with
   |fz w=>cases q;exact gG I k l x h
   |dct M t=>cases q
   |ins _ _ _=>cases q
   |dtn _ _=>cases q
   |dtt _ _=>cases q
   |lst t=>
    dsimp only at q;cases e:pY (eQ S n) t with
    |none=>rw[e]at q;cases q
    |some Q=>
     rw[e]at q;cases q;cases k with
     |zero=>simp[cm]at h
     |succ k=>obtain⟨xs,K,G⟩:=l;cases x;obtain⟨E,f,⟨o,N,z,c,_,d⟩,L⟩:=I.list (g0.of K);obtain⟨b,q⟩:=sC (a0:=k) (λr x q h=>C k r x q h) G f e (by simpa[cm] using h);rw[pd];exact⟨_,uU z c d (by simpa using q)⟩
theorem nP(l:Rel X.K F H m S)(r:RD X.K F H m u v)(q:eQ S n u=some p)(k:∀xs,p≠.lst xs/\p≠.tup xs):RP X.K F H p v:=by
 cases u with
 |p w=>rw[yU]at q;cases q;exact r
 |ref i=>
  cases n with
  |zero=>cases q
  |succ n=>
   obtain⟨a,rfl,h⟩:=r;have s:i < S.length:=by rw[<- l.len];exact(bO.mp h).1
   obtain⟨o,x⟩:∃o,S[i]? = some o:=⟨S[i],by simp[s]⟩;have b:=l.obj i a o h x;simp only[eQ,x]at q;cases o with
   |fz w=>cases q;exact b
   |dct c d=>cases q
   |ins _ _ _=>cases q
   |dtn _ _=>cases q
   |dtt _ _=>cases q
   |lst d=>
    dsimp only at q;cases e:pY (eQ S n) d with
    |none=>rw[e]at q;cases q
    |some f=>rw[e]at q;cases q;exact absurd rfl (k f).1
end
inductive rEI(K:FG)(g:D->D->aA->Option P)(x:V)(y:V)(H:Hp)(Q:VK):Prop
 |mk (F:Aa) (m:List Addr) (S:aA) (d:D) (e:D) (v:P) (h0_:Rel K F H m S) (h1_:RD K F H m d x) (h2_:RD K F H m e y) (h3_:g d e S=some v) (h4_:∀u F' H',Grow F H F' H'->RP K F' H' v u->Q u H'):rEI K g x y H Q
noncomputable def rE(K:FG)(g:D->D->aA->Option P):R2:=λx y H Q=>rEI K g x y H Q
@[simp] def cP(g:D->D->aA->Option P)(a b:EE)(L:Lc)(S:aA):tyV:=a6 (a L S) λx e=>a6 (b L e) λy h=>(g x y h).map λv=>(v,h)
section
variable{X:Cx}{a b:Expr}{C t:EE}{N:Pos}
theorem BN(h:tV X.K (cP a0 C t) J H Q):LG (rE X.K a0) (tE X.K C) (tE X.K t) J H Q:=by
 obtain⟨F,m,L,S,d,K,r,l,q,k⟩:=h;obtain⟨x,a,P,q⟩:=aj q;obtain⟨y,s,A,q⟩:=aj q;refine⟨F,m,L,S,x,a,r,l,P,λv p B M b I D=>?_⟩;refine⟨p,B,L,a,y,s,I,l.mono b,A,λu i n N c f E=>?_⟩;cases e:a0 x y s with
 |none=>rw[e]at q;cases q
 |some z=>rw[e]at q;cases q;exact⟨i,n,K,x,y,_,f,RD.mono c D,E,e,λw j o g G=>k w j n o (b.trans (c.trans g.stp)) (f.grow g) G⟩
theorem Oj(o:jY X (compareOp u) (rE X.K v))(x:PE X a (tE X.K C))(e:PE X b (tE X.K t))(m:behindInMarks u b=false):PE X (.Compare a [u] [b] N) (tV X.K (cP v C t)):=
 (B2 o x e m).imp' λ_ _ _ h=>BN h
theorem Oa(o:jY X (compareOp op) (rE X.K u))(c:PE X a (tE X.K C))(w:PE X b (tE X.K t))(g:behindInMarks op b=false):PT X (.Compare a [op] [b] N) (tQ X.K (bV (cP u C t))):=
 (BX o c w g).imp' λJ H Q h=>by
  refine BN ?_;obtain⟨F,m,L,S,d,y,r,l,q,k⟩:=h;obtain⟨x,z,f,q⟩:=aj q;cases x with
  |bl b=>cases q;exact⟨F,m,L,S,_,_,r,l,f,λv e i n s j p=>⟨_,p,k e i n s j⟩⟩
  |_=>cases q
end
def Cz(x y:P):Option Bool:=match zA x y with
 |some (.bl b)=>some b
 |_=>if (cm 20 x && cm 20 y)=true then some (b9 (pd x) (pd y)) else none
def Cu(d e:D)(S:aA):Option P:=(eQ S 9 d).bind λx=>(eQ S 9 e).bind λy=>(Cz x y).map .bl
def Dh(x y:P):Option Bool:=match dNe x y with
 |some (.bl b)=>some b
 |_=>if (cm 20 x && cm 20 y)=true then some (!PyData.eqv (pd x) (pd y)) else none
def Hl(d e:D)(S:aA):Option P:=(eQ S 9 d).bind λx=>(eQ S 9 e).bind λy=>(Dh x y).map .bl
noncomputable def jx(c:D)(S:aA):Option (List cu):=match c with
 | .p (.dct k _)=>some k
 | .ref i=>match S[i]? with
  |some (.dct k _)=>some k
  |some (.fz (.dct k _))=>some k
  |_=>none
 |_=>none
noncomputable def Du(k:cu)(s:List cu):Bool:=s.any λh=>decide (h=k)
def NN(d c:D)(S:aA):Option Bool:=match jx c S with
 |some s=>(eQ S 9 d).bind λx=>(db x).map λk=>Du k s
 |none=>none
def M6(d c:D)(S:aA):Option P:=(NN d c S).map .bl
noncomputable def fg:D->Bool
 | .p .non=>true
 |_=>false
def tH(d e:D)(_:aA):Option P:=match e with
 | .p .non=>some (.bl (fg d))
 |_=>none
def eF(d e:D)(_:aA):Option P:=match e with
 | .p .non=>some (.bl (!fg d))
 |_=>none
theorem zz(h:zA x v=some b):(∀xs,x≠.lst xs/\x≠.tup xs)/\∀xs,v≠.lst xs/\v≠.tup xs:=by
 refine⟨λxs=>⟨λe=>?_,λe=>?_⟩,λxs=>⟨λe=>?_,λe=>?_⟩⟩
 .subst e;cases v<;>cases h
 .subst e;cases v<;>cases h
 .subst e;cases x<;>cases h
 .subst e;cases x<;>cases h
section
variable{X:Cx}
theorem Pm(o:X.A.units+64 < cLine):jY X (compareOp .Eq) (rE X.K Cu):=by
 intro B s J H x y v u Q I j z h;obtain⟨F,m,S,d,e,r,l,g,i,q,k⟩:=h;unfold Cu at q;cases t:eQ S 9 d with
 |none=>rw[t]at q;cases q
 |some a=>
  rw[t]at q;cases p:eQ S 9 e with
  |none=>rw[p]at q;cases q
  |some b=>
   rw[p]at q;simp only[qq]at q;cases n:Cz a b with
   |none=>rw[n]at q;cases q
   |some c=>
    rw[n]at q;cases q;unfold Cz at n;split at n
    .rename_i E w;cases n;obtain⟨K,P⟩:=zz w;exact Pn (by lia) B s J H x y v u Q I j z ⟨F,a,b,.bl c,l.ft,nP l g t K,nP l i p P,w,k⟩
    .split at n
     .rename_i f;rw[av]at f;cases n;obtain⟨D,A⟩:=ff I l 9 20 g j t f.1;obtain⟨bs,C⟩:=ff I l 9 20 i z p f.2;exact eq_dataH A C (kK f.1) (kK f.2) o ⟨.bl _,H,I,rfl,k _ F H .refl rfl⟩
     .cases n
theorem DD(h:dNe x v=some b):(∀xs,x≠.lst xs/\x≠.tup xs)/\∀xs,v≠.lst xs/\v≠.tup xs:=by
 refine⟨λxs=>⟨λe=>?_,λe=>?_⟩,λxs=>⟨λe=>?_,λe=>?_⟩⟩
 .subst e;cases v<;>cases h
 .subst e;cases v<;>cases h
 .subst e;cases x<;>cases h
 .subst e;cases x<;>cases h
theorem Pc(o:X.A.units+64 < cLine):jY X (compareOp .NotEq) (rE X.K Hl):=by
 intro B s J H x y v u Q I j z h;obtain⟨F,m,S,d,e,r,l,g,i,q,k⟩:=h;unfold Hl at q;cases t:eQ S 9 d with
 |none=>rw[t]at q;cases q
 |some a=>
  rw[t]at q;cases p:eQ S 9 e with
  |none=>rw[p]at q;cases q
  |some b=>
   rw[p]at q;simp only[qq]at q;cases n:Dh a b with
   |none=>rw[n]at q;cases q
   |some c=>
    rw[n]at q;cases q;unfold Dh at n;split at n
    .rename_i E w;cases n;obtain⟨K,P⟩:=DD w;exact R_ B s J H x y v u Q I j z ⟨F,a,b,.bl c,l.ft,nP l g t K,nP l i p P,w,k⟩
    .split at n
     .rename_i f;rw[av]at f;cases n;obtain⟨D,A⟩:=ff I l 9 20 g j t f.1;obtain⟨bs,C⟩:=ff I l 9 20 i z p f.2;exact ne_dataH A C (kK f.1) (kK f.2) o ⟨.bl _,H,I,rfl,k _ F H .refl rfl⟩
     .cases n
theorem nS(x:P):∀xs:List P,(jD xs).any (λy=>b9 y (pd x))=xs.any λy=>b9 (pd y) (pd x)
 | []=>rfl
 |y::r=>by rw[jD,dI,dI,nS x r]
theorem B6(h:xs.all (cm 19)=true):wO (jD xs)=true/\rN (jD xs)≤20:=by have l:=eX 20 (.lst xs) h;simp only[pd,Eb,t3]at l;have x:=l.2;exact⟨l.1,by lia⟩
theorem CU:(iA u v).isSome=Du v (u.map (·.1)):=by
 induction u with
 |nil=>rfl
 |cons p r i=>
  unfold Du at i ⊢;by_cases h:p.1=v
  .rw [jn h,aG,dI,fR h];rfl
  .rw [iz h,i,aG,dI,be h];rfl
theorem GX{K:FG}{F:Aa}{H:Hp}{m:List Addr}{S:aA}{c:D}{y:V}{s:List cu}(r:Rel K F H m S)(p:RD K F H m c y)(q:jx c S=some s):∃a k,y=.ref a/\H a=some (.dK k)/\k.map (·.1)=s:=by
 unfold jx at q;split at q
 .cases q;obtain⟨a,k,e,_,hk,h,_⟩:=p;exact⟨a,k,e,hk,h⟩
 .rename_i i;obtain⟨a,rfl,x⟩:=p;split at q
  .rename_i o;cases q;obtain⟨k,hk,h,_⟩:=r.obj i a _ x o;exact⟨a,k,rfl,hk,h⟩
  .rename_i o;cases q;obtain⟨b,k,e,_,hk,h,_⟩:=r.obj i a _ x o;cases e;exact⟨a,k,rfl,hk,h⟩
  .cases q
 .cases q
theorem Pj(A:X.A.units+64 < cLine):jY X (compareOp .In) (rE X.K M6):=by
 intro B s J H x y v u Q I K P h;obtain⟨F,m,S,d,e,r,l,j,o,q,k⟩:=h;unfold M6 NN at q;cases c:jx e S with
 |some C=>
  rw[c]at q;dsimp only at q;cases f:eQ S 9 d with
  |none=>rw[f]at q;cases q
  |some a=>
   rw[f]at q;simp only[qq]at q;cases n:db a with
   |none=>rw[n]at q;cases q
   |some w=>rw[n]at q;cases q;obtain⟨b,g,rfl,hk,p⟩:=GX l o c;have i:RP X.K F H a x:=nP l j f λxs=>⟨λz=>(by subst z;cases n),λz=>(by subst z;cases n)⟩;cases P;cases ju n i;exact SF (by lia) I (lh.k hk) K λD t=>⟨.bl _,H,t,rfl,by rw[CU,p];exact k _ F H .refl rfl⟩
 |none=>rw[c]at q;cases q
theorem Pf:jY X (compareOp .Is) (rE X.K tH):=by
 intro B s J H x y v u Q I c t h;obtain⟨F,m,S,d,e,r,l,n,f,q,k⟩:=h;unfold tH at q;split at q
 .cases q;cases (show y=.non from f);refine Ms B s J H x _ v u Q I c t ⟨rfl,?_⟩;have:decide (x=.non)=fg d:=by
   cases d with
   |ref i=>obtain⟨a,rfl,_⟩:=n;rfl
   |p w=>
    cases w with
    |non=>cases (show x=.non from n);rfl
    |bl b=>cases (show x=.bl b from n);rfl
    |int b=>cases (show x=.int b from n);rfl
    |str b=>cases (show x=.str b from n);rfl
    |_=>(obtain⟨a,xs,rfl,_⟩:=n;rfl)
  rw[this];exact k _ F H .refl rfl
 .cases q
theorem FK:jY X (compareOp .IsNot) (rE X.K eF):=by
 intro B s J H x y v u Q I c t h;obtain⟨F,m,S,d,e,r,l,n,f,q,k⟩:=h;unfold eF at q;split at q
 .cases q;cases (show y=.non from f);refine Jk B s J H x _ v u Q I c t ⟨rfl,?_⟩;have:decide (x=.non)=fg d:=by
   cases d with
   |ref i=>obtain⟨a,rfl,_⟩:=n;rfl
   |p w=>
    cases w with
    |non=>cases (show x=.non from n);rfl
    |bl b=>cases (show x=.bl b from n);rfl
    |int b=>cases (show x=.int b from n);rfl
    |str b=>cases (show x=.str b from n);rfl
    |_=>(obtain⟨a,xs,rfl,_⟩:=n;rfl)
  rw[this];exact k _ F H .refl rfl
 .cases q
end
noncomputable def sK:List ki->List P->Lc->Option Lc
 | [],[],L=>some L
 |g::s,v::T,L=>match g v L with
  |some h=>sK s T h
  |none=>none
 |_,_,_=>none
def aY(g:List ki):ki:=λv L=>match v with
 | .tup T=>sK g T L
 |_=>none
theorem xK:∀{s:List ki}{T:List P}{L x:Lc},sK s T L=some x->T.length=s.length
 | [],[],_,_,_=>rfl
 | [],_::_,_,_,h=>by cases h
 |_::_,[],_,_,h=>by cases h
 |g::s,v::T,L,x,h=>by
  unfold sK at h;split at h
  .rw [aR,aR,xK h]
  .cases h
inductive gTsI(K:FG)(gs:List ki)(xs:List V)(J:L2.St)(H:Hp)(Q:L2.St->Hp->Prop):Prop
 |mk (F:Aa) (m:List Addr) (L:Lc) (vs:List P) (L':Lc) (h0_:RL K F H m J L) (h1_:cX K F H vs xs) (h2_:sK gs vs L=some L') (h3_:∀J',RL K F H m J' L'->Q J' H):gTsI K gs xs J H Q
noncomputable def Uo(K:FG)(g:List ki):NC:=λxs J H Q=>gTsI K g xs J H Q
inductive GsOk(X:Cx):Ab->List ki->Prop where
 |nil:GsOk X [] []
 |cons {x:Str}{p:Pos}{es:Ab}{g:ki}{gs:List ki}:PG X (.Name x p) (gT X.K g)->GsOk X es gs->GsOk X (.Name x p::es) (g::gs)
section
variable{X:Cx}{N:Pos}
theorem tY:assignEach (.Name x p::es) v=(false,assign (.Name x p) v)::assignEach es v:=rfl
theorem GsOk.len(h:GsOk X es v)(e:Env):(assignEach es e).length=v.length/\(assignEach es e).findIdx? (·.1)=none:=by
 induction h with
 |nil=>exact⟨rfl,rfl⟩
 |cons _ _ i=>rw[tY];refine⟨by rw[aR,aR,i.1],?_⟩;simp only[List.findIdx?_cons,i.2];rfl
theorem GsOk.pgs(h:GsOk X es gs):Qw X es (Uo X.K gs):=by
 induction h with
 |nil=>
  intro B s J H xs u Q I a ⟨F,m,L,T,e,l,r,q,k⟩;cases T with
  |nil=>cases q;cases (show xs=[] from r);exact Je B s J H [] u Q I a ⟨rfl,k J l⟩
  |cons _ _=>cases q
 |cons g _ i=>
  intro B s J H xs u Q I a ⟨F,m,L,T,e,l,r,q,k⟩;cases T with
  |nil=>cases q
  |cons v T=>
   unfold sK at q;split at q
   .rename_i n f;obtain⟨x,c,rfl,p,r⟩:=r;refine Fo g i rfl B s J H _ u Q I a ⟨x,c,rfl,F,m,L,v,n,l,p,f,λt b=>?_⟩;exact⟨F,m,n,T,e,b,r,q,k⟩
   .cases q
theorem M4(c:X.c=true)(h:GsOk X es u):PG X (.Tuple es n N) (gT X.K (aY u)):=
 PG.imp' (Mf c h.pgs (h.len _).1 (h.len _).2) λv J H Q z=>by
  obtain⟨F,m,L,d,x,l,p,q,k⟩:=z;cases d with
  |tup T=>obtain⟨a,xs,rfl,t,r⟩:=p;have e:=xK (show sK u T L=some x from q);exact⟨a,xs,rfl,t.sq,by rw[<- r.length];exact e,F,m,L,T,x,l,r,q,k⟩
  |_=>cases q
def Kg(K:FG)(a:Addr):It:=
 ⟨λi H=>∃xs x,g0 K H a xs/\xs[i]? = some x,λi H x h=>∃p y,x=.ref p/\H p=none/\h=cq H p (.tup [.int i,y])/\∀xs,g0 K H a xs->xs[i]? = some y,λi H=>∃xs,g0 K H a xs/\xs.length≤i⟩
theorem CW{P:Program}{w:World}{K:FG}{es:Ab}{n:Nat}(a e t:Addr)(C:e≠t):Turn P w K (.Tuple es n N) (Kg K a) [e,t] e (λi h=>(∃l,IsEnum h e t i l)/\h.IsListIter t a i) where
 mem:=by simp
 obj:=λi h st b p=>by
  obtain⟨⟨l,A⟩,⟨o,ho,c,d⟩⟩:=st;have:b=e\/b=t:=by simpa using p
  rcases this with rfl|rfl
  .exact⟨_,A,λv z=>by have z':Data.fields _=Data.cell v:=z;cases z'⟩
  .exact⟨o,ho,λv z=>by rw[d]at z;cases z⟩
 keep:=λi h h' st k=>by obtain⟨⟨l,A⟩,y⟩:=st;exact⟨⟨l,k e (by simp) _ A⟩,y.at λo q=>k t (by simp) o q⟩
 item:=by
  intro X hP hw hK f i B s J H E I T st hg;subst hP hw hK;obtain⟨xs,x,V,hx⟩:=hg;obtain⟨its,rv,pl,hz⟩:=I.list V;obtain⟨u,hu,ru⟩:=rv.get hx;obtain⟨⟨l,A⟩,y⟩:=st;obtain⟨f0,f1,f2,f3,f4,f5⟩:=T e (by simp);obtain⟨M,Q,g2,Z,g4,g5⟩:=T t (by simp);refine wpAny_pyNext_enum_item A y pl.isList (x:=u) (by simpa using hu) C λh1 ho1 G ht1 hz1 hk1=>?_
  refine⟨_,rfl,wpAny_letOwnedTupleGo_enum (s:={ s with heap:=h1,toks:=s.toks+1 }) ho1 λR he2 F=>?_⟩;replace F:fw e h1 R:=F;have D:e < s.heap.objs.size:=aJ A;have S:∀b o,b≠e->b≠t->s.heap.get? b=some o->R.get? b=some o:=λb o b1 b2 q=>(F.2 b b1).trans (hk1 b o b1 b2 q);have L:R.get? s.heap.objs.size=some { cls:=.type "tuple",data:=.seq #[.int i s.toks,u] }:=(F.2 _ (cx D)).trans ht1;have j:H s.heap.objs.size=none:=I.h.fresh (al _);have W:∀{b:Addr}{o:HO},H b=some o->b≠e/\b≠t:=λ{b o} q=>⟨λz=>(by rw[z,f0]at q;cases q),λz=>(by rw[z,M]at q;cases q)⟩;have g:∀b,b ∉ [e,t]->b≠e/\b≠t:=λb p=>⟨λz=>p (by simp[z]),λz=>p (by simp[z])⟩;have I':Inv X B J (cq H s.heap.objs.size (.tup [.int i,x])) { s with heap:=R,gens:=s.gens,drawn:=s.drawn,toks:=s.toks+1 }:=by
   refine I.step (ch:=[e,t]) (λb p=>?_) (λb o _ _ f q _=>S b o (g b f).1 (g b f).2 q) (λb o _ _ f q _=>⟨o.slots,S b o (g b f).1 (g b f).2 q⟩) (λb o _ q n=>?_) (λb o f q=>⟨o,S b o (g b f).1 (g b f).2 q⟩)
    (λb ys q=>?_) (λb o ys q=>?_) (λb ps q=>⟨#[],?_⟩) (λm hm=>?_) (λb u' q=>?_) I.bare
   .have:b=e\/b=t:=by simpa using p
    rcases this with rfl|rfl
    .exact⟨f3,f1,f4,f5⟩
    .exact⟨Z,Q,g4,g5⟩
   .rw [aN (bK (aJ q))];exact n
   .rw [aN (b7 q j)];exact q
   .rw [aN (b7 q j)];exact q
   .rw [aN (b7 q j),q];simp
   .obtain⟨o,es,ep,ho,r⟩:=hm;exact⟨o,es,ep,S _ o (aS f1) (aS Q) ho,r⟩
   .by_cases p:b=s.heap.objs.size
    .subst p;rw[aV]at q;cases q;exact⟨by show 2≤sizeLine;decide,[.int i s.toks,u],.cons ⟨_,rfl⟩ (.cons ru .nil),⟨_,L,⟨rfl,_,rfl⟩,rfl⟩⟩
    .rw [aN p]at q;refine(I.h b u' q).stay (λc v f z=>S c v ?_ ?_ z) (λc z=>by rw[aN (b7 z j)];exact z) λc ys z=>by rw[aN (b7 z j)];exact z
     .rcases f with rfl|f
      .exact (W q).1
      .exact (W f).1
     .rcases f with rfl|f
      .exact (W q).2
      .exact (W f).2
  refine⟨.ref s.heap.objs.size,_,I',rfl,⟨s.heap.objs.size,x,rfl,j,rfl,λys hy=>by rw[I.list_inj hy V];exact hx⟩,⟨⟨u,by simpa using he2⟩,G.at λo q=>(F.2 t (aS C)).trans q⟩,λb p=>?_⟩;have hb':b=e\/b=t:=by simpa using p
  obtain⟨oi,hoi,_⟩:=id y;rcases hb' with rfl|rfl
  .rw [aN (bK D)];exact f0
  .rw [aN (bK (aJ hoi))];exact M
 done:=by intro X hP hw hK f i B s J H E I T st hg;subst hP hw hK;obtain⟨xs,V,hx⟩:=hg;obtain⟨its,rv,pl,hz⟩:=I.list V;obtain⟨⟨l,A⟩,y⟩:=st;obtain⟨M,Q,g2,Z,g4,g5⟩:=T t (by simp);have hl:=rv.length;exact wpAny_pyNext_enum_end (I.o.hd f) A y pl.isList (by simp;lia) λh' eb=>⟨rfl,I.turned (t':=s.toks) (λb o p e=>eb b o p e) M Q Z g4 g5⟩
 self:=λ_ _ _ _ _ st h=>by obtain⟨⟨l,A⟩,_⟩:=st;exact DZ A h
noncomputable def bM(k:Int):List P->List P
 | []=>[]
 |x::r=>.tup [.int k,x]::bM (k+1) r
theorem o8:∀{T:List P}{k:Int}{i:Nat}{v:P},(bM k T)[i]? = some v->∃x,T[i]? = some x/\v=.tup [.int (k+i),x]
 | [],_,_,_,h=>by simp[bM]at h
 |x::r,k,0,v,h=>⟨x,rfl,by simpa[bM] using h.symm⟩
 |x::r,k,i+1,v,h=>by obtain⟨y,a,e⟩:=o8 (T:=r) (k:=k+1) (i:=i) (by simpa[bM] using h);refine⟨y,by simpa using a,?_⟩;rw[e];congr 3;lia
theorem dS:∀(T:List P)(k:Int),(bM k T).length=T.length
 | [],_=>rfl
 |_::r,k=>by rw[bM,aR,aR,dS r]
@[simp] def q_(a:EV)(L:Lc)(S:aA):EG:=a6 (a L S) λv h=>match v with
 | .lst xs=>some (bM 0 xs,h)
 | .ro xs=>some (bM 0 xs,h)
 |_=>none
theorem Ga{K:FG}{F:Aa}{m:List Addr}{H:Hp}{a:Addr}{T:List P}{xs:List V}(c:∀h n s,Stp F m H h n s->g0 K s a xs)(r:cX K F H T xs):NF K (Kg K a) (bM 0 T) F m H:=by
 intro h n s st;have q:=c h n s st;have l:=r.length;refine⟨λi v e=>?_,⟨xs,q,by rw[dS,l];exact al _⟩⟩;obtain⟨d,b,rfl⟩:=o8 e;obtain⟨x,k,p⟩:=r.get b;refine⟨⟨xs,x,q,k⟩,λz w y=>?_⟩;obtain⟨u,y,rfl,f,rfl,t⟩:=y;have:y=x:=by have:=t xs q;rw[k]at this;cases this;rfl
 subst this;refine⟨h,cB f,RP.newTup f ⟨_,_,rfl,?_,_,_,rfl,RP.mono st p,rfl⟩⟩;show V.int (i:Int)=V.int (0+(i:Int));rw[cG]
theorem iE{es:Ab}{n:Nat}{a:Expr}{C:EV}{p d:Pos}(hg:Gl X "enumerate")(hm:X.g "enumerate"=none)(ha:PE X a (tV X.K C))(E:starEach [a] X.e=[(false,eval a X.e)]):PI X (.Tuple es n N) (.Call (.Name "enumerate" p) [a] [] d) (tI X.K (q_ C)):=by
 intro B s J H R I ⟨F,m,L,S,T,S',r,l,q,k⟩;obtain⟨v,P,e1,q⟩:=aj q;have hA:PA X [a] (tB X.K (bt C a8)):=K3 ha Ny (by rw[E];rfl);refine Call_ (lC I hg hm boot_enumerate (lQ (c_ (hA d B s J H (λxs x=>∃f c,Stp F m H f c x/\Rel X.K f x c P/\cX X.K f x [v] xs) I ⟨F,m,L,S,[v],P,r,l,?_,λxs f c x h i o=>⟨f,c,h,i,o⟩⟩) λus h ⟨xs,x,t,M,f,c,st,i,o⟩=>?_) (by rw[E];rfl) rfl))
 .simp only[bt,a8,e1,am]
 obtain⟨x1,rfl,G⟩:=C4 o;obtain⟨u,rfl,ru⟩:=vals1 M;have A:∀{a:Addr}{xs:List V},x1=.ref a->g0 X.K x a xs->R (Kg X.K a) x->wx X (call (.type "enumerate") [u]) (λv h=>wx X (pyIter v) (Qv X B J (.Tuple es n N) R) X.xe h) X.xe h:=λ{a xs} e hq q=>by
  subst e;cases ru;obtain⟨its,M,pl,hz⟩:=t.list hq;refine call_enumerate_list pl.isList λh' D z hsz hk=>?_
  refine DZ D ?_;have w:∀b,h.heap.objs.size≤b->x b=none:=λb j=>t.h.fresh j;refine⟨h.heap.objs.size+1,[h.heap.objs.size+1,h.heap.objs.size],_,_,x,rfl,t.kept (t':=h.toks) hk,CW a _ _ (cx (jH _)),⟨⟨_,D⟩,z⟩,λb j=>?_,q⟩;have y:b=h.heap.objs.size+1\/b=h.heap.objs.size:=by simpa using j
  rcases y with rfl|rfl
  .exact t.fpOk (nw _) (w _ (nw _))
  .exact t.fpOk (al _) (w _ (al _))
 cases v with
 |lst Z=>cases q;obtain⟨a,xs,rfl,g,K⟩:=G;exact A rfl g.sq (k _ f c x st i (Ga (λQ m2 W s=>(g.kp s.kp).sq) K))
 |ro Z=>cases q;obtain⟨a,xs,rfl,g,K⟩:=G;exact A rfl g.sq (k _ f c x st i (Ga (λQ m2 W s=>(g.kp s.kp).sq) K))
 |_=>cases q
end
open PySem.AutoSeq1 (wpAny_loadPart')
theorem G4(n:Nat):(jb n=true)=(n≤1000000):=by unfold jb;simp
variable{l:Type}{Q:l->Shared->Prop}
theorem QQ(h:c=false)(k:wpAny M A b Q E s):wpAny M A (if c=true then a else b) Q E s:=by rw[h,ah bP];exact k
theorem Ul(h:c=true)(k:wpAny M A a Q E s):wpAny M A (if c=true then a else b) Q E s:=by rw[h,af rfl];exact k
theorem xO(a:Array Value)(n:Nat):∀b:Array Value,((List.replicate n a).foldl (·++·) b).size=b.size+n * a.size:=by
 induction n with
 |zero=>intro b;simp
 |succ n i=>intro b;rw[cS,gy,i,Bk,u5];lia
theorem Iu(l:Addr)(i:Array Value)(n:Nat)(e:Option Addr)(k:Array (OV))(x:Int)(u:Tok)(c:-1000000 < x/\x < 1000000)(m:(i.isEmpty ||x == 1)=true) :
  Meets (Builtin.«tuple.__mul__» ⟨[.ref l,.int x u],[]⟩) (λ_ R s=>s.heap.get? l=some { cls:=.type "tuple",dict:=e,data:=.seq i n,slots:=k }/\R (.ok (.ret (Value.ref l))) s):=
 .of_wp λI w A R s h=>by
  obtain⟨p,g,d,t,os⟩:=s;obtain⟨a,h⟩:=h;have f:=zK;have b:=zL
  wp_walk using mL a
  refine QQ (by rw[be (by lia),be (by lia)];rfl) ?_
  wp_walk using mL a
  exact⟨_,rfl,h⟩
theorem Ir(l:Addr)(i:Array Value)(n:Nat)(c:Option Addr)(q:Array (OV))(x:Int)(u:Tok)(H:-1000000 < x/\x < 1000000)(f:¬(i.isEmpty ||x == 1)=true)(z:i.size * x.toNat≤1000000) :
  Meets (Builtin.«tuple.__mul__» ⟨[.ref l,.int x u],[]⟩) (fun _ R s=>s.heap.get? l=some { cls:=.type "tuple",dict:=c,data:=.seq i n,slots:=q } /\
   R (.ok (.ret (Value.ref s.heap.objs.size))) { s with heap:=s.heap.push { cls:=Value.type "tuple",data:=Data.seq ((List.replicate x.toNat i).foldl (·++·) #[]) } }):=
 .of_wp λI w A R s h=>by
  obtain⟨S,g,d,K,os⟩:=s;obtain⟨a,h⟩:=h;have y:=zK;have o:=zL
  wp_walk using mL a
  refine QQ (by rw[be (by lia),be (by lia)];rfl) ?_
  wp_walk using mL a
  have k:i.isEmpty=false:=by
   cases e:i.isEmpty with
   |false=>rfl
   |true=>rw[e]at f;simp at f
  by_cases b:x≤0
  .refine Ul (by rw[fR b];rfl) ?_;have m:x.toNat=0:=by lia
   rw[m]at h
   wp_walk using mL a
   exact⟨_,rfl,h⟩
  .refine QQ (by rw[be b,k];rfl) ?_;have p:(i.size:Int) * x≤1000000:=by
    have:((i.size * x.toNat:Nat):Int)≤1000000:=by lia
    rw[zR,zS (by lia)]at this;exact this
   have r:¬(i.size:Int) * x > (2 ^ 63-1) / 8:=by lia
   dsimp only;rw[ah r];have F:(1000000:Int)≤(sizeLine:Int):=by decide
   refine QQ (show K7 _=false from be (by lia)) ?_;have t:¬(qz (λv j=>v++j) #[] (List.replicate x.toNat i)).size > sizeLine:=by
    have e:=xO i x.toNat #[];rw[e];have:x.toNat * i.size≤1000000:=by rw[qy];exact z
    have:(1000000:Nat)≤sizeLine:=by decide
    simp only[bf,AS];lia
   wp_walk using mL a
   exact⟨_,rfl,h⟩
theorem IP(a:Int)(t:Tok)(l:Addr)(i:Array Value)(n:Nat)(x:Option Addr)(e:Array (OV)) :
  Meets (Builtin.«int.__rmul__» ⟨[.int a t,.ref l],[]⟩) (λ_ R s=>s.heap.get? l=some { cls:=.type "tuple",dict:=x,data:=.seq i n,slots:=e }/\R (.ok (.ret Value.notImplemented)) s):=
 .of_wp λI w A R s h=>by
  obtain⟨p,g,d,f,os⟩:=s;obtain⟨k,h⟩:=h
  wp_walk
  exact⟨_,rfl,h⟩
theorem Dg:fillsNumberSlot (.type "tuple") "mul"=pure false:=
 PySem.fillsNumberSlot_seq (id:="tuple.__mul__") (r:=some (.builtin "tuple.__rmul__")) qm.lookup (by decide +kernel) Ae.lookup (by decide +kernel)
theorem L3:seqRepeat? (.type "tuple")=pure (some (.builtin "tuple.__mul__")):=by unfold seqRepeat?;rw[D9 (T:="tuple") (name:="__mul__") (id:="tuple.__mul__") qm.lookup (by decide +kernel)];first|rfl|(rw[D9 (T:="tuple") (name:="__rmul__") (id:="tuple.__rmul__") Ae.lookup (by decide +kernel)];rfl)
section
variable{X:Cx}
theorem zm(i:LV)(k:Nat):(List.replicate k i.toArray).foldl (·++·) #[]=(List.replicate k i).flatten.toArray:=by
 have:∀(m:Nat)(b:LV),(List.replicate m i.toArray).foldl (·++·) b.toArray=(b++(List.replicate m i).flatten).toArray:=by
  intro m;induction m with
  |zero=>intro b;simp
  |succ m x=>intro b;rw[cS,gy,List.append_toArray,x,cS,fS,eD]
 have h:=this k [];rw[eB]at h;exact h
theorem BH(r:bb xs v):∀k:Nat,bb (List.replicate k xs).flatten (List.replicate k v).flatten
 |0=>.nil
 |k+1=>by rw[cS,cS,fS,fS];exact r.append (BH r k)
theorem MK(xs:List l)(k:Nat):(List.replicate k xs).flatten.length=xs.length * k:=by
 induction k with
 |zero=>rfl
 |succ k i=>rw[cS,fS,bz,i,AD];lia
def pO:P->P->Option P
 | .tup xs,.int n=>if (jb (xs.length * n.toNat) && decide (n.natAbs < 1000000))=true then some (.tup (List.replicate n.toNat xs).flatten) else none
 |x,y=>wC x y
theorem Mw:qd X (binaryOp .Mult) pO:=by
 intro B s J H x y v u Q I L M h;obtain⟨F,z,S,d,V,E,G,q,k⟩:=h;have f:wC z S=some d->wx X (binaryOp .Mult v u) (EP X B J Q) X.xe s:=λq=>Pd B s J H x y v u Q I L M ⟨F,z,S,d,V,E,G,q,k⟩
 cases z with
 |tup j=>
  cases S with
  |int n=>
   simp only[pO]at q;split at q
   .rename_i g;rw[av,G4]at g;have Z:=aM g.2;cases q;obtain⟨a,xs,rfl,N,C⟩:=E;cases (show y=.int n from G);cases L;obtain⟨t,rfl⟩:=M;have K:=C.length;obtain⟨i,r,⟨o,e,c,m,D⟩,hz⟩:=I.tuple N.sq;have l:=r.length;obtain⟨oc,A,ot,os⟩:=o;dsimp only at c D;subst c D;refine Ea (T:="tuple") (U:="int") (by decide) ⟨_,e,rfl⟩ (λW=>rh W n t) Dg zU qj L3 zW.lookup
     (jk qj (rh s n t) zV (zX _ _) (IP n t a i.toArray m A os) ⟨e,rfl,⟨_,e,rfl⟩,?_⟩)
    by_cases p:(i.toArray.isEmpty ||n == 1)=true
    .refine jk qm ⟨_,e,rfl⟩ z_ (Af _ _) (Iu a i.toArray m A os n t (by lia) p) ⟨e,⟨.ref a,H,I,rfl,k _ F H .refl ?_⟩⟩;have R:(List.replicate n.toNat j).flatten=j:=by
      rw[Bg]at p;rcases p with p|p
      .have:i=[]:=by simpa using p
       have:j=[]:=i7 (by rw[K,l,this];rfl);subst this;simp
      .have:n=1:=by simpa using p
       subst this;simp
     rw[R];exact⟨a,xs,rfl,N,C⟩
    .refine jk qm ⟨_,e,rfl⟩ z_ (Af _ _) (Ir a i.toArray m A os n t (by lia) p (by rw[bf,<- l,<- K];exact g.1)) ⟨e,?_⟩;rw[zm];have w:H s.heap.objs.size=none:=I.h.fresh (al _);have P:(List.replicate n.toNat xs).flatten.length≤sizeLine:=by
      rw[MK,<- K];exact aI g.1 (by decide)
     refine⟨.ref s.heap.objs.size,_,I.laid (t':=s.toks) (o:=.tup (List.replicate n.toNat xs).flatten) (λb ob q=>ba _ q) (al _) ⟨P,_,BH r n.toNat,pq.new _ _⟩,rfl,k _ F _ (cB w) (.newTup w (C.rep n.toNat))⟩
   .cases q
  |_=>exact f q
 |_=>exact f q
noncomputable def jy:List P->Option P
 | [.lst xs]=>some (.lst xs)
 | [.ro xs]=>some (.lst xs)
 | [.tup xs]=>some (.lst xs)
 |_=>none
noncomputable def cz:List P->Option P
 | [.lst xs]=>some (.tup xs)
 | [.ro xs]=>some (.tup xs)
 | [.tup xs]=>some (.tup xs)
 |_=>none
theorem G7:fL X (.type "list") (rC X.K jy):=by
  intro B s J H xs u Q I r h;obtain⟨F,b,d,c,f,q,k⟩:=h;unfold jy at q;split at q;all_goals first
    |(cases q;done)
    | (cases q
       obtain⟨x,rfl,p⟩:=C4 f;obtain⟨a,y,rfl,t,n⟩:=p;first
         |exact kX B s J H _ u Q I r ⟨a,y,rfl,.inl t.sq,λl e=>k _ _ _ (de e) (.newLst e n)⟩
         |exact kX B s J H _ u Q I r ⟨a,y,rfl,.inr t.sq,λl e=>k _ _ _ (de e) (.newLst e n)⟩)
theorem DK:fL X (.type "tuple") (rC X.K cz):=by
  intro B s J H xs u Q I r h;obtain⟨F,b,d,c,f,q,k⟩:=h;unfold cz at q;split at q;all_goals first
    |(cases q;done)
    | (cases q
       obtain⟨x,rfl,p⟩:=C4 f;obtain⟨a,y,rfl,t,n⟩:=p;first
         |exact mB B s J H _ u Q I r ⟨a,y,rfl,.inl ⟨t.sq,λl e=>k _ F _ (cB e) (.newTup e n)⟩⟩
         |exact mB B s J H _ u Q I r ⟨a,y,rfl,.inr ⟨t.sq,k _ F H .refl ⟨a,y,rfl,t,n⟩⟩⟩)
noncomputable def pT:List P->Option P
 | [.int i]=>some (.int (if i < 0 then -i else i))
 |_=>none
theorem J8:fL X (.builtin "abs") (rC X.K pT):=by
 intro B s J H xs u Q I r h;obtain⟨F,e,d,f,a,q,k⟩:=h;unfold pT at q;split at q
 .cases q;obtain⟨x,rfl,p⟩:=C4 a;exact G5 B s J H _ u Q I r ⟨_,by rw[show x=_ from p],k _ F H .refl rfl⟩
 .cases q
variable{e:Expr}{es:Ab}{fs:ko}{p N:Pos}
theorem K_(g:Gl X "list")(m:X.g "list"=none)(a:PA X (e::es) (tB X.K fs))(x:starEach (e::es) X.e=(false,eval e X.e)::starEach es X.e)(h:(backTo N (starEach es X.e)).any (·.1)=false) :
  PE X (.Call (.Name "list" p) (e::es) [] N) (tV X.K (b0 jy fs)):=yJ G7 g m qv a (by decide) (by decide) x h
theorem Ih(g:Gl X "tuple")(m:X.g "tuple"=none)(a:PA X (e::es) (tB X.K fs))(x:starEach (e::es) X.e=(false,eval e X.e)::starEach es X.e)(h:(backTo N (starEach es X.e)).any (·.1)=false) :
  PE X (.Call (.Name "tuple" p) (e::es) [] N) (tV X.K (b0 cz fs)):=yJ DK g m Ia a (by decide) (by decide) x h
theorem Oc(g:Gl X "abs")(m:X.g "abs"=none)(a:PA X (e::es) (tB X.K fs))(x:starEach (e::es) X.e=(false,eval e X.e)::starEach es X.e)(h:(backTo N (starEach es X.e)).any (·.1)=false) :
  PE X (.Call (.Name "abs" p) (e::es) [] N) (tV X.K (b0 pT fs)):=Lp J8 g m HW a (by decide) (by decide) x h
@[simp] def gN(r:EE)(a:EV)(L:Lc)(S:aA):tw:=a6 (r L S) λd h=>match eZ d h with
 |none=>none
 |some _=>a6 (a L h) λx e=>match eZ d e,x with
  |some (i,s),.lst y=>if jb (s.length+y.length)=true then some (.p .non,e.set i (.lst (s++y.map .p))) else none
  |_,_=>none
end
section
variable{X:Cx}{o e:Expr}{h q:EE}{C:EV}{j d N:Pos}
theorem Il(ho:PE X o (tE X.K h))(he:PE X e (tV X.K C))(G:starEach [e] X.e=[(false,eval e X.e)])
  (c:attributeBase o "extend" X.e (eval o X.e)=eval o X.e) (t:(j.endLine == d.line)=true):PE X (.Call (.Attribute o "extend" j) [e] [] d) (tE X.K (gN h C)):=
 (Ky qo zZ PySem.F.type_list_extend Di ho (fX he js (by rw[G];rfl)) c (by rw[G];rfl) t (by rw[G];rfl) rfl).imp' λJ H Q hz=>by
  obtain⟨F,m,L,S,s,S',r,l,q,k⟩:=hz;obtain⟨x,D,e1,q⟩:=aj q;refine⟨F,m,L,S,x,D,r,l,e1,λv F1 m1 H1 Z V T=>?_⟩;cases E:eZ x D with
  |none=>rw[E]at q;cases q
  |some z=>
   obtain⟨i,ds⟩:=z;rw[E]at q;dsimp only at q;obtain⟨rfl,es⟩:=l7 E;obtain⟨a,rfl,hm⟩:=id T;obtain⟨xs,hH,rs⟩:=V.obj i a _ hm es;refine⟨.inl ⟨rfl,xs,g0.of hH⟩,?_⟩;obtain⟨y,N,e2,q⟩:=aj q;refine⟨F1,m1,L,D,y,N,V,l.mono Z,e2,λu A I B s2 M p2=>?_⟩;cases n:eZ (.ref i) N with
   |none=>rw[n]at q;cases q
   |some z=>
    obtain⟨i2,ds2⟩:=z;rw[n]at q;obtain⟨e3,f⟩:=l7 n;cases e3;cases y with
    |lst ys=>
     dsimp only at q;split at q
     .rename_i hf;cases q;obtain⟨a2,e4,p⟩:=RD.mono s2 T;cases e4;obtain⟨K,w,g⟩:=M.obj i a _ p f;obtain⟨b,P,rfl,tb,W⟩:=p2;have R:∀P,B a≠some (.tup P):=λP z=>by rw[w]at z;cases z
      have st:Stp A I B A I (cq B a (.lst (K++P))):=gC M p f trivial R;refine⟨a,b,K,P,rfl,rfl,w,tb.2,by rw[<- g.length,<- W.length];exact jV hf,?_⟩;exact k .non A I _ (Z.trans (s2.trans st)) (M.set p f trivial R ⟨_,aV,dB.mono st (g.append (dB.ofP W))⟩) rfl
     .cases q
    |_=>cases q
noncomputable abbrev tm:=Lc->aA->Option (List D×aA)
noncomputable abbrev Ou:=Option (List D×aA)
inductive tDsI(K:FG)(f:tm)(J:L2.St)(H:Hp)(Q:List V->Hp->Prop):Prop
 |mk (F:Aa) (m:List Addr) (L:Lc) (S:aA) (ds:List D) (S':aA) (h0_:Rel K F H m S) (h1_:RL K F H m J L) (h2_:f L S=some (ds,S')) (h3_:∀xs F' m' H',Stp F m H F' m' H'->Rel K F' H' m' S'->dB K F' H' m' ds xs->Q xs H'):tDsI K f J H Q
noncomputable def BO(K:FG)(f:tm):TA:=λJ H Q=>tDsI K f J H Q
@[simp] def jT(_L:Lc)(S:aA):Ou:=some ([],S)
@[simp] def bY(a:EE)(r:tm)(L:Lc)(S:aA):Ou:=a6 (a L S) λx h=>a6 (r L h) λxs e=>some (x::xs,e)
variable{es:Ab}{fs:tm}
theorem P':PA X [] (BO X.K jT):=js.imp' λJ H Q h=>by obtain⟨F,m,L,S,d,x,r,l,q,k⟩:=h;cases q;exact k [] F m H .refl r rfl
theorem Nc(u:PE X e (tE X.K q))(g:PA X es (BO X.K fs))(i:starEach (e::es) X.e=(false,eval e X.e)::starEach es X.e):PA X (e::es) (BO X.K (bY q fs)):=
 (fX u g i).imp' λJ H Q z=>by obtain⟨F,m,L,S,d,t,r,l,h,k⟩:=z;obtain⟨x,a,p,h⟩:=aj h;obtain⟨xs,C,w,h⟩:=aj h;cases h;refine⟨F,m,L,S,x,a,r,l,p,λv f j B s P o=>?_⟩;refine⟨f,j,L,a,xs,t,P,l.mono s,w,λT b y c n A K=>?_⟩;exact k (v::T) b y c (s.trans n) A ⟨v,T,rfl,RD.mono n o,K⟩
noncomputable abbrev GF:=List D->aA->Option (D×aA)
inductive spRI(K:FG)(g:GF)(vs:List V)(H:Hp)(Q:VK):Prop
 |mk (F:Aa) (m:List Addr) (ds:List D) (S:aA) (d:D) (S':aA) (h0_:Rel K F H m S) (h1_:dB K F H m ds vs) (h2_:g ds S=some (d,S')) (h3_:∀v F' m' H',Stp F m H F' m' H'->Rel K F' H' m' S'->RD K F' H' m' d v->Q v H'):spRI K g vs H Q
noncomputable def sh(K:FG)(g:GF):Sp:=λT H Q _=>spRI K g T H Q
@[simp] def eI(g:GF)(a:tm)(L:Lc)(S:aA):tw:=a6 (a L S) λd h=>g d h
theorem Ln(G:FnOk X.p X.w X.K X.g X.b tu u f fd ps (sh X.K a0))(P:Room u X.A)(o:Gl X x)(K:X.g x=some (.ref f))(hk:iH X.K (.ref f)=true)(y:Binds X.K fd ps [])
  (j:PA X (e::es) (BO X.K fs)) (h:(x == ("__debug__":Str))=false) (z:starEach (e::es) X.e=(false,eval e X.e)::starEach es X.e) (a:(backTo N (starEach es X.e)).any (·.1)=false) :
  PE X (.Call (.Name x p) (e::es) [] N) (tE X.K (eI a0 fs)):=
 (vW G P o K hk y .nil sr j h z a).imp' λJ H Q A=>by obtain⟨F,m,L,S,d,g,r,l,q,u⟩:=A;obtain⟨k,n,i,q⟩:=aj q;refine⟨F,m,L,S,k,n,r,l,i,λxs b B t s E p=>?_⟩;show sh X.K a0 (xs++[]) t Q E0;rw[eA];exact⟨b,B,k,n,d,g,E,p,q,λv c C w M I D=>u v c C w (s.trans M) I D⟩
noncomputable def y_(n:Nat):D->Bool
 | .p _=>true
 | .ref i=>decide (i < n)
def MJ(n:Nat):SO->Bool
 | .lst d=>d.all (y_ n)
 | .dct _ d=>d.all (y_ n)
 | .fz _=>true
 | .ins _ _ d=>d.all (y_ n)
 | .dtn _ d=>d.all (y_ n)
 | .dtt _ d=>d.all (y_ n)
def trunc(n:Nat)(S:aA):aA:=if (S.take n).all (MJ n)=true then S.take n else S
@[simp] def cv(g:GF)(a:tm)(L:Lc)(S:aA):tyV:=a6 (a L S) λs h=>a6 (g s h) λd x=>a6 (toP 9 d x) λv e=>some (v,trunc h.length e)
end
section
variable{K:FG}{F:Aa}{H:Hp}{m:List Addr}{S:aA}
theorem RD.low(h:RD K F H m u v)(l:y_ n u=true):RD K F H (m.take n) u v:=by
 cases u with
 |p w=>exact h
 |ref i=>obtain⟨a,e,x⟩:=h;exact⟨a,e,by rw[ik (aM l)];exact x⟩
theorem dB.low:∀{s:List D}{xs:List V},dB K F H m s xs->s.all (y_ n)=true->dB K F H (m.take n) s xs
 | [],_,h,_=>h
 |d::s,_,h,l=>by obtain⟨x,r,e,a,k⟩:=h;rw[fx,av]at l;exact⟨x,r,e,a.low l.1,dB.low k l.2⟩
theorem Rel.trunc(r:Rel K F H m S)(y:n≤m.length)(h:(S.take n).all (MJ n)=true):Rel K F H (m.take n) (S.take n) where
 len:=by rw[ib,ib,r.len]
 nd:=r.nd.sublist (vj _ _)
 obj:=λi a o b t=>by
  have q:i < n:=by have:=(bO.mp b).1;rw[ib]at this;lia
  rw[ik q]at b;have lo:=bw.mp h o (bq t);rw[ik q]at t;have p:=r.obj i a o b t;cases o with
  |lst d=>obtain⟨xs,x,s⟩:=p;exact⟨xs,x,s.low lo⟩
  |dct u d=>obtain⟨k,x,e,s⟩:=p;exact⟨k,x,e,s.low lo⟩
  |fz v=>exact p
  |ins c u d=>obtain⟨C,g,k,j,x,e,s⟩:=p;exact⟨C,g,k,j,x,e,s.low lo⟩
  |dtn u d=>obtain⟨k,x,e,l,s⟩:=p;exact⟨k,x,e,l,s.low lo⟩
  |dtt u d=>obtain⟨k,x,e,s⟩:=p;exact⟨k,x,e,s.low lo⟩
 sep:=λi a o b t w f=>by
  have q:i < n:=by have:=(bO.mp b).1;rw[ib]at this;lia
  rw[ik q]at b t;exact r.sep i a o b t w f
 trk:=λa h=>r.trk a (qK h)
 ft:=r.ft
theorem Stp.trunc(s:Stp F m H u v H'):Stp F m H u (v.take m.length) H':=by
 obtain⟨n,e⟩:=s.pre;have x:v.take m.length=m:=by rw[e];simp
 rw[x];exact⟨⟨[],by simp⟩,s.oth,s.frz,s.frk,s.tup,s.trk,s.nf,λ_ h=>.inl h⟩
end
section
variable{X:Cx}{e:Expr}{es:Ab}{fs:tm}{N:Pos}
theorem Ij(G:FnOk X.p X.w X.K X.g X.b tu u f fd ps (sh X.K a0))(hr:Room u X.A)(Z:Gl X x)(hm:X.g x=some (.ref f))(hk:iH X.K (.ref f)=true)(V:Binds X.K fd ps [])
  (T:PA X (e::es) (BO X.K fs)) (b:(x == ("__debug__":Str))=false) (W:starEach (e::es) X.e=(false,eval e X.e)::starEach es X.e) (w:(backTo N (starEach es X.e)).any (·.1)=false) :
  PE X (.Call (.Name x p) (e::es) [] N) (tV X.K (cv a0 fs)):=
 (vW G hr Z hm hk V .nil sr T b W w).imp' λJ H Q hz=>by
  obtain⟨F,m,L,S,d,S',r,l,q,u⟩:=hz;obtain⟨z,h,I,q⟩:=aj q;obtain⟨E,D,M,q⟩:=aj q;obtain⟨v1,a,R,q⟩:=aj q;cases q;refine⟨F,m,L,S,z,h,r,l,I,λxs B g C A K p1=>?_⟩;show sh X.K a0 (xs++[]) C Q E0;rw[eA];refine⟨B,g,z,h,E,D,K,p1,M,λv F2 i y s2 r2 p2=>?_⟩;obtain⟨j,s3,P,l3,o⟩:=se 9 R r2 p2;have st:=s2.trans s3;have s:=K.len;by_cases c:(a.take h.length).all (MJ h.length)=true
  .have t:Ev.trunc h.length a=a.take h.length:=af c;rw[t]at u;have k:g.length≤i.length:=by
    obtain⟨nn,e⟩:=st.pre;rw[e,bz];lia
   have rt:=P.trunc (n:=h.length) (by rw[<- s];exact k) c;refine u v j (i.take g.length) y (A.trans st.trunc) ?_ o;rw[s];exact rt
  .have t:Ev.trunc h.length a=a:=ah c;rw[t]at u;exact u v j i y (A.trans st) P o
end
section
variable{X:Cx}{a b c e o i g:Expr}{C t r k z:EV}{h q:EE}{N G:Pos}
def s_ (i:Expr):Prop:=∀(o:Expr) (N:Pos) (e:Env) (v:Value),assign (.Subscript o i N) e v=(do
 let h <- holding [v] (eval o e)
 let iv <- holding [v,h] (eval i e)
 standAt N
 holding [v,h,iv] (setItem h iv v)
 release [v,h,iv] [])
def E9(o:EE)(k v:EV):ES:=λL S=>a6 (v L S) λy x=>a6 (o L x) λd a=>a6 (k L a) λz h=>match eZ d h,z with
 |some (i,s),.int n=>match F6 s.length n with
  |some j=>some (.nx,L,h.set i (.lst (s.set j (.p y))))
  |none=>none
 |_,_=>none
theorem dB.setAt{K:FG}{F:Aa}{H:Hp}{m:List Addr}{d:D}{v:V}(h:RD K F H m d v):∀{s:List D}{xs:List V}(j:Nat),dB K F H m s xs->dB K F H m (s.set j d) (xs.set j v)
 | [],_,_,r=>by cases (show _=([]:List V) from r);exact rfl
 |_::_,_,0,r=>by obtain⟨x,a,rfl,p,r⟩:=r;exact⟨v,a,rfl,h,r⟩
 |_::_,_,j+1,r=>by obtain⟨x,a,rfl,p,r⟩:=r;exact⟨x,_,rfl,p,dB.setAt h j r⟩
theorem N5(ho:PE X o (tE X.K h))(hi:PE X i (tV X.K k))(hv:PE X g (tV X.K z))(hs:swapsWith g (some (.Subscript o i G)) N.line X.e=pure false)(hw:swappedStores [.Subscript o i G] g X.e=pure none)(A:s_ i) :
  PS X (.Assign [.Subscript o i G] g N) (mO X.K (E9 h k z)):=(Fj hv (Mg ho hi EY (A o G X.e)) hs hw).imp' λD J H hz=>by
 obtain⟨F,m,L,S,fl,L',S',r,l,q,e⟩:=hz;obtain⟨y,M,e1,q⟩:=aj q;obtain⟨d,Q,e2,q⟩:=aj q;obtain⟨s,R,e3,q⟩:=aj q;refine⟨F,m,L,S,y,M,r,l,e1,λv I V H1 c r1 p1=>?_⟩;refine⟨I,V,L,M,d,Q,r1,l.mono c,e2,λx F2 m2 H2 p r2 p2=>?_⟩;refine⟨F2,m2,L,Q,s,R,r2,(l.mono c).mono p,e3,λw f m3 b u E p3=>?_⟩;cases P:eZ d R with
 |none=>rw[P]at q;cases q
 |some t=>
  obtain⟨j,ds⟩:=t;rw[P]at q;cases s with
  |int n=>
   dsimp only at q;cases K:F6 ds.length n with
   |none=>rw[K]at q;cases q
   |some C=>
    rw[K]at q;cases q;obtain⟨rfl,es⟩:=l7 P;obtain⟨a,rfl,B⟩:=RD.mono u p2;obtain⟨xs,T,Z⟩:=E.obj j a _ B es;have pv:RD X.K f b m3 (.p y) v:=RD.mono u (RD.mono p (show RD X.K I H1 V (.p y) v from p1));cases (show w=.int n from p3);have W:∀zs,b a≠some (.tup zs):=λzs s=>by rw[T]at s;cases s
    have st:Stp f m3 b f m3 (cq b a (.lst (xs.set C v))):=gC E B es trivial W;refine⟨a,xs,n,C,rfl,rfl,T,by rw[<- Z.length];exact K,?_⟩;exact e J f m3 _ (c.trans (p.trans (u.trans st))) (E.set B es trivial W ⟨_,aV,dB.mono st (dB.setAt pv C Z)⟩) (((l.mono c).mono p).mono (u.trans st))
  |_=>cases q
def jq(o:EE)(k v:EV):ES:=λL S=>match w8 o k v L S with
 |some r=>some r
 |none=>E9 o k v L S
theorem N6(j:X.A.units+1 < cLine)(d:PE X o (tE X.K h))(v:PE X i (tV X.K k))(u:PE X g (tV X.K z))(w:swapsWith g (some (.Subscript o i G)) N.line X.e=pure false)(hw:swappedStores [.Subscript o i G] g X.e=pure none)(t:s_ i) :
  PS X (.Assign [.Subscript o i G] g N) (mO X.K (jq h k z)):=λB s J H D I x=>by
 obtain⟨F,m,L,S,b,n,f,r,l,q,a⟩:=x;cases c:w8 h k z L S with
 |some e=>
  have p:some e=some (b,n,f):=by have:=q;unfold jq at this;rw[c]at this;exact this
  cases p;exact Q' j d v u w B s J H D I ⟨F,m,L,S,b,n,f,r,l,c,a⟩
 |none=>
  have p:E9 h k z L S=some (b,n,f):=by have:=q;unfold jq at this;rw[c]at this;exact this
  exact N5 d v u w hw t B s J H D I ⟨F,m,L,S,b,n,f,r,l,p,a⟩
@[simp] def oR(g n:P->P->Option P)(a b c:EV)(L:Lc)(S:aA):tyV:=a6 (a L S) λx e=>a6 (b L e) λy h=>match g x y with
 |some (.bl true)=>a6 (c L h) λz s=>(n y z).map λv=>(v,s)
 |some (.bl false)=>some (.bl false,h)
 |_=>none
theorem x9{g c:P->P->Option P}{J:L2.St}{H:Hp}{Q:VK}(h:tV X.K (oR g c C t r) J H Q):yP (rP X.K g) (rP X.K c) (tV X.K C) (tV X.K t) (tV X.K r) J H Q:=by
 obtain⟨F,m,L,S,d,S',a,l,q,k⟩:=h;obtain⟨x,o,e1,q⟩:=aj q;obtain⟨y,K,e2,q⟩:=aj q;refine⟨F,m,L,S,x,o,a,l,e1,λv N m1 H1 G r1 p1=>?_⟩;refine⟨N,m1,L,o,y,K,r1,l.mono G,e2,λu R i H2 I B A=>?_⟩;cases b:g x y with
 |none=>rw[b]at q;cases q
 |some z=>
  rw[b]at q;cases z with
  |bl e=>
   refine⟨R,x,y,_,B.ft,RP.mono I p1,A,b,λw f j p p3=>⟨e,p3,?_⟩⟩;have w1:Stp F m H f i j:=G.trans (I.trans p.stp);have D:=B.grow p;cases e with
   |false=>rw[ah bP];cases q;exact k _ f i j w1 D rfl
   |true=>
    rw[af rfl];dsimp only at q;obtain⟨z,Z,e3,q⟩:=aj q;refine⟨f,i,L,K,z,Z,D,l.mono w1,e3,λw' T m4 H4 M E p4=>?_⟩;cases s:c y z with
    |none=>rw[s]at q;cases q
    |some z2=>rw[s]at q;cases q;exact⟨T,y,z,_,E.ft,RP.mono M (RP.grow p A),p4,s,λw2 V W n p5=>k w2 V m4 W (w1.trans (M.trans n.stp)) (E.grow n) p5⟩
  |_=>cases q
theorem Lm(n:qd X (compareOp op) v)(o:qd X (compareOp u) g')(x:PE X a (tV X.K C))(e:PE X b (tV X.K t))(s:PE X c (tV X.K r))(m:lastMarks [op,u] [b,c]=false) :
  PE X (.Compare a [op,u] [b,c] N) (tV X.K (oR v g' C t r)):=(Fz n o x e s m).imp' λ_ _ _ h=>x9 h
theorem K8(z:qd X (compareOp op) u)(o:qd X (compareOp op') g')(g:PE X a (tV X.K C))(i:PE X b (tV X.K t))(j:PE X c (tV X.K r))(y:lastMarks [op,op'] [b,c]=false) :
  PT X (.Compare a [op,op'] [b,c] N) (tQ X.K (bV (oR u g' C t r))):=(Fg z o g i j y).imp' λJ H Q h=>by
 refine x9 ?_;obtain⟨F,m,L,S,d,A,e,l,q,k⟩:=h;obtain⟨x,B,w,q⟩:=aj q;cases x with
 |bl b=>cases q;exact⟨F,m,L,S,_,_,e,l,w,λv n K f s P p=>⟨_,p,k n K f s P⟩⟩
 |_=>cases q
def vK:P->Option Bool
 | .non=>some false
 | .bl b=>some b
 | .int i=>some (i != 0)
 | .str x=>if jb x.length=true then some ((x.length:Int) != 0) else none
 | .tup xs=>some (!xs.isEmpty)
 | .lst xs=>some (!xs.isEmpty)
 | .ro xs=>some (!xs.isEmpty)
 | .dct k _=>some (!k.isEmpty)
def Iv:D->aA->Option Bool
 | .p v,_=>vK v
 | .ref i,S=>match S[i]? with
  |some (.lst d)=>some (!d.isEmpty)
  |some (.dct k _)=>some (!k.isEmpty)
  |some (.fz v)=>vK v
  |_=>none
@[simp] def bT(f:EE)(L:Lc)(S:aA):NH:=a6 (f L S) λd h=>(Iv d h).map λb=>(b,h)
theorem jQ{xs:List l}{y:List L}(h:xs.length=y.length):xs.isEmpty=y.isEmpty:=by cases xs<;>cases y<;>first|rfl|simp at h
theorem nM(p:RP X.K F H w v)(h:vK w=some u):NA X.K v H u:=by
 cases w with
 |non=>cases (show v=.non from p);cases h;rfl
 |bl b=>cases (show v=.bl b from p);cases h;rfl
 |int b=>cases (show v=.int b from p);cases h;rfl
 |str x=>
  cases (show v=.str x from p);simp only[vK]at h;split at h
  .rename_i c;cases h;exact⟨jV c,rfl⟩
  .cases h
 |tup d=>obtain⟨a,xs,rfl,t,r⟩:=p;cases h;exact .inr (.inl ⟨xs,t.sq,by rw[jQ r.length]⟩)
 |lst d=>obtain⟨a,xs,rfl,t,r⟩:=p;cases h;exact .inl ⟨xs,t.sq,by rw[jQ r.length]⟩
 |ro d=>obtain⟨a,xs,rfl,t,r⟩:=p;cases h;exact .inl ⟨xs,t.sq,by rw[jQ r.length]⟩
 |dct s d=>obtain⟨a,k,rfl,_,hk,e,r⟩:=p;cases h;exact .inr (.inr ⟨k,hk,by rw[<- e];cases k<;>rfl⟩)
theorem yT(h:PE X e (tE X.K q))(D:∀o,isTrue e X.e o=(do let v <- o;standAt e.pos;holding [v] (truthy v))):PT X e (tQ X.K (bT q)):=
 (Ff h D).imp' λJ H Q E=>by
  obtain⟨F,m,L,S,d,M,r,l,s,k⟩:=E;obtain⟨x,P,B,s⟩:=aj s;cases n:Iv x P with
  |none=>rw[n]at s;cases s
  |some t=>
   rw[n]at s;cases s;refine⟨F,m,L,S,x,_,r,l,B,λv z G K I c i=>⟨_,?_,k z G K I c⟩⟩;cases x with
   |p w=>exact nM i n
   |ref j=>
    obtain⟨a,rfl,g⟩:=i;simp only[Iv]at n;split at n
    .rename_i A f;cases n;obtain⟨xs,u,y⟩:=c.obj j a _ g f;exact .inl ⟨xs,g0.of u,by rw[jQ y.length]⟩
    .rename_i N A f;cases n;obtain⟨b,u,C,y⟩:=c.obj j a _ g f;exact .inr (.inr ⟨b,u,by rw[<- C];cases b<;>rfl⟩)
    .rename_i w f;exact nM (c.obj j a _ g f) n
    .cases n
@[simp] def vT(g:ki)(f:EV)(L:Lc)(S:aA):yL:=a6 (f L S) λv x=>match g v L with
 |some h=>some (.nx,h,x)
 |none=>none
theorem Q_(p:PE X e (tV X.K C))(d:PG X tg (gT X.K u))(w:swapsWithSole [tg] e N.line X.e=pure false)(hw:swappedStores [tg] e X.e=pure none)(t:(assignEach [tg] X.e).map (·.2)=[assign tg X.e]) :
  PS X (.Assign [tg] e N) (mO X.K (vT u C)):=(Fj p d w hw t).imp' λD J H z=>by
 obtain⟨F,m,L,S,P,o,K,r,l,q,k⟩:=z;obtain⟨v,b,c,q⟩:=aj q;refine⟨F,m,L,S,v,b,r,l,c,λx h a n s y j=>?_⟩;cases g:u v L with
 |none=>rw[g]at q;cases q
 |some L2=>rw[g]at q;cases q;exact⟨h,a,L,v,_,l.mono s,j,g,λf i=>k f h a n s y i⟩
def pP:P->P->Option P
 | .tup [],.tup s=>some (.tup s)
 |x,y=>wD x y
theorem Np{M:Program}{w:World}{A:Around}{E:VP}{s:Shared}{t b:Addr}{a:LV}{Q:VP}(n:IsTup s.heap t #[])(e:IsTup s.heap b a.toArray)(h:Q (.ref b) s):wpAny (model M w) A (binaryOp .Add (.ref t) (.ref b)) Q E s:=by obtain⟨o,g,k,m,l⟩:=id n;obtain⟨p,x,f,r,c⟩:=id e;cases o;cases p;cases k;cases l;cases f;cases c;exact yj ⟨_,g,rfl⟩ ⟨_,x,rfl⟩ yt ym uP uQ (uS _ _) (tuple_addW0 t b #[] a.toArray m r _ _ _ _ rfl) ⟨g,x,h⟩
theorem Mx:qd X (binaryOp .Add) pP:=by
 intro B s J H x y v u Q I r m h;obtain⟨F,e,n,d,t,c,p,q,k⟩:=h;have o:wD e n=some d->wx X (binaryOp .Add v u) (EP X B J Q) X.xe s:=λq=>Po B s J H x y v u Q I r m ⟨F,e,n,d,t,c,p,q,k⟩
 cases e with
 |tup f=>
  cases n with
  |tup es=>
   cases f with
   |nil=>cases q;obtain⟨a,xs,rfl,S,z⟩:=c;obtain⟨b,C,rfl,K,A⟩:=id p;cases (show xs=[] from z);cases r;cases m;obtain⟨w,l,g,_⟩:=I.tuple S.sq;obtain⟨i,P,j,_⟩:=I.tuple K.sq;cases l;exact Np g j ⟨.ref b,H,I,rfl,k _ F H .refl p⟩
   |cons _ _=>exact o q
  |_=>cases f<;>exact o q
 |_=>exact o q
def wM(K:FG)(m:SV)(x:Str)(v:P):Prop:=∃u w,m x=some u/\RelV w u/\∀F H,RP K F H v w
theorem Og(g:Gl X x)(h:wM X.K X.g x v)(hd:(x == ("__debug__":Str))=false):PE X (.Name x N) (tV X.K (vC v)):=by obtain⟨u,w,m,r,p⟩:=h;exact xC (Jh g m r hd) p
end
noncomputable def gZ(f:Str):LS->List D->Option D
 |k::h,d::s=>if k=f then some d else gZ f h s
 |_,_=>none
noncomputable def putK(f:Str):LS->LS
 | []=>[f]
 |k::s=>if k=f then k::s else k::putK f s
noncomputable def mP(f:Str)(y:D):LS->List D->List D
 | [],_=>[y]
 |k::h,d::s=>if k=f then y::s else d::mP f y h s
 |_::_,[]=>[]
def kl(K:FG)(c:Str)(C:Addr):Prop:=oN K mainGlobals c=some (some (.ref C))
variable{K:FG}
theorem kl.inj(h:kl K c v)(x:kl K c u):v=u:=by have:=h.symm.trans x;cases this;rfl
def Q9(K:FG)(A:Str->Str->Bool):Prop:=∀c f,A c f=true->∃C,kl K c C/\Cls K C/\np K C f
section
variable{K:FG}{F:Aa}{H:Hp}{m:List Addr}
theorem Cb:∀{a:List (Str×V)}{s:List D}{d:D},dB K F H m s (a.map (·.2))->gZ f (a.map (·.1)) s=some d->∃v,a.lookup f=some v/\RD K F H m d v
 | [],s,d,_,h=>by cases s<;>cases h
 |(k,x)::r,s,d,p,h=>by
  cases s with
  |nil=>cases h
  |cons q s=>
   obtain⟨y,w,e,c,t⟩:=p;simp only[aG,iY]at e;obtain⟨rfl,rfl⟩:=e;simp only[aG,gZ]at h;split at h
   .rename_i hk;cases h;subst hk;exact⟨x,by simp[gx],c⟩
   .rename_i hk;obtain⟨v,n,b⟩:=Cb t h;exact⟨v,by rw[qF,show(f == k)=false by simpa using λz=>hk z.symm];exact n,b⟩
theorem Ca:∀{v:List (Str×V)},(v.map (·.1)).contains f=false->v.lookup f=none
 | [],_=>rfl
 |(k,x)::r,h=>by simp only[aG,List.contains_cons,Bh]at h;rw[qF,h.1];exact Ca h.2
theorem Fe(h:RD K F H m u v):∀{s:List (Str×V)}{d:List D},dB K F H m d (s.map (·.2))->(j3 f v s).map (·.1)=putK f (s.map (·.1))/\dB K F H m (mP f u (s.map (·.1)) d) ((j3 f v s).map (·.2))
 | [],d,n=>⟨rfl,v,[],rfl,h,rfl⟩
 |(k,x)::r,d,n=>by
  cases d with
  |nil=>cases (show _=([]:List V) from n)
  |cons t d=>
   obtain⟨z,p,e,b,a⟩:=n;simp only[aG,iY]at e;obtain⟨rfl,rfl⟩:=e;by_cases hk:k=f
   .simp only[j3,hk,gw,aG,putK,mP];first|exact⟨rfl,v,_,rfl,h,a⟩|exact⟨trivial,v,_,rfl,h,a⟩
   .obtain⟨i,c⟩:=Fe h a;simp only[j3,hk,kA,aG,putK,mP];exact⟨by rw[i],x,_,rfl,b,c⟩
end
section
variable{X:Cx}{o e g:Expr}{f:Str}{N G j:Pos}{h z:EE}{A:Str->Str->Bool}{es:Ab}{fs:tm}
@[simp] def cc(A:Str->Str->Bool)(o:EE)(f:Str)(L:Lc)(S:aA):tw:=a6 (o L S) λd h=>match d with
 | .ref i=>match h[i]? with
  |some (.ins c k s)=>if A c f=true then (gZ f k s).map λz=>(z,h) else none
  |_=>none
 |_=>none
theorem RA(D:Q9 X.K A)(V:PE X o (tE X.K h))(I:attributeBase o f X.e (eval o X.e)=eval o X.e):PE X (.Attribute o f N) (tE X.K (cc A h f)):=(Mn V I).imp' λJ H Q Z=>by
 obtain⟨F,m,L,S,d,S',r,l,q,k⟩:=Z;obtain⟨x,g,K,q⟩:=aj q;refine⟨F,m,L,S,x,g,r,l,K,λv t m1 u s1 b p1=>?_⟩;cases x with
 |p w=>cases q
 |ref i=>
  obtain⟨a,rfl,R⟩:=p1;dsimp only at q;split at q
  .rename_i c ks j W;split at q
   .rename_i G;cases s:gZ f ks j with
    |none=>rw[s]at q;cases q
    |some z=>rw[s]at q;cases q;obtain⟨C,y,n,B,E,rfl,rs⟩:=b.obj i a _ R W;obtain⟨C',e,M,T⟩:=D c f G;cases kl.inj B e;obtain⟨v,P,p3⟩:=Cb rs s;exact⟨a,C,y,n,v,rfl,E,M,T,P,k v t m1 u s1 b p3⟩
   .cases q
  .cases q
@[simp] def iU(A:Str->Str->Bool)(o:EE)(f:Str)(v:EE)(L:Lc)(S:aA):yL:=a6 (v L S) λy x=>a6 (o L x) λd h=>match d with
 | .ref i=>match h[i]? with
  |some (.ins c k s)=>if (A c f && decide (k.length < 900))=true then some (.nx,L,h.set i (.ins c (putK f k) (mP f y k s))) else none
  |_=>none
 |_=>none
theorem N7(hA:Q9 X.K A)(ho:PE X o (tE X.K h))(hv:PE X g (tE X.K z))(n:swapsWith g (some (.Attribute o f G)) N.line X.e=pure false):PS X (.Assign [.Attribute o f G] g N) (mO X.K (iU A h f z)):=(Ma ho hv n).imp' λD J H hz=>by
 obtain⟨F,m,L,S,fl,L',S',r,l,q,k⟩:=hz;obtain⟨y,Q,e1,q⟩:=aj q;obtain⟨d,S2,e2,q⟩:=aj q;refine⟨F,m,L,S,y,Q,r,l,e1,λv Z m1 H1 I r1 p1=>?_⟩;refine⟨Z,m1,L,Q,d,S2,r1,l.mono I,e2,λx b B t M E p2=>?_⟩;cases d with
 |p w=>cases q
 |ref i=>
  obtain⟨a,rfl,P⟩:=p2;dsimp only at q;split at q
  .rename_i c ks ds n;split at q
   .rename_i K;rw[av]at K;cases q;obtain⟨C,u,s,R,T,rfl,rs⟩:=E.obj i a _ P n;obtain⟨C',j,hc,hn⟩:=hA c f K.1;cases kl.inj R j;have hl:s.length < 1000:=by have:=aM K.2;rw[aZ]at this;lia
    have V:∀W,t a≠some (.tup W):=λW e=>by rw[T]at e;cases e
    have st:Stp b B t b B (cq t a (.ins C u (j3 f v s))):=gC E P n trivial V;obtain⟨i1,i2⟩:=Fe (f:=f) (RD.mono st (RD.mono M p1)) (dB.mono st rs);exact⟨a,C,u,s,rfl,T,hc,hn,hl,k J b B _ (I.trans (M.trans st)) (E.set P n trivial V ⟨C,u,_,R,aV,i1,i2⟩) ((l.mono I).mono (M.trans st))⟩
   .cases q
  .cases q
@[simp] def dU(M:Str->Str->Option GF)(o:EE)(y:Str)(a:tm)(L:Lc)(S:aA):tw:=a6 (o L S) λd h=>match d with
 | .ref i=>match h[i]? with
  |some (.ins c k _)=>match M c y with
   |some g=>if k.contains y=true then none else a6 (a L h) λT x=>g (.ref i::T) x
   |none=>none
  |_=>none
 |_=>none
def Q6(X:Cx)(M:Str->Str->Option GF):Prop:=∀c y g,M c y=some g->∃C k f d p,kl X.K c C/\Cls X.K C/\Meth X.K C y f/\FnOk X.p X.w X.K X.g X.b tu k f d p (sh X.K g)/\Room k X.A/\Binds X.K d p []
variable{M:Str->Str->Option GF}{y:Str}
theorem uk(hM:Q6 X M){t:TE}{ta:TA}(b:∀C k f u j g,Cls X.K C->Meth X.K C y f->FnOk X.p X.w X.K X.g X.b tu k f u j (sh X.K g)->Room k X.A->Binds X.K u j []->PE X e (EU C y (sh X.K g) [] E0 (tE X.K h) (BO X.K fs))):PE X e (tE X.K (dU M h y fs)):=by
 intro B s J H Q I n;obtain⟨F,m,L,S,d,S',r,l,q,k⟩:=n;obtain⟨x,P,e1,q⟩:=aj q;cases x with
 |p w=>cases q
 |ref i=>
  dsimp only at q;split at q
  .rename_i c ks ds hs;split at q
   .rename_i g hg;split at q
    .cases q
    .rename_i hk;obtain⟨T,A,e2,q⟩:=aj q;obtain⟨C,kk,f,u,j,ec,hc,hm,hF,hr,hb⟩:=hM c y g hg;refine b C kk f u j g hc hm hF hr hb B s J H Q I ⟨F,m,L,S,.ref i,P,r,l,e1,λv R m1 H1 G E D=>?_⟩;obtain⟨a,rfl,o⟩:=id D;obtain⟨C',dx,K,z,hH,rfl,rs⟩:=E.obj i a _ o hs;cases kl.inj ec z;refine⟨a,dx,K,rfl,hH,Ca (by simpa using hk),R,m1,L,P,T,A,E,l.mono G,e2,λxs W m2 H2 N r2 p2=>?_⟩;show sh X.K g (V.ref a::(xs++[])) H2 Q E0;rw[eA];exact⟨W,m2,.ref i::T,A,d,S',r2,⟨_,_,rfl,RD.mono N D,p2⟩,q,λv Z m3 H3 s3 r3 p3=>k v Z m3 H3 (G.trans (N.trans s3)) r3 p3⟩
   .cases q
  .cases q
theorem Oe(x:Q6 X M)(n:PE X o (tE X.K h))(a:PA X (e::es) (BO X.K fs))(s:starEach (e::es) X.e=(false,eval e X.e)::starEach es X.e)(p:(backTo N (starEach es X.e)).any (·.1)=false)
  (q:eval (.Call (.Attribute o y j) (e::es) [] N) X.e=(do
   let v <- eval o X.e
   standAt j.atName
   let (f,first) <- holding [v] (getMethod v y u)
   callWith N f first (backTo N (starEach (e::es) X.e)) (backToKw N (keywordEach [] X.e)))) :
  PE X (.Call (.Attribute o y j) (e::es) [] N) (tE X.K (dU M h y fs)):=
 uk (t:=tE X.K h) (ta:=BO X.K fs) x λC k f d w g c m F r b=>Jg n c m F r b .nil sr a s p q
theorem Ld(z:Q6 X M)(D:PE X o (tE X.K h))
  (G:eval (.Call (.Attribute o y j) [] [] N) X.e=(do
   let u <- eval o X.e
   standAt j.atName
   let (f,first) <- holding [u] (getMethod u y pl)
   callWith N f first (backTo N (starEach [] X.e)) (backToKw N (keywordEach [] X.e)))) :
  PE X (.Call (.Attribute o y j) [] [] N) (tE X.K (dU M h y jT)):=
 uk (t:=tE X.K h) (ta:=BO X.K jT) z λC k f fd ps g P B w E K=>(Fs D P B w E K .nil sr G).imp' λJ H Q x=>by obtain⟨F,m,L,S,d,b,r,l,q,k⟩:=x;refine⟨F,m,L,S,d,b,r,l,q,λv s R e s' Z V=>?_⟩;obtain⟨a,p,fs,rfl,i,A,n,T,L2,S2,ds,c,r2,l2,W,I⟩:=k v s R e s' Z V;cases W;exact⟨a,p,fs,rfl,i,A,I [] n T e .refl r2 rfl⟩
@[simp] def oj(g:GF)(c:Str)(a:tm)(L:Lc)(S:aA):tw:=a6 (a L S) λT h=>match g (.ref h.length::T) (h++[.ins c [] []]) with
 |some (.p .non,x)=>some (.ref h.length,x)
 |_=>none
theorem Of{C f:Addr}{o:FuncData}{K:LS}{k:Nat}{x:Str}{p:Pos}{g:GF}(M:Mk X.K C f)(G:FnOk X.p X.w X.K X.g X.b tu k f o K (sh X.K g))(hr:Room (k+1) X.A)(hg:Gl X x)(hm:X.g x=some (.ref C))(Z:kl X.K x C)(hb:Binds X.K o K [])
  (ha:PA X (e::es) (BO X.K fs)) (i:(x == ("__debug__":Str))=false) (he:starEach (e::es) X.e=(false,eval e X.e)::starEach es X.e) (z:(backTo N (starEach es X.e)).any (·.1)=false) :
  PE X (.Call (.Name x p) (e::es) [] N) (tE X.K (oj g x fs)):=
 (B0 M G hr hg hm hb .nil sr ha i he z).imp' λJ H Q hz=>by
  obtain⟨F,m,L,S,d,S',r,l,q,k⟩:=hz;obtain⟨T,t,R,q⟩:=aj q;refine⟨F,m,L,S,T,t,r,l,R,λxs s a b s1 P p1=>λy h hy w j=>?_⟩;split at q
  .rename_i _ S2 V;cases q;have A:Stp s a b s a (cq b h (.own y)):=jL w;have r2:Rel X.K s (cq b h (.own y)) a t:=P.new w;have u:cq b h (.own y) y=none:=by rw[aN (aS j)];exact hy
   have B:Stp s a (cq b h (.own y)) s (a++[y]) (cq (cq b h (.own y)) y (.ins C h [])):=fA u;have r3:Rel X.K s (cq (cq b h (.own y)) y (.ins C h [])) (a++[y]) (t++[.ins x [] []]):=r2.own u ⟨C,h,[],Z,aV,rfl,rfl⟩;rw[eA];have c:(a++[y])[t.length]? = some y:=by rw[<- P.len,cy (al _)];simp
   refine⟨s,a++[y],.ref t.length::T,_,.p .non,_,r3,⟨_,_,rfl,⟨y,rfl,c⟩,dB.mono B (dB.mono A p1)⟩,V,λv E m4 I D r4 p4=>⟨p4,?_⟩⟩;refine k (.ref y) E m4 I (s1.trans (A.trans (B.trans D))) r4 ⟨y,rfl,?_⟩;obtain⟨n,W⟩:=D.pre;rw[W,bF (bO.mp c).1];exact c
  .cases q
end
theorem MH(h:attributeBase o y v (eval o v)=eval o v)(e:methodCallForm (u.length+([]:List Keyword).length) (backTo N (starEach u v)) (backToKw N (keywordEach [] v))=true)(l:(j.endLine == N.line)=true) :
  eval (.Call (.Attribute o y j) u [] N) v=(do
   let ov <- eval o v
   standAt j.atName
   let (f,first) <- holding [ov] (getMethod ov y (do return (<- importBound o v).getD true))
   callWith N f first (backTo N (starEach u v)) (backToKw N (keywordEach [] v))):=by
 have x:methodCallPos true o v j N=pure N:=by unfold methodCallPos;rw[l];rfl
 have a:∀ov,methodCall o y j N v ov (u.length+([]:List Keyword).length) (backTo N (starEach u v)) (backToKw N (keywordEach [] v))=(do
   let (f,first) <- holding [ov] (getMethod ov y (do return (<- importBound o v).getD true))
   callWith N f first (backTo N (starEach u v)) (backToKw N (keywordEach [] v))):=λov=>by
  unfold methodCall;rw[e,x];rfl
 have s:eval (.Call (.Attribute o y j) u [] N) v=(do
  let ov <- attributeBase o y v (eval o v)
  standAt j.atName
  methodCall o y j N v ov (u.length+([]:List Keyword).length) (backTo N (starEach u v)) (backToKw N (keywordEach [] v))):=by rfl
 rw[s,h];simp only[a]
section
variable{X:Cx}{o e g:Expr}{f:Str}{N G tpos:Pos}{h:EE}{z:EV}{A:Str->Str->Bool}
def yX(i:Nat)(v:EV):ES:=λL S=>match L[i]? with
 |some (some (.p (.int a)))=>a6 (v L S) λy h=>match y with
  | .int b=>some (.nx,L.set i (some (.p (.int (a+b)))),h)
  |_=>none
 |_=>none
theorem Rf(i:Nat)(d:X.N.Nodup)(h:PE X e (tV X.K z))(g:X.N[i]? = some x)(j:L2.Loc X.e.scope x)(u:X.fn x=true\/X.e.scope.names.lookup x=some .local):PS X (.AugAssign (.Name x G) .Add e N) (mO X.K (yX i z)):=
 (Mb d g j h MZ u).imp' λD J H o=>by
  obtain⟨F,m,L,S,M,C,E,r,l,q,k⟩:=o;unfold yX at q;split at q
  .rename_i a w;obtain⟨y,I,t,q⟩:=aj q;cases y with
   |int b=>cases q;obtain⟨B,p,P⟩:=l.at' i _ w;cases (show B=.int a from P);refine⟨_,p,F,m,L,S,_,_,r,l,t,λv s f n c A K=>?_⟩;cases (show v=.int b from K);exact⟨a,b,rfl,rfl,k _ s f n c A ((l.mono c).set (show RD X.K s n f (.p (.int (a+b))) (.int (a+b)) from rfl) i)⟩
   |_=>cases q
  .cases q
end
variable{F:Aa}{H:Hp}
theorem wZ:∀h:LS,cX K F H (h.map .str) (h.map V.str)
 | []=>rfl
 |s::r=>⟨_,_,rfl,rfl,wZ r⟩
variable{x:Str}
theorem Dx(s:LS)(h:u x=some (.ref a))(hk:K.lookup a=some ⟨.type "tuple",none,.seq v n,sl⟩)(z:v.size≤sizeLine)(e:bb (s.map V.str) v.toList):wM K u x (.tup (s.map .str)):=
 ⟨.ref a,.ref a,h,rfl,λF H=>⟨a,s.map V.str,rfl,.inr (.inr ⟨_,v,n,hk,rfl,rfl,rfl,z,e⟩),wZ s⟩⟩
open PySem.W (KasT kas_sort kas_ask kas_item kat_run kat_snds kat_lt kat_kind KatTups KatLex kat_nil kat_cons kat_yes kat_no kat_one)
noncomputable def JS{l:Type}(lt:Nat->Nat->Option Bool):KasT l->Option l
 | .ret a=>some a
 | .ask i j k=>match lt i j with
  |some b=>JS lt (k b)
  |none=>none
theorem GJ{l:Type}{lt:Nat->Nat->Option Bool}{c:Nat->Nat->(Bool->Shared->Prop)->Shared->Prop}{Q:l->Shared->Prop}{s:Shared}(x:∀i j b C,lt i j=some b->C b s->c i j C s){a:l}(q:Q a s) :
  ∀(t:KasT l),JS lt t=some a->t.kasWp c Q s
 | .ret _,h=>by cases h;exact q
 | .ask i j k,h=>by
  simp only[JS]at h;split at h
  .rename_i b e;exact x i j b _ e (GJ x q (k b) h)
  .cases h
section
variable{I:Program}{w:World}{A:Around}{E:VP}{s:Shared}{D:Addr}{T:LV}
theorem xP(few:T.length < 2):((arrOf (SortSt.mk' general' (T.toArray.zip T.toArray) #[] 7 none)).map (·.2))=T.toArray:=by
 have same:(T.toArray.zip T.toArray).map (·.2)=T.toArray:=by
  rcases T with _|⟨v,_|⟨u,r⟩⟩
  .simp
  .simp
  .exact absurd few (by simp)
 exact same
theorem GI(few:T.length < 2)(a:s.heap.get? D=some (seqObj "list" T.toArray v))
  (g:∀x c,(∀b o,b≠D->s.heap.get? b=some o->x.get? b=some o)->x.get? D=some (seqObj "list" T.toArray c)->u (.done (.ret .none)) { s with heap:=x }) :
  wpAny (model I w) A (Builtin.«list.sort» ⟨[.ref D],[]⟩) u E s:=by
 have m:T.length+1≤sizeLine:=by rw[oM];lia
 have cond:T.toArray.size < 2:=by simpa using few
 have h:=An a λ_=>(#[]:Array Value);rw[list_sort_plain];refine ae <|listItems_at a rfl <|ae <|Ak a rfl (ae <|seqEpoch_at h rfl <|ae <|yp (ae <|Bt (iG ?_) (cQ _)) (by simpa using u7 m)) (by simpa using u7 m) (cQ _);simp only[cond,gw];have k:∀b o,(s.heap.update D (kr λ_=>(#[]:Array Value))).get? b=some o->((((s.heap.update D (kr λ_=>(#[]:Array Value))).push { cls:=.type "tuple",data:=.seq T.toArray }).push { cls:=.type "list",data:=.seq ([]:LV).toArray })).get? b=some o:=
  λ_ _ q=>ba _ (ba _ q)
 have t:=k D _ h;refine ae <|aC <|ae <|aC ?_;refine ae <|seqEpoch_at t rfl <|ae <|Ak t rfl ?_ (cQ _) (by rw[xP few];simpa using AH (u7 m));rw[xP few];have Kb:=An t λ_=>T.toArray;simp only[bne_self_eq_false,vw,kA,failedOf];refine aC (g _ _ (λb o n e=>?_) Kb);exact((qf _ D _).2 b n).trans (k b o (((qf s.heap D _).2 b n).trans e))
theorem yd(q:∀a u,Q a u->v a u):∀(t:KasT l)(u:Shared),t.kasWp (kas_ask I w A κ T) Q u->t.kasWp (kas_ask I w A κ T) v u
 | .ret a,u,h=>q a u h
 | .ask _ _ k,_,h=>cM h (λb u e=>yd q (k b) u e) λ_ _ x=>x
theorem IF{f:Heap}{L l:Addr}{m:SV}{d:PN}{a:String}{o:Obj}{n:Nat}{G:VP}(F:Fr f L s.heap m)(N:News f L s.heap d)(hT:a="list"\/a="tuple")(ho:s.heap.get? l=some o)(hc:o.cls=.type a)(hd:o.data=.seq T.toArray n)(C:T.length < 64)
  (h1:T.length < 2->∀D g c,s.heap.get? D=none->Fr f L g m->News f L g ((D,seqObj "list" T.toArray c)::d)->G (.ref D) { s with heap:=g })
  (h2:2≤T.length->∀D e g,s.heap.get? D=none->(∀q ∈ d,q.1≠D)->Fr f L g m->News f L g ((D,seqObj "list" #[] e)::d) ->
   wpAny (model I w) A.in1.in1 (keyKind' T.toArray) (λV u=>(kas_sort T.length).kasWp (kas_ask I w A.in1.in1 V T) (λp u=>Ed f L m D e (p.toList.map λi=>T.getD i Value.none) (λu=>G (.ref D) u) u) u) (λ_ _=>False) { s with heap:=g }) :
  wpAny (model I w) A (call (.builtin "sorted") [.ref l]) G E s:=by
 have y:T.length≤sizeLine:=by rw[oM];lia
 refine Calls.call_function_entry (b:=Builtin.«sorted») kind_sorted plain_sorted entry_sorted (args_sorted1 (.ref l)) (ae (m:=checkCount "sorted" 1 1 1) <|aC <|ae <|wpAny_collect_seq l hT ho hc hd (λh k=>ae <|Bt ?_ y) y);have t:∀b,b=h.objs.size->s.heap.get? b=none:=λb hb=>by
  cases q:s.heap.get? b with
  |none=>rfl
  |some u=>exact absurd (aJ (k b u q)) (by rw[hb];exact jG _)
 have R:∀b u,s.heap.get? b=some u->(h.push { cls:=.type "list",data:=.seq T.toArray }).get? b=some u:=λb u e=>ba _ (k b u e);have H:(h.push { cls:=.type "list",data:=.seq T.toArray }).get? h.objs.size=some (seqObj "list" T.toArray 0):=cw _ rfl;have S:h.objs.size≠L:=λz=>by obtain⟨u,_,_,e,_⟩:=F.ns;rw[t L z.symm]at e;cases e
 have K:f.get? h.objs.size=none:=by
  rcases q:f.get? h.objs.size with _|u
  .rfl
  .have:=F.keep _ _ q;rw[t _ rfl]at this;cases this
 have neN:∀q ∈ d,q.1≠h.objs.size:=λq hq z=>by have:=(N q hq).1;rw[t _ z]at this;cases this
 have P:=F.keeps R;have B:=N.keeps R;refine ae (iG (rF (b:=Builtin.«list.sort») slot_list_sort ⟨_,H,rfl⟩ entry_list_sort ?_ (args_list_sort _)));by_cases few:T.length < 2
 .refine GI (s:={ s with heap:=h.push { cls:=.type "list",data:=.seq T.toArray } }) few H λg c Q e=>⟨_,rfl,aC ⟨_,rfl,h1 few _ g c (t _ rfl) ⟨?_,λb u q=>?_,F.above⟩ λq j=>?_⟩⟩
  .obtain⟨u,es,ep,Z,r⟩:=P.ns;exact⟨u,es,ep,Q L u S.symm Z,r⟩
  .exact Q b u (λz=>by rw[z,K]at q;cases q) (P.keep b u q)
  .rcases aQ.mp j with rfl|j
   .exact⟨e,S,K⟩
   .exact⟨Q _ _ (neN q j) (B q j).1,(B q j).2⟩
 .refine PySem.W.kat_list_sort (s:={ s with heap:=h.push { cls:=.type "list",data:=.seq T.toArray } }) P B H S K neN (by lia) C λe g W X=>?_;refine cM (h2 (by lia) _ e g (t _ rfl) neN W X) (λV u hu=>?_) λ_ _ x=>x;exact yd (λp v M=>M.mono λv M=>⟨_,rfl,aC ⟨_,rfl,M⟩⟩) _ _ hu
end
noncomputable def Sl:P->P->Option Bool
 | .tup [.str a,.int i],.tup [.str b,.int j]=>some (if a=b then decide (i < j) else decide (a.cps.toList < b.cps.toList))
 |_,_=>none
noncomputable def JI:P->Bool
 | .tup [.str _,.int _]=>true
 |_=>false
theorem JH(h:JI v=true):∃a i,v=.tup [.str a,.int i]:=by
 unfold JI at h;split at h
 .exact⟨_,_,rfl⟩
 .cases h
def nV(d:List P)(i j:Nat):Option Bool:=match d[i]?,d[j]? with
 |some x,some y=>Sl x y
 |_,_=>none
def pC(d:List P):Option (List P):=if d.length < 2 then some d else if d.length < 64 then (JS (nV d) (kas_sort d.length)).bind λp=>if p.size < 64 then some (p.toList.map λi=>d.getD i .non) else none else none
def sortable(d:List P):Bool:=d.all JI
def ou(d:List P):Option P:=if sortable d=true then (pC d).map .lst else none
def KV(h:Heap)(d:P)(v:Value):Prop:=∃x i a o n t u,d=.tup [.str x,.int i]/\v=.ref a/\h.get? a=some o/\o.cls=.type "tuple"/\o.data=.seq #[.str x t,.int i u] n
variable{L:Type}
theorem kJ:∀{xs:List l}{s:List L}{i:Nat}{x:l},Paired R xs s->xs[i]? = some x->∃y,s[i]? = some y/\R x y
 |_,_,_,_,.nil,h=>by simp at h
 |_,_,0,x,.cons (b:=b) r _,h=>⟨b,rfl,by simp at h;subst h;exact r⟩
 |_,_,i+1,x,.cons _ a,h=>by obtain⟨y,e,r⟩:=kJ (i:=i) a (by simpa using h);exact⟨y,by simpa using e,r⟩
theorem jr{l L:Type}{R:l->L->Prop}:∀{xs:List l}{y:List L},Paired R xs y->xs.length=y.length
 |_,_,.nil=>rfl
 |_,_,.cons _ r=>by rw[aR,aR,jr r]
section
variable{I:Program}{w:World}{A:Around}{E:VP}{s:Shared}
theorem Kc{d:List P}{T:LV}{i j:Nat}{b:Bool}{C:Bool->Shared->Prop}(r:Paired (KV s.heap) d T)(h:nV d i j=some b)(c:C b s):kas_ask I w A (tuples' true) T i j C s:=by
 unfold nV at h;split at h
 .rename_i x y m t;obtain⟨_,u,l,p,o,D,K,G,M,rfl,rfl,g,S,n⟩:=kJ r m;obtain⟨_,v,z,q,H,E,B,L,N,rfl,rfl,f,F,k⟩:=kJ r t;cases h;unfold kas_ask;rw[kD,kD,u,v];refine kat_lt g n f k (kat_cons (Bz ?_));by_cases e:l=z
  .rw [af e]at c;rw[fR e];refine kat_yes (kat_cons (By ?_));by_cases a:(p == q)=true
   .rw [a];rw[be (by rw[eq_of_beq a];exact zQ _)]at c;exact kat_yes (kat_nil c)
   .rw [Bool.not_eq_true]at a;rw[a];exact kat_no (kat_one _ _ (Aq (show PySem.W.BoolBack C (.bool _) s from c)))
  .rw [ah e]at c;rw[be e];exact kat_no (oneLt_str c)
 .cases h
theorem xB:∀{s:List P}{T:LV},Paired (KV a0) s T->∃fs,KatTups a0 T fs/\fs.length=s.length/\∀v ∈ fs,∃x t,v=Value.str x t
 |_,_,.nil=>⟨[],.nil,rfl,λ_ z=>nomatch z⟩
 |d::s,_,.cons k r=>by
  obtain⟨fs,f,h,e⟩:=xB r;obtain⟨x,i,a,o,n,t,u,rfl,rfl,b,c,hd⟩:=k;refine⟨.str x t::fs,.cons (xs:=#[.str x t,.int i u]) b c hd rfl f,by rw[aR,aR,h],λv m=>?_⟩;rcases aQ.mp m with rfl|m
  .exact⟨x,t,rfl⟩
  .exact e v m
theorem JB{d:List P}{T:LV}(r:Paired (KV s.heap) d T)(m:2≤T.length) :
  wpAny (model I w) A (keyKind' T.toArray) (λk h=>h=s/\∀i j b C,nV d i j=some b->C b h->kas_ask I w A k T i j C h) (λ_ _=>False) s:=by
 obtain⟨fs,f,x,a⟩:=xB r;refine kat_kind (T:=.type "str") f (by rw[x,jr r];lia) (λv n=>?_) rfl ⟨rfl,λi j b C e c=>Kc r e c⟩;obtain⟨i,t,rfl⟩:=a v n;exact PySem.W.Looks.of_peek (K:=[]) (λ_ _ z=>nomatch z) rfl
end
section
variable{X:Cx}
theorem F4{B:PN}{J:L2.St}{H:Hp}{s:Shared}(I:Inv X B J H s){F:Aa}:∀{e:List P}{xs:List V}{k:LV},cX X.K F H e xs->bb xs k->sortable e=true->Paired (KV s.heap) e k
 | [],_,_,h,r,_=>by cases (show _=([]:List V) from h);cases r;exact .nil
 |d::e,_,_,h,r,q=>by
  obtain⟨x,C,rfl,v,w⟩:=h;obtain⟨g,l⟩:=vx.mp (show(JI d && sortable e)=true from q);cases r with
  |cons z S=>refine .cons ?_ (F4 I w S l);obtain⟨y,i,rfl⟩:=JH g;obtain⟨a,D,rfl,A,_,_,rfl,f,_,_,rfl,b,c⟩:=v;cases z;cases f;cases b;cases c;obtain⟨j,K,⟨o,p,m,n,hd⟩,_⟩:=I.tuple A.sq;obtain⟨_,_,rfl,⟨t,rfl⟩,u,rfl⟩:=vals2 K;exact⟨y,i,a,o,n,t,u,rfl,rfl,p,m,hd⟩
theorem Op(r:bb xs v)(i:Nat):RelV (xs.getD i .non) (v.getD i Value.none):=by
 rw[kD,kD];cases e:xs[i]? with
 |none=>
  have l:=jr r;have:v[i]? = none:=by rw[A9]at e ⊢;lia
  rw[this];rfl
 |some x=>obtain⟨y,h,a⟩:=kJ r e;rw[h];exact a
theorem BI{xs:List V}{t:LV}(r:bb xs t):∀p:List Nat,bb (p.map λi=>xs.getD i .non) (p.map λi=>t.getD i Value.none)
 | []=>.nil
 |i::p=>.cons (Op r i) (BI r p)
theorem Fa{K:FG}{F:Aa}{H:Hp}{s:List P}{xs:List V}(r:cX K F H s xs):∀p:List Nat,cX K F H (p.map λi=>s.getD i .non) (p.map λi=>xs.getD i .non)
 | []=>rfl
 |i::p=>by
  refine⟨_,_,rfl,?_,Fa r p⟩;show RP K F H (s.getD i P.non) (xs.getD i V.non);rw[kD,kD];cases e:s[i]? with
  |none=>
   have l:=r.length;have:xs[i]? = none:=by rw[A9]at e ⊢;lia
   rw[this];rfl
  |some d=>obtain⟨x,h,a⟩:=r.get e;rw[h];exact a
theorem ut{B:PN}{J:L2.St}{H:Hp}{s:Shared}{r:Heap}{A:Nat}{m:SV}(I:Inv X B J H s)(y:s.heap.Ns X.e.locals m)(a:r.Ns X.e.locals m)(k:∀b o,b≠X.e.locals->s.heap.get? b=some o->r.get? b=some o):Inv X B J H { s with heap:=r,toks:=A }:=by
 have L:∀b u,H b=some u->b≠X.e.locals:=λb u e z=>by rw[z,I.free]at e;cases e
 refine I.step (g':=s.gens) (d':=s.drawn) (ch:=[]) (λ_ z=>nomatch z) (λb o h _ _ e _=>k b o h e) (λb o h _ _ e _=>⟨o.slots,k b o h e⟩) (λ_ _ _ _ n=>n) (λb o _ e=>?_) (λ_ _ e=>e) (λ_ _ _ e=>e) (λb G e=>⟨#[],by rw[e];simp⟩) (λK l=>?_) (λb u e=>?_) I.bare
 .by_cases h:b=X.e.locals
  .subst h;obtain⟨P,_,_,w,_⟩:=a;exact⟨P,w⟩
  .exact⟨o,k b o h e⟩
 .obtain⟨o,es,C,S,hd,D,t⟩:=y;obtain⟨E,i,g,f,d,F,p⟩:=l;rw[S]at f;cases f;rw[hd]at d;cases d;have:m=K:=funext λx=>(t x).symm.trans (p x);rw[<- this];exact a
 .refine (I.h b u e).stay (λc v j q=>k c v ?_ q) (λ_ q=>q) λ_ _ q=>q;rcases j with z|z
  .rw [z];exact L b u e
  .exact L c _ z
theorem xz{g h x:Heap}{L:Addr}{m:SV}(k:∀b o,g.get? b=some o->h.get? b=some o)(F:Fr g L x m)(N:News g L x (oH g h L)):∀b o,b≠L->h.get? b=some o->x.get? b=some o:=λb o a e=>by
 cases q:g.get? b with
 |some u=>have:=k b u q;rw[e]at this;cases this;exact F.keep b _ q
 |none=>exact(N (b,o) (xu a q e)).1
theorem ME{P:Program}{w:World}{H:Hp}{h:Heap}{a:Addr}{o:HO}(x:dC P w H h a o):∃u,h.get? a=some u:=by
 cases o with
 |lst xs=>obtain⟨_,_,_,_,e⟩:=x;exact⟨_,e⟩
 |tup xs=>obtain⟨_,_,_,_,e,_⟩:=x;exact⟨_,e⟩
 |dK k=>obtain⟨_,_,_,_,_,_,_,e,_⟩:=x;exact⟨_,e⟩
 |dT k=>obtain⟨_,_,_,_,_,_,_,e,_⟩:=x;exact⟨_,e⟩
 |dN k=>obtain⟨_,_,_,_,_,_,_,e,_⟩:=x;exact⟨_,e⟩
 |set S n=>obtain⟨_,_,_,_,e,_⟩:=x;exact⟨_,e⟩
 |ins C d fs=>obtain⟨_,_,_,e,_⟩:=x;exact⟨_,e⟩
 |own y=>exact x
 |xd fs=>obtain⟨_,⟨_,_,_,e,_⟩,_⟩:=x;exact⟨_,e⟩
 |rng lo i=>obtain⟨_,_,_,e⟩:=x;exact⟨_,e⟩
 |frz b u=>exact⟨_,x.1⟩
 |tbl p=>exact⟨_,(show h.get? a=some _ from x)⟩
 |met f y=>exact⟨_,(show h.get? a=some _ from x)⟩
 |ext s=>exact x.2.1
theorem Gk{B:PN}{J:L2.St}{H:Hp}{s:Shared}{D:Addr}(I:Inv X B J H s)(h:s.heap.get? D=none):H D=none:=by
 cases q:H D with
 |none=>rfl
 |some v=>obtain⟨u,e⟩:=ME (I.h D v q);rw[h]at e;cases e
theorem Dp{B:PN}{J:L2.St}{H:Hp}{s:Shared}{t:Heap}{S:Nat}{m:SV}{D:Addr}{u:HO}(I:Inv X B J H s)(y:s.heap.Ns X.e.locals m)(h:t.Ns X.e.locals m)(k:∀b o,b≠X.e.locals->s.heap.get? b=some o->t.get? b=some o)(j:s.heap.get? D=none)(i:dC X.p X.w (cq H D u) t D u):Inv X B J (cq H D u) { s with heap:=t,toks:=S }:=by
 have f:=Gk I j;have M:∀b o,s.heap.get? b=some o->b≠D:=λb o e z=>by rw[z,j]at e;cases e
 have r:∀b v,H b=some v->b≠D:=λb v e z=>by rw[z,f]at e;cases e
 have F:=ut (A:=S) I y h k;refine I.step (g':=s.gens) (d':=s.drawn) (ch:=[]) (λ_ z=>nomatch z) (λb o L _ _ e _=>k b o L e) (λb o L _ _ e _=>⟨o.slots,k b o L e⟩) (λb o _ e n=>(aN (M b o e)).trans n) (λb o _ e=>?_) (λb xs e=>(aN (r b _ e)).trans e) (λb o v e=>(aN (r b _ e)).trans e) (λb V e=>⟨#[],by rw[aN (r b _ e),e];simp⟩) (λG A=>?_) (λb v e=>?_) I.bare
 .by_cases L:b=X.e.locals
  .subst L;obtain⟨N,_,_,g,_⟩:=h;exact⟨N,g⟩
  .exact⟨o,k b o L e⟩
 .obtain⟨o,es,Q,C,hd,R,p⟩:=y;obtain⟨T,P,K,a,d,E,w⟩:=A;rw[C]at a;cases a;rw[hd]at d;cases d;have:m=G:=funext λx=>(p x).symm.trans (w x);rw[<- this];exact h
 .by_cases l:b=D
  .subst l;rw[aV]at e;cases e;exact i
  .rw [aN l]at e;exact(F.h b v e).stay (λ_ _ _ q=>q) (λc q=>(aN (r c _ q)).trans q) λc xs q=>(aN (r c _ q)).trans q
theorem wF:fL X (.builtin "sorted") (λxs H Q=>∃F a P S b,xs=[.ref a]/\(g0 X.K H a P\/p' X.K H a P)/\cX X.K F H S P/\sortable S=true/\pC S=some b/\∀l z,H l=none->cX X.K F H b z->Q (.ref l) (cq H l (.lst z))):=by
 intro B s J H xs us Q I r h;obtain⟨F,a,P,S,b,rfl,G,L,hs,k,q⟩:=h;obtain⟨u,rfl,rx⟩:=vals1 r;cases rx;obtain⟨m,R⟩:=I.fr;have w:∀(T:String)(hT:T="list"\/T="tuple")(t:LV)(o:Obj)(n:Nat),bb P t->s.heap.get? a=some o->o.cls=.type T->o.data=.seq t.toArray n->wx X (call (.builtin "sorted") [.ref a]) (EP X B J Q) X.xe s:=by
  intro T hT t o n M E C hd;have hl1:=L.length;have hl2:=jr M;have y:S.length < 64:=by
   unfold pC at k;split at k
   .lia
   .split at k
    .lia
    .cases k
  have A:∀(z:List V)(j:LV)(D:Addr)(f:Heap)(c:Nat),bb z j->cX X.K F H b z->j.length≤64->s.heap.get? D=none->Fr X.b X.e.locals f m->News X.b X.e.locals f ((D,seqObj "list" j.toArray c)::oH X.b s.heap X.e.locals)->EP X B J Q (.ref D) { s with heap:=f }:=
   λz j D f c vz rz hz K d N=>⟨.ref D,_,Dp (S:=s.toks) I R.ns d.ns (xz I.bk d λp hp=>N p (.tail _ hp)) K (show dC X.p X.w _ f _ (.lst z) from ⟨by rw[jr vz,oM];lia,j,c,vz,(N _ (.head _)).1⟩),rfl,q _ z (Gk I K) rz⟩
  refine IF R (FQ (g:=X.b)) hT E C hd (by lia) (λfew D f c K d N=>?_) λtwo D e f K ne d N=>?_
  .unfold pC at k;rw[af (by lia)]at k;cases k;exact A P t D f c M L (by lia) K d N
  .unfold pC at k;rw[ah (by lia),af y]at k;obtain⟨p,ep,k⟩:=qu.mp k;split at k;case isFalse=>cases k
   rename_i ps;cases k;have I1:Inv X B J H { s with heap:=f }:=ut (A:=s.toks) I R.ns d.ns (xz I.bk d λp hp=>N p (.tail _ hp));have Z:JS (nV S) (kas_sort t.length)=some p:=by rw[<- hl2,<- hl1];exact ep
   refine cM (JB (s:={ s with heap:=f }) (F4 I1 L M hs) two) (λκ v hv=>?_) λ_ _ x=>x;obtain⟨rfl,W⟩:=hv;exact GJ (a:=p) (Q:=λp u=>Ed X.b X.e.locals m D e (p.toList.map λi=>t.getD i Value.none) (λu=>EP X B J Q (.ref D) u) u) W (PySem.W.KasFin.intro d N (.head ne) λh2 c F2 N2=>A _ _ D h2 c (BI M p.toList) (Fa L p.toList) (by rw[aZ,nI];lia) K F2 N2) _ Z
 rcases G with G|G
 .obtain⟨t,r',pl,hz⟩:=I.list G;obtain⟨o,E,C,n,hd⟩:=pl.isList;exact w "list" (.inl rfl) t o n r' E C hd
 .obtain⟨t,r',⟨o,E,C,n,hd⟩,hz⟩:=I.tuple G;exact w "tuple" (.inr rfl) t o n r' E C hd
noncomputable def Ko:List D->Option (List P)
 | []=>some []
 | .p v::r=>(Ko r).map (v::·)
 | .ref _::_=>none
theorem EF:∀{d:List D}{T:List P},Ko d=some T->d=T.map .p
 | [],T,h=>by cases h;rfl
 | .p v::r,T,h=>by
  cases e:Ko r with
  |none=>simp only[Ko,e]at h;cases h
  |some w=>simp only[Ko,e]at h;cases h;rw[EF e];rfl
 | .ref _::_,T,h=>by cases h
theorem Kr:∀{T:List P}{xs:List V},dB K F H m (T.map .p) xs->cX K F H T xs
 | [],_,h=>h
 |_::_,_,h=>by obtain⟨x,r,e,a,s⟩:=h;exact⟨x,r,e,a,Kr s⟩
noncomputable def IJ:P->Option (List P)
 | .lst xs=>some xs
 | .ro xs=>some xs
 | .tup xs=>some xs
 |_=>none
def EZ:D->aA->Option (List P)
 | .p v,_=>IJ v
 | .ref i,S=>match S[i]? with
  |some (.lst d)=>Ko d
  |some (.fz v)=>IJ v
  |_=>none
@[simp] def wW(r:EE)(L:Lc)(S:aA):tyV:=a6 (r L S) λd h=>match EZ d h with
 |some xs=>(ou xs).map λv=>(v,h)
 |none=>none
theorem BR(p:RP K F H w v)(h:IJ w=some xs):∃a y,v=.ref a/\(g0 K H a y\/p' K H a y)/\cX K F H xs y:=by
 cases w with
 |tup d=>obtain⟨a,y,rfl,t,r⟩:=p;cases h;exact⟨a,y,rfl,.inr t.sq,r⟩
 |lst d=>obtain⟨a,y,rfl,t,r⟩:=p;cases h;exact⟨a,y,rfl,.inl t.sq,r⟩
 |ro d=>obtain⟨a,y,rfl,t,r⟩:=p;cases h;exact⟨a,y,rfl,.inl t.sq,r⟩
 |_=>cases h
theorem IK(r:Rel K F H m S)(p:RD K F H m u v)(h:EZ u S=some xs):∃a y,v=.ref a/\(g0 K H a y\/p' K H a y)/\cX K F H xs y:=by
 cases u with
 |p w=>exact BR p h
 |ref i=>
  obtain⟨a,rfl,x⟩:=p;simp only[EZ]at h;split at h
  .rename_i d es;obtain⟨y,e,s⟩:=r.obj i a _ x es;rw[EF h]at s;exact⟨a,y,rfl,.inl (g0.of e),Kr s⟩
  .rename_i w es;exact BR (r.obj i a _ x es) h
  .cases h
theorem Ex(i:Gl X "sorted")(j:X.g "sorted"=none)(g:PE X e (tE X.K q))(n:starEach [e] X.e=[(false,eval e X.e)]:=by rfl):PE X (.Call (.Name "sorted" p) [e] [] N) (tV X.K (wW q)):=
 (nR wF i j H_ (fX g js (by rw[n];rfl)) (by decide) (by decide) (by rw[n];rfl) rfl).imp' λJ H Q s=>by
  obtain⟨F,m,L,S,d,G,r,l,h,k⟩:=s;obtain⟨x,c,t,h⟩:=aj h;refine⟨F,m,L,S,x,c,r,l,t,λv b K E C f P=>?_⟩;split at h
  .rename_i xs w;unfold ou at h;split at h
   .rename_i n;cases o:pC xs with
    |none=>rw[o]at h;cases h
    |some u=>rw[o]at h;cases h;obtain⟨a,D,rfl,y,A⟩:=IK f P w;exact⟨b,a,D,xs,u,rfl,y,A,n,o,λz I s B=>k _ _ K _ (C.trans (de s).stp) (f.grow (de s)) (.newLst s B)⟩
   .cases h
  .cases h
end
noncomputable def QO(K:FG)(e:Bool)(a:Addr):It:=if e=true then Kg K a else Qz K a
inductive tIOI(K:FG)(en:Bool)(fe:EE)(J:L2.St)(H:Hp)(R:It->Hp->Prop):Prop
 |mk (F:Aa) (m:List Addr) (L:Lc) (S:aA) (j:Nat) (S':aA) (ds:List D) (h0_:Rel K F H m S) (h1_:RL K F H m J L) (h2_:fe L S=some (.ref j,S')) (h3_:S'[j]? = some (.lst ds)) (h4_:∀a F' m' H',Stp F m H F' m' H'->Rel K F' H' m' S'->m'[j]? = some a->R (QO K en a) H'):tIOI K en fe J H R
noncomputable def T9(K:FG)(e:Bool)(q:EE):TI:=λJ H R=>tIOI K e q J H R
theorem MW{K:FG}{F:Aa}{H:Hp}{e:Bool}{a:Addr}{xs:List V}{x:V}{i:Nat}{v:P}(q:g0 K H a xs)(s:xs[i]? = some x)(p:RP K F H v x) :
  (QO K e a).go i H/\∀y h,(QO K e a).yld i H y h->∃n,Grow F H n h/\RP K n h (if e=true then .tup [.int (i:Int),v] else v) y:=by
 cases e with
 |true=>
  refine⟨⟨xs,x,q,s⟩,λz h y=>?_⟩;obtain⟨b,y,rfl,k,rfl,f⟩:=y;have:y=x:=by have:=f xs q;rw[s]at this;cases this;rfl
  subst this;exact⟨F,cB k,RP.newTup k ⟨_,_,rfl,rfl,_,_,rfl,p,rfl⟩⟩
 |false=>
  refine⟨⟨xs,x,q,s⟩,λy h z=>?_⟩;obtain⟨rfl,z⟩:=z;have:=z xs q
  rw[s]at this;cases this;exact⟨F,.refl,p⟩
variable{xs:List V}
theorem Gb(q:g0 K H a xs)(h:xs.length≤i):(QO K v a).stop i H:=by
 cases v with
 |true=>exact⟨xs,q,h⟩
 |false=>exact⟨xs,q,h⟩
section
variable{X:Cx}{N:Pos}
theorem iO(h:PE X iter (tE X.K q)):PI X tg iter (T9 X.K false q):=(Jd h).imp' λJ H R z=>by obtain⟨F,m,L,S,j,d,w,r,l,b,es,k⟩:=z;refine⟨F,m,L,S,_,_,r,l,b,λx n t f v s p=>?_⟩;obtain⟨a,rfl,e⟩:=p;obtain⟨xs,c,u⟩:=s.obj j a _ e es;exact⟨a,rfl,⟨xs,g0.of c⟩,k a n t f v s e⟩
theorem zF:fL X (.type "range") (λxs H Q=>∃j:Int,xs=[.int j]/\∀r,H r=none->Q (.ref r) (cq H r (.rng 0 j))):=by intro B s J H xs a Q I r h;obtain⟨j,rfl,q⟩:=h;obtain⟨u,rfl,x⟩:=vals1 r;obtain⟨t,rfl⟩:=x;refine call_range_1 ?_;exact⟨.ref s.heap.objs.size,_,I.laid (o:=.rng 0 j) (λb o e=>ba _ e) (al _) ⟨_,_,_,cw _ rfl⟩,rfl,q _ (I.h.fresh (al _))⟩
theorem ui:∀{xs:List l}{s:List L},xs.length=s.length->(∀(i:Nat) x y,xs[i]? = some x->s[i]? = some y->R x y)->Paired R xs s
 | [],[],_,_=>.nil
 | [],_::_,h,_=>by simp at h
 |_::_,[],h,_=>by simp at h
 |x::xs,y::s,h,k=>.cons (k 0 x y rfl rfl) (ui (by simpa using h) λi a b e n=>k (i+1) a b (by simpa using e) (by simpa using n))
theorem zb(h:ItemsOf (λi v=>∃t,v=Value.int (0+i * 1) t) u n):bb ((List.range n).map λ(i:Nat)=>V.int (i:Int)) u.toList:=by
 obtain⟨z,f⟩:=h;refine ui (by simp[z]) λi x y a b=>?_;rw[dJ]at a;cases e:(List.range n)[i]? with
 |none=>rw[e]at a;cases a
 |some k=>
  rw[e]at a;cases a;have hk:k=i:=by have:=bO.mp e;obtain⟨c,s⟩:=this;simpa using s.symm
  subst hk;obtain⟨t,rfl⟩:=f k y (by simpa using b);exact⟨t,by simp⟩
theorem yb(a:X.c=true):fL X (.type "list") (λxs H Q=>∃r j,xs=[.ref r]/\H r=some (.rng 0 j)/\j.natAbs < 1000000/\∀l,H l=none->Q (.ref l) (cq H l (.lst ((List.range j.toNat).map λ(i:Nat)=>V.int (i:Int))))):=by
 intro B s J H xs g Q I r h;obtain⟨m,j,rfl,b,w,q⟩:=h;obtain⟨u,rfl,p⟩:=vals1 r;cases p;obtain⟨t,u,v,o⟩:=I.h m _ b;refine call_list_range (n:=j.toNat) (I.o.hd a) o (small_one (by lia) (by lia) (by lia) (by lia)) (by rw[Bs];split<;>lia) (by lia) λk d x c hk e f=>?_
 exact⟨.ref s.heap.objs.size,_,I.laid (t':=d) hk (al _) (show dC X.p X.w _ k _ (.lst _) from ⟨by rw[aZ,List.length_range];exact aI (by lia:j.toNat≤1000000) (by decide),x.toList,c,zb f,by simpa using e⟩),rfl,q _ (I.h.fresh (al _))⟩
@[simp] def Oq(a:EV)(L:Lc)(S:aA):tyV:=a6 (a L S) λv h=>match v with
 | .int j=>if decide (j.natAbs < 1000000)=true then some (.lst (intsFrom 0 j.toNat),h) else none
 |_=>none
theorem w_:∀s:List Nat,cX K F H (s.map λ(i:Nat)=>P.int (0+(i:Int))) (s.map λ(i:Nat)=>V.int (i:Int))
 | []=>rfl
 |i::s=>⟨_,_,rfl,by show V.int _=V.int _;rw[cG],w_ s⟩
theorem Ii{a:Expr}{C:EV}{p G i y:Pos}(h:X.c=true)(A:Gl X "list")(D:X.g "list"=none)(g:Gl X "range")(s:X.g "range"=none)(K:PE X a (tV X.K C))(t:starEach [a] X.e=[(false,eval a X.e)])
  : PE X (.Call (.Name "list" p) [.Call (.Name "range" G) [a] [] y] [] i) (tV X.K (Oq C)):=
 (l0 (yb h) A D qv (fX (l0 zF g s boot_range (fX K js (by rw[t];rfl)) (by decide) (by decide) (by rw[t];rfl) rfl) js rfl) (by decide) (by decide) rfl rfl).imp' λJ H Q e=>by
  obtain⟨F,m,L,S,d,N,r,l,q,k⟩:=e;obtain⟨x,u,o,q⟩:=aj q;refine⟨F,m,L,S,x,u,r,l,o,λv f E b M I p=>?_⟩;cases x with
  |int j=>
   dsimp only at q;split at q
   .rename_i P;have B:j.natAbs < 1000000:=aM P;cases q;cases (show v=.int j from p);refine⟨j,rfl,λw n=>⟨w,j,rfl,aV,B,λz e=>?_⟩⟩;have c:Grow f b f (cq b w (.rng 0 j)):=cB n;exact k _ _ E _ (M.trans (c.stp.trans (de e).stp)) ((I.grow c).grow (de e)) (.newLst e (w_ _))
   .cases q
  |_=>cases q
end
section
variable{X:Cx}{N:Pos}
theorem CY{I:Program}{w:World}{A:Around}{E:VP}{s:Shared}{t l:Addr}{i:Array Value}{v u:Value}{lo x:Option Int}{Q:VP}(h:IsTup s.heap t i)(a:s.heap.IsSliceOf l v u .none)(p:IsPart v lo)(b:IsPart u x)
  (k:HT.fW i.size 0 lo=0) (f:HT.fW i.size i.size x=i.size) (q:Q (.ref t) s):wpAny (model I w) A (getItem (.ref t) (.ref l)) Q E s:=by
 have T:s.TypeIs (.ref l) "slice":=by obtain⟨o,e,n,_⟩:=a;exact⟨o,e,n⟩
 unfold getItem;try with_reducible refine iG ?_
 first|refine ae (aC ?_)|skip
 refine ae (D0 h.typeIs (by decide) ?_);refine ae (uK (name:=Str.ofString "__getitem__") h.typeIs ku (rF ku h.typeIs Ap ?_ (Ao _ _)));show wpAny _ _ (D_ (.ref t) >>= _) _ _ s;refine ae (Al h (ae (rj T ?_)));rw[af (by decide)];refine ae (HT.j6 a p b ?_);rw[k,f];have y:((((0:Nat):Int) == 0 && (1:Int) == 1 && (i.size-0) == i.size)=true):=by simp
 show wpAny _ _ (if ((((0:Nat):Int) == 0 && (1:Int) == 1 && (i.size-0) == i.size)=true) then _ else _) _ _ s;rw[af y];refine ae (ae (rj h.typeIs ?_));refine aC ?_;rw[af (by rfl)];first
  |exact ae (aC (aC ⟨_,rfl,aC q⟩))
  |exact ae (uI (aC ⟨_,rfl,aC q⟩))
  |exact aC ⟨_,rfl,aC q⟩
theorem EX:K4 X (λx lo e H Q=>∃a xs,x=.ref a/\p' X.K H a xs/\HT.fW xs.length 0 lo=0/\HT.fW xs.length xs.length e=xs.length/\Q (.ref a) H):=by
 intro B s J H x v d w lo e m Q I c f p u h;obtain⟨a,xs,rfl,b,n,k,q⟩:=h;cases c;obtain⟨i,r,t,_⟩:=I.tuple b;have l:i.toArray.size=xs.length:=by rw[bf];exact r.length.symm
 exact⟨"tuple",_,ku.lookup,t.typeIs,CY t f p u (by rw[l];exact n) (by rw[l];exact k) ⟨.ref a,H,I,rfl,q⟩⟩
def Nh:P->Option Int->Option Int->Option P
 | .tup xs,lo,h=>some (.tup (cut xs lo h))
 |x,lo,h=>UA x lo h
@[simp] def kH(a:EV)(lo n:EO)(L:Lc)(S:aA):tyV:=a6 (a L S) λx h=>a6 (lo L h) λi e=>a6 (n L e) λj s=>(Nh x i j).map λv=>(v,s)
theorem Rn{e:Expr}{lo K:Option Expr}{C:EV}{o z:EO}{N p2:Pos}(V:PE X e (tV X.K C))(Z:PO X lo (tO X.K o))(W:PO X K (tO X.K z)):PE X (.Subscript e (.Slice lo K none p2) N) (tV X.K (kH C o z)):=
 (Fp (IH.or (LR.or EX)) V Z W).imp' λJ H Q hz=>by
  obtain⟨F,m,L,S,d,S',r,l,q,k⟩:=hz;obtain⟨x,g,I,q⟩:=aj q;obtain⟨i,y,M,q⟩:=aj q;obtain⟨j,G,R,q⟩:=aj q;refine⟨F,m,L,S,x,g,r,l,I,λv A m1 H1 w r1 p1=>?_⟩;refine⟨A,m1,L,g,i,y,r1,l.mono w,M,λB m2 H2 u r2=>?_⟩;refine⟨B,m2,L,y,j,G,r2,(l.mono w).mono u,R,λD m3 E P f=>?_⟩;have c:=RP.mono P (RP.mono u p1);have b:=w.trans (u.trans P);cases x with
  |lst n=>cases q;obtain⟨a,xs,rfl,t,s⟩:=c;exact .inl ⟨a,xs,rfl,t.sq,λp h=>k _ _ m3 _ (b.trans (de h).stp) (f.grow (de h)) (.newLst h (s.cut i j))⟩
  |ro n=>cases q;obtain⟨a,xs,rfl,t,s⟩:=c;exact .inl ⟨a,xs,rfl,t.sq,λp h=>k _ _ m3 _ (b.trans (de h).stp) (f.grow (de h)) (.newLst h (s.cut i j))⟩
  |tup n=>
   obtain⟨a,xs,rfl,t,s⟩:=c;cases q;by_cases hw:HT.fW xs.length 0 i=0/\HT.fW xs.length xs.length j=xs.length
   .have T:cut n i j=n:=by
     unfold cut;rw[s.length,hw.1,hw.2,qC,AE,<- s.length,nC]
    rw[T]at k;exact .inr (.inr ⟨a,xs,rfl,t.sq,hw.1,hw.2,k _ D m3 E b f ⟨a,xs,rfl,t,s⟩⟩)
   .exact .inr (.inl ⟨a,xs,rfl,t.sq,hw,λp h=>k _ _ m3 _ (b.trans (cB h).stp) (f.grow (cB h)) (.newTup h (s.cut i j))⟩)
  |_=>cases q
abbrev cW:List P->Option P:=lI
variable{e:Expr}{es:Ab}{fs:ko}{p:Pos}
theorem K'(g:Gl X "int")(m:X.g "int"=none)(a:PA X (e::es) (tB X.K fs))(x:starEach (e::es) X.e=(false,eval e X.e)::starEach es X.e)(h:(backTo N (starEach es X.e)).any (·.1)=false) :
  PE X (.Call (.Name "int" p) (e::es) [] N) (tV X.K (b0 cW fs)):=yJ J2 g m HZ a (by decide) (by decide) x h
inductive PEs(X:Cx):Ab->List EV->Prop
 |nil:PEs X [] []
 |cons {e es f fs}:PE X e (tV X.K f)->PEs X es fs->PEs X (e::es) (f::fs)
@[simp] def ED(a b c:EV)(L:Lc)(S:aA):tyV:=a6 (a L S) λd h=>a6 (b L h) λy x=>a6 (c L x) λz e=>match d with
 | .dct s T=>match db y with
  |some k=>some ((cO k s T).getD z,e)
  |none=>none
 |_=>none
theorem ua:∀{k:List (cu×V)}{d:List P},cX K F H d (k.map (·.2))->cO u (k.map (·.1)) d=none->iA k u=none
 | [],d,r,h=>rfl
 |(a,v)::k,[],r,h=>by have:=r.length;simp at this
 |(a,v)::k,f::d,r,h=>by
  obtain⟨x,c,e,p,s⟩:=r;rw[aG]at e;injection e with b n;simp only[aG,cO]at h;by_cases hk:a=u
  .rw [af hk]at h;cases h
  .rw [ah hk]at h;rw[<- n]at s;rw[iz (p:=(a,v)) hk];exact ua s h
theorem La{o a b:Expr}{h C t:EV}{E G:Pos}(hu:X.A.units+1 < cLine)(ho:PE X o (tV X.K h))(ha:PE X a (tV X.K C))(hb:PE X b (tV X.K t))(m:M2 X o "get" E a b G):PE X (.Call (.Attribute o "get" E) [a,b] [] G) (tV X.K (ED h C t)):=
 (Fx hu ho ha hb m).imp' λJ H Q hz=>by
  obtain⟨F,m,L,S,d,S',r,l,q,k⟩:=hz;obtain⟨x,B,W,q⟩:=aj q;obtain⟨y,D,Z,q⟩:=aj q;obtain⟨z,T,e3,q⟩:=aj q;refine⟨F,m,L,S,x,B,r,l,W,λv N m1 H1 P r1 p1=>?_⟩;cases x with
  |dct ks V=>
   obtain⟨a,s,rfl,j,hk,ek,ra⟩:=id p1;refine⟨a,rfl,.inl ⟨s,.inl hk⟩,?_⟩;refine⟨N,m1,L,B,y,D,r1,l.mono P,Z,λvy R m2 H2 c r2 p2=>?_⟩;refine⟨R,m2,L,D,z,T,r2,(l.mono P).mono c,e3,λvz A m3 u p I p3=>?_⟩;have e:u a=some (.dK s):=(c.trans p).frk _ _ j hk;have n:=cX.mono p (cX.mono c ra);have py:=RP.mono p p2;dsimp only at q;split at q
   .rename_i K g;cases q;have i:=ju g py;subst i ek;have M:=P.trans (c.trans p);cases f:cO K (s.map (·.1)) V with
    |none=>have hm:=ua n f;refine⟨none,by rw[<- hm];exact lh.k e,?_⟩;rw[f]at k;exact k vz A m3 u M I p3
    |some w=>obtain⟨v,h1,h2⟩:=oQ n f;refine⟨some v,by rw[<- h1];exact lh.k e,?_⟩;rw[f]at k;exact k v A m3 u M I h2
   .cases q
  |_=>cases q
def QA(w:World):List DictEntry->List (Str×P)->Prop
 | [],[]=>True
 |e::es,(k,p)::r=>(∃t,e.key=.str k t)/\e.hash=hashStr w k/\(∃v,RelV v e.val/\∀K F H,RP K F H p v)/\QA w es r
 |_,_=>False
def S6(w:World)(K:FG)(m:SV)(x:Str)(k:List (Str×P)):Prop:=
 ∃a o es e,m x=some (.ref a)/\K.lookup a=some o/\o.ExactDict/\o.data=.dict es e/\QA w es.toList k/\(k.map (·.1)).Nodup
end
noncomputable def Ox:List cu->List P->Option (List (Str×P))
 | [],[]=>some []
 | .inr k::s,v::T=>(Ox s T).map λr=>(k,v)::r
 |_,_=>none
noncomputable def Gh:P->Bool
 | .dct _ _=>true
 |_=>false
def oI(w:World)(K:FG)(m:SV)(x:Str)(v:P):Prop:=(Gh v=false->wM K m x v)/\∀s T,v=.dct s T->∃k,Ox s T=some k/\S6 w K m x k
theorem oI.plain(h:wM K u x v)(a:Gh v=false):oI w K u x v:=⟨λ_=>h,λk T e=>by subst e;cases a⟩
end Ev
namespace Ev
open PySem PySem.Spec PyProof.Rows L2
theorem xN(f:Nat->β->Sem (ForInStep β))(I:Nat->β->Shared->Prop)(Q:β->Shared->Prop)(k:Nat)
  (turn:∀i b s,i < k->I i b s->wpAny M A (f i b) (λr s'=>match r with | .yield b'=>I (i+1) b' s' | .done b'=>Q b' s') E s)
  (fin:∀b s,I k b s->Q b s) (b:β) (h:I 0 b s):wpAny M A (forIn [0:k] b f) Q E s:=by
 rw[Std.Legacy.Range.forIn_eq_forIn_range'];refine BB f (λrest b s=>∃i,rest=AN i (k-i)/\i≤k/\I i b s) Q (λx rest b s ⟨i,e,hi,hI⟩=>?_) (λb s ⟨i,e,hi,hI⟩=>?_) _ b ⟨0,by simp[Std.Legacy.Range.size],cQ _,h⟩
 .obtain⟨m,hm⟩:∃m,k-i=m+1:=by
   cases q:k-i with
   |zero=>rw[q]at e;simp at e
   |succ m=>exact⟨m,rfl⟩
  rw[hm,vh]at e;injection e with e1 e2;subst e1;refine cM (turn x b s (by lia) hI) (λr s' hr=>?_) λ_ _ z=>z;cases r with
  |done b'=>exact hr
  |yield b'=>exact⟨x+1,by rw[e2];congr 1;lia,by lia,hr⟩
 .have:k-i=0:=by
   cases q:k-i with
   |zero=>rfl
   |succ m=>rw[q,vh]at e;cases e
  have:i=k:=by lia
  subst this;exact fin b s hI
section
open PySem.SeqAt PySem.MeetsSeq
open PySem.AutoSeq1 (wpAny_loadPart')
theorem CZ(l:Addr)(items:Array Value)(n:Nat)(dd:Option Addr)(sl:Array (OV))(x:Value)(e:Value->Bool)(j:Nat)(hj:j < items.size)
  (hit:e items[j]=true) (hno:∀m (hm:m < items.size),m < j->e items[m]=false) :
  Meets (Builtin.«tuple.index» ⟨[.ref l,x],[]⟩)
   (λA R s=>s.heap.get? l=some { cls:=.type "tuple",dict:=dd,data:=.seq items n,slots:=sl }/\(∀y,y ∈ items->EqAt A.in1 s y x (e y))/\R (.ok (.ret (.int j s.toks))) { s with toks:=s.toks+1 }):=
 .of_wp λprog w A R s h=>by
  obtain⟨hp,g,d,tk,os⟩:=s;obtain⟨hl,he,h⟩:=h
  wp_walk using mL hl,xN _ (λi b s'=>i≤j/\b.1=none/\s'=⟨hp,g,d,tk,os⟩) _
  case turn=>
   rintro i b s' hi ⟨hij,hb,rfl⟩;have hi':i < items.size:=by lia
   rw[Bl hi'];refine ae (he _ (Array.getElem_mem hi') prog w _ _ ?_);by_cases hc:i=j
   .subst hc;rw[hit]
    wp_walk
    exact⟨_,rfl,h⟩
   .rw [hno i hi' (by lia)]
    wp_walk
    exact⟨by lia,rfl,rfl⟩
  case fin=>rintro b s' ⟨hij,_,_⟩;exact absurd hij (by lia)
  case h=>exact⟨cQ _,rfl,rfl⟩
end
def mY(ps:List P)(y:P):Option Nat:=if (ps.all (cm 19) && cm 19 y)=true then (jD ps).findIdx? λz=>b9 z (pd y) else none
@[simp] def yK(fa fb:EV)(L:Lc)(S:aA):tyV:=a6 (fa L S) λv x=>match v with
 | .lst ps=>a6 (fb L x) λy h=>(mY ps y).map λ(i:Nat)=>(.int (i:Int),h)
 | .tup ps=>a6 (fb L x) λy h=>(mY ps y).map λ(i:Nat)=>(.int (i:Int),h)
 |_=>none
section
variable{X:Cx}{pins:PN}{J:L2.St}{H:Hp}{s:Shared}{F:Aa}{ps:List P}{y:P}{vy:V}{u:Value}{i:Nat}{Q:VK}{a:Addr}
theorem vX:∀qs:List P,(jD qs).length=qs.length
 | []=>rfl
 |q::qs=>by simp[jD,vX qs]
theorem Gq(j:X.A.units+64 < cLine)(I:Inv X pins J H s)(d:RP X.K F H y vy)(g:RelV vy u)(e:mY ps y=some i){v:Array Value}{f:List Addr}(k:ReadsAll s.heap v.toList (jD ps) f) :
  ∃t:i < v.size,b9 (kx s.heap v[i]) (pd y)=true/\(∀m (x:m < v.size),m < i->b9 (kx s.heap v[m]) (pd y)=false)/\v.size=ps.length /\
   ∀z,z ∈ v->SeqAt.EqAt X.A.in1 s z u (b9 (kx s.heap z) (pd y)):=by
 unfold mY at e;split at e;case isFalse=>cases e
 rename_i c;rw[av]at c;obtain⟨bs,w⟩:=gG I 19 d g c.2;have l:=B6 c.1;have q:=eX 19 _ c.2;obtain⟨t,b,r⟩:=Bb.mp e;have n:=Az _ _ _ l.1 k;have h:v.size=(jD ps).length:=by rw[<- n];simp
 have a:∀(m:Nat)(x:m < v.size),kx s.heap v[m]=(jD ps)[m]'(h ▸ x):=λm x=>by
  have:(v.toList.map (kx s.heap))[m]? = (jD ps)[m]?:=by rw[n]
  rw[dJ,Array.getElem?_toList,Bl x,bA (h ▸ x)]at this;simpa using this
 refine⟨by lia,?_,λm x p=>?_,by rw[h,vX],Ay k w l.1 q.1 (by lia)⟩
 .rw [a];exact b
 .rw [a];simpa using r m p
theorem Gp(e:mY ps y=some i):ps.all (cm 19)=true:=by
 unfold mY at e;split at e
 .rename_i h;rw[av]at h;exact h.1
 .cases e
theorem zD(P:X.A.units+64 < cLine)(I:Inv X pins J H s)(p:RP X.K F H (.lst ps) (.ref a))(D:RP X.K F H y vy)(G:RelV vy u)(e:mY ps y=some i)(q:Q (.int i) H) :
  wx X (call (.builtin "list.index") [.ref a,u]) (EP X pins J Q) X.xe s:=by
 have S:=Gp e;obtain⟨N,b⟩:=gG I 20 p (show RelV (.ref a) (.ref a) from rfl) (by simpa[cm] using S);rw[pd]at b;cases b with
 | @list l o L n _ c x k f w=>
  obtain⟨j,t,v,V,d⟩:=Gq P I D G e w;obtain⟨oc,B,C,h⟩:=o;dsimp only at k f;subst k f;have T:ps.length≤sizeLine:=by obtain⟨M,xs,m,K,E⟩:=p;cases m;obtain⟨z,A,Z,r,R,_⟩:=I.lstM K.2;have W:=E.length;lia
  have g:sizeLine < 2 ^ 63:=by decide
  exact jk Ad ⟨_,x,rfl⟩ PySem.F.entry_list_index (PySem.F.args_list_index_2 _ _) (SeqAt.list_indexAt a L n B h u _ i j (by lia) t v) ⟨x,d,⟨.int i,H,I.tok _,⟨_,rfl⟩,q⟩⟩
theorem x'(hu:X.A.units+64 < cLine)(I:Inv X pins J H s)(px:RP X.K F H (.tup ps) (.ref a))(py:RP X.K F H y vy)(ru:RelV vy u)(e:mY ps y=some i)(q:Q (.int i) H) :
  wx X (call (.builtin "tuple.index") [.ref a,u]) (EP X pins J Q) X.xe s:=by
 have ho:=Gp e;obtain⟨as,ra⟩:=gG I 20 px (show RelV (.ref a) (.ref a) from rfl) (by simpa[cm] using ho);rw[pd]at ra;cases ra with
 | @tuple l o vs n _ as' h1 h2 h3 h4=>obtain⟨hi,e1,e2,hz,eq⟩:=Gq hu I py ru e h4;obtain⟨oc,od,odt,osl⟩:=o;dsimp only at h2 h3;subst h2 h3;exact jk Ag ⟨_,h1,rfl⟩ PySem.F.entry_tuple_index (PySem.F.args_tuple_index_2 _ _) (CZ a vs n od osl u _ i hi e1 e2) ⟨h1,eq,⟨.int i,H,I.tok _,⟨_,rfl⟩,q⟩⟩
theorem Lf(hu:X.A.units+64 < cLine)(ho:PE X o (tV X.K fo))(he:PE X e (tV X.K fe))(hs:starEach [e] X.e=[(false,eval e X.e)])
  (w:attributeBase o "index" X.e (eval o X.e)=eval o X.e) (j:(M.endLine == g.line)=true):PE X (.Call (.Attribute o "index" M) [e] [] g) (tV X.K (yK fo fe)):=by
 intro pins s J H Q I ⟨F,m,L,S,d,S',r,l,q,k⟩;obtain⟨x,Z,e1,q⟩:=aj q;refine yz w (by rw[hs];rfl) j rfl (c_ (ho pins s J H (λv c=>∃f K,Stp F m H f K c/\Rel X.K f c K Z/\RP X.K f c x v) I ⟨F,m,L,S,x,Z,r,l,e1,λv f K c s1 r1 B=>⟨f,K,s1,r1,B⟩⟩) λu s1 hz=>?_);obtain⟨v,c,I1,ru,f,K,T,r1,B⟩:=hz;have t:∀(id:String)(ps:List P),a6 (fe L Z) (λy S2=>(mY ps y).map λ(i:Nat)=>((.int (i:Int):P),S2))=some (d,S') ->
   (∀(s:Shared)(h:Hp)(n:Aa)(y:P)(vy:V)(C:Value)(i:Nat),Inv X pins J h s->(∀p,RP X.K f c p v->RP X.K n h p v)->RP X.K n h y vy->RelV vy C->mY ps y=some i->Q (.int i) h->wx X (call (.builtin id) [u,C]) (EP X pins J Q) X.xe s) ->
   wx X (callWith g (.builtin id) [u] (backTo g (starEach [e] X.e)) []) (EP X pins J Q) X.xe s1:=by
  intro id ps q hc;obtain⟨y,S2,e2,q⟩:=aj q;obtain⟨i,E,q⟩:=eR.mp q;cases q;rw[hs];refine lS rfl (lR (fu (c_ (he pins s1 J c (λvy h=>∃n A,Stp f K c n A h/\Rel X.K n h A S'/\RP X.K n h y vy) I1 ⟨f,K,L,Z,y,S',r1,l.mono T,e2,λv n A h s2 r2 G=>⟨n,A,s2,r2,G⟩⟩) λC s2 ⟨vy,h,D,ruy,n,A,W,r2,G⟩=>i0 ?_)));exact hc s2 h n y vy C i D (λp R=>RP.mono W R) G ruy E (k _ n A h (T.trans W) r2 rfl)
 cases x with
 |lst ps=>obtain⟨a,xs,rfl,hq,rp⟩:=id B;cases (show u=Value.ref a from ru);obtain⟨z,its,n',rr,hl,N⟩:=I1.lstM hq.2;exact⟨"list","list.index",qo,Ad,PySem.F.type_list_index,⟨_,N,rfl⟩,λb eb=>by cases eb;exact⟨_,N,rfl⟩,t _ ps q λs h n y vy C i D R py ry E q=>zD hu D (R _ B) py ry E q⟩
 |tup ps=>obtain⟨a,xs,rfl,hq,rp⟩:=id B;cases (show u=Value.ref a from ru);obtain⟨its,rr,o,N,⟨ec,n',ed⟩,en⟩:=I1.tupleN hq.sq;exact⟨"tuple","tuple.index",PySem.F.plainAttrs_tuple,Ag,PySem.F.type_tuple_index,⟨_,N,ec⟩,λb eb=>by cases eb;exact⟨_,N,en⟩,t _ ps q λs h n y vy C i D R py ry E q=>x' hu D (R _ B) py ry E q⟩
 |_=>cases q
end
variable{L:Type}
noncomputable def cZ[DecidableEq L](k:L):List L->List D->Option D
 |h::s,v::x=>if h=k then some v else cZ k s x
 |_,_=>none
noncomputable def d7[DecidableEq L](k:L)(v:D):List L->List D->List L×List D
 |h::s,w::x=>if h=k then (h::s,v::x) else (h::(d7 k v s x).1,w::(d7 k v s x).2)
 |_,_=>([k],[v])
def eE:List P->Option (List cu)
 | []=>some []
 |p::r=>(db p).bind λk=>(eE r).map λs=>k::s
noncomputable def mS(d:D)(S:aA):Option (Nat×List (List cu)×List D):=match d with
 | .ref i=>match S[i]? with
  |some (.dtt k v)=>some (i,k,v)
  |_=>none
 |_=>none
theorem qS(h:mS d S=some (i,k,n)):d=.ref i/\S[i]? = some (.dtt k n):=by
 unfold mS at h;split at h
 .split at h
  .rename_i e;cases h;exact⟨rfl,e⟩
  .cases h
 .cases h
section
variable{K:FG}{F:Aa}{H:Hp}{m:List Addr}
theorem j7:∀{ps:List P}{s:List cu}{a:List V},eE ps=some s->cX K F H ps a->a=s.map kV
 | [],s,a,h,r=>by cases h;exact r
 |p::ps,s,a,h,r=>by
  obtain⟨x,m,rfl,b,c⟩:=r;unfold eE at h;cases e:db p with
  |none=>rw[e]at h;cases h
  |some k=>
   rw[e]at h;cases n:eE ps with
   |none=>rw[n]at h;cases h
   |some f=>rw[n]at h;cases h;rw[aG,ju e b,j7 n c]
theorem kG[DecidableEq L]:∀{C:List (L×V)}{s:List D},dB K F H m s (C.map (·.2)) ->
  match cZ k (C.map (·.1)) s with|some d=>∃v,iA C k=some v/\RD K F H m d v|none=>iA C k=none
 | [],s,r=>by have:s=[]:=i7 r.length;subst this;rfl
 |(h,v)::C,[],r=>by have:=r.length;simp at this
 |(h,v)::C,d::s,r=>by
  obtain⟨x,b,e,p,a⟩:=r;rw[aG]at e;injection e with n f;rw[<- f]at a;simp only[aG,cZ];by_cases hk:h=k
  .rw [af hk];exact⟨v,jn (p:=(h,v)) hk,by rw[show v=x from n];exact p⟩
  .rw [ah hk,iz (p:=(h,v)) hk];exact kG a
theorem oS[DecidableEq L](f:RD K F H m y u):∀{C:List (L×V)}{s:List D},(C.map (·.1)).Nodup->dB K F H m s (C.map (·.2)) ->
  (L2.putK C k u).map (·.1)=(d7 k y (C.map (·.1)) s).1/\dB K F H m (d7 k y (C.map (·.1)) s).2 ((L2.putK C k u).map (·.2))
 | [],s,_,r=>by have:s=[]:=i7 r.length;subst this;exact⟨rfl,u,[],rfl,f,rfl⟩
 |(h,w)::C,[],_,r=>by have:=r.length;simp at this
 |(h,w)::C,d::s,p,r=>by
  obtain⟨x,B,e,A,G⟩:=r;rw[aG]at e p;injection e with g i;subst g;subst i;obtain⟨b,t⟩:=ci.mp p;simp only[aG,d7];by_cases hk:h=k
  .subst hk;rw[af rfl];have same:∀l:List (L×V),h ∉ l.map (·.1)->l.map (λv=>if v.1=h then (v.1,u) else v)=l:=by
    intro l;induction l with
    |nil=>intro _;rfl
    |cons q l P=>
     intro n;rw[aG]at n;have j:¬q.1=h:=λz=>n (by rw[<- z];exact aF)
     rw[aG,ah j,P λz=>n (aH _ z)]
   have a:L2.putK ((h,w)::C) h u=(h,u)::C:=by unfold L2.putK;rw[af (by simp),aG,af rfl,same C b]
   rw[a];exact⟨rfl,u,_,rfl,f,G⟩
  .rw [ah hk];obtain⟨o,S⟩:=oS (k:=k) f t G;have a:L2.putK ((h,w)::C) k u=(h,w)::L2.putK C k u:=by
    unfold L2.putK;rw[dI,be (show ¬(h,w).1=k from hk),nH];by_cases c:(C.any λv=>decide (v.1=k))=true
    .rw [af c,af c,aG,ah (show ¬(h,w).1=k from hk)]
    .rw [ah c,ah c];rfl
   rw[a,aG,aG,o];exact⟨rfl,w,_,rfl,A,S⟩
end
section
variable{X:Cx}{pos G:Pos}{o T:Expr}{c:Ab}{fo:EE}{fs:ko}{fv:EV}
@[simp] def zt(_L:Lc)(S:aA):tw:=some (.ref S.length,S++[.dtt [] []])
theorem Li:PE X (.Dict [] [] pos) (tE X.K zt):=Fu.imp' λJ H Q z=>by obtain⟨F,m,L,S,d,x,r,l,q,k⟩:=z;cases q;intro p h;refine k (.ref p) F (m++[p]) _ (fA h) (r.own h ⟨[],aV,rfl,rfl⟩) ⟨p,rfl,?_⟩;rw[<- r.len,cy (al _)];simp
@[simp] def xU(o:EE)(k:ko)(L:Lc)(S:aA):tw:=a6 (o L S) λd x=>a6 (k L x) λps h=>match mS d h,eE ps with
 |some (_,s,v),some B=>if few ps=true then (cZ B s v).map λz=>(z,h) else none
 |_,_=>none
theorem JC(b:X.A.units+1 < cLine):DR X (λx y H Q=>∃a v,x=.ref a/\lh H a y (some v)/\(∃C,H a=some (.dT C))/\Q v H):=by intro T l pins s J H x y v u Q I c m h f;obtain⟨a,w,rfl,g,⟨C,hk⟩,q⟩:=h;cases c;obtain⟨_,_,_,_,o,_,_,e,k,_⟩:=I.h a _ hk;exact nu ⟨o,e,k.1⟩ yw.lookup (ux b I g m λp t n r=>⟨w,H,n,r,q⟩) f
theorem Rv {N} (hu:X.A.units+1 < cLine) (ho:PE X o (tE X.K fo)) (hk:PA X c (tB X.K fs)) (hs:mf (.Tuple c N G)):PE X (.Subscript o (.Tuple c N G) pos) (tE X.K (xU fo fs)):=
 (B1 (JC hu) ho (vV hk) hs).imp' λJ H Q hz=>by
  obtain⟨F,m,L,S,d,S',r,l,q,k⟩:=hz;obtain⟨x,K,W,q⟩:=aj q;obtain⟨ps,P,Z,q⟩:=aj q;refine⟨F,m,L,S,x,K,r,l,W,λv T m1 H1 I r1 p1=>?_⟩;refine⟨T,m1,L,K,ps,P,r1,l.mono I,Z,λR y m2 V M E G=>?_⟩;cases s:mS x P with
  |none=>rw[s]at q;cases q
  |some t=>
   obtain⟨j,ks,vs⟩:=t;rw[s]at q;cases h:eE ps with
   |none=>rw[h]at q;cases q
   |some B=>
    rw[h]at q;dsimp only at q;split at q
    .rename_i hf;obtain⟨z,eg,q⟩:=eR.mp q;cases q;obtain⟨rfl,n⟩:=qS s;obtain⟨a,rfl,hm⟩:=RD.mono M p1;obtain⟨C,f,u,rs⟩:=E.obj j a _ hm n;subst u;have A:=kG (k:=B) rs;rw[eg]at A;obtain⟨w,ev,i⟩:=A;refine⟨by rw[<- G.length];exact m7 hf,λb D=>?_⟩;have p:a≠b:=λz=>by rw[z,D]at f;cases f
     have e:cq V b (.tup R) a=some (.dT C):=by rw[aN p];exact f
     have g:=cB (F:=y) (o:=.tup R) D;rw[j7 h G]at e g ⊢;refine⟨a,w,rfl,by rw[<- ev];exact lh.t e aV,⟨C,e⟩,?_⟩;exact k w y m2 _ (I.trans (M.trans g.stp)) (E.grow g) (RD.mono g.stp i)
    .cases q
@[simp] def uu(o:EE)(k:ko)(L:Lc)(S:aA):tw:=a6 (o L S) λd h=>match mS d h with
 |none=>none
 |some _=>a6 (k L h) λps x=>match mS d x,eE ps with
  |some (_,s,v),some B=>if few ps=true then some ((cZ B s v).getD (.p .non),x) else none
  |_,_=>none
theorem Oh {N} (hu:X.A.units+1 < cLine) (ho:PE X o (tE X.K fo)) (hk:PA X c (tB X.K fs)) (I:M1 X o "get" ap (.Tuple c N G) cp) :
  PE X (.Call (.Attribute o "get" ap) [.Tuple c N G] [] cp) (tE X.K (uu fo fs)):=
 (Fy hu ho (vV hk) I).imp' λJ H Q hz=>by
  obtain⟨F,m,L,S,d,S',r,l,q,k⟩:=hz;obtain⟨x,p,e1,q⟩:=aj q;refine⟨F,m,L,S,x,p,r,l,e1,λv F1 m1 H1 V r1 p1=>?_⟩;cases e:mS x p with
  |none=>rw[e]at q;cases q
  |some t1=>
   obtain⟨j,ks1,vs1⟩:=t1;rw[e]at q;dsimp only at q;obtain⟨ps,Z,e2,q⟩:=aj q;obtain⟨rfl,y⟩:=qS e;obtain⟨a,rfl,hm⟩:=id p1;obtain⟨s,A,_,_⟩:=r1.obj j a _ hm y;refine⟨a,rfl,.inr ⟨s,.inl A⟩,?_⟩;refine⟨F1,m1,L,p,ps,Z,r1,l.mono V,e2,λus f m2 H2 W R G=>?_⟩;cases i:mS (.ref j) Z with
   |none=>rw[i]at q;cases q
   |some t=>
    obtain⟨j2,ks,vs⟩:=t;rw[i]at q;cases u:eE ps with
    |none=>rw[u]at q;cases q
    |some B=>
     rw[u]at q;dsimp only at q;split at q
     .rename_i hf;cases q;obtain⟨h,K⟩:=qS i;cases h;obtain⟨a',e4,M⟩:=RD.mono W p1;cases e4;obtain⟨C,P,E,rs⟩:=R.obj j a _ M K;subst E;have n:=kG (k:=B) rs;refine⟨by rw[<- G.length];exact m7 hf,λb hb=>?_⟩;have D:a≠b:=λz=>by rw[z,hb]at P;cases P
      have h:cq H2 b (.tup us) a=some (.dT C):=by rw[aN D];exact P
      have g:=cB (F:=f) (o:=.tup us) hb;rw[j7 u G]at h g ⊢;refine⟨iA C B,lh.t h aV,?_⟩;cases eg:cZ B (C.map (·.1)) vs with
      |none=>rw[eg]at n k;rw[show iA C B=none from n];exact k .non f m2 _ (V.trans (W.trans g.stp)) (R.grow g) rfl
      |some z=>rw[eg]at n k;obtain⟨w,ev,T⟩:=n;rw[ev];exact k w f m2 _ (V.trans (W.trans g.stp)) (R.grow g) (RD.mono g.stp T)
     .cases q
@[simp] def E8(o:EE)(k:ko)(v:EV)(L:Lc)(S:aA):yL:=a6 (v L S) λy a=>a6 (o L a) λd e=>a6 (k L e) λps h=>match mS d h,eE ps with
 |some (i,s,x),some B=>if (s.Nodup/\few s=true/\few ps=true) then some (.nx,L,h.set i (.dtt (d7 B (.p y) s x).1 (d7 B (.p y) s x).2)) else none
 |_,_=>none
theorem N3 {N} (hu:X.A.units+1 < cLine) (ho:PE X o (tE X.K fo)) (hk:PA X c (tB X.K fs)) (hv:PE X T (tV X.K fv)) (hs:swapsWith T (some (.Subscript o (.Tuple c N G) h)) pos.line X.e=pure false) :
  PS X (.Assign [.Subscript o (.Tuple c N G) h] T pos) (mO X.K (E8 fo fs fv)):=(BY hu ho (vV hk) hv hs).imp' λD J H hz=>by
 obtain⟨F,m,L,S,fl,L',S',r,l,q,k⟩:=hz;obtain⟨y,A,e1,q⟩:=aj q;obtain⟨d,E,e2,q⟩:=aj q;obtain⟨ps,I,e3,q⟩:=aj q;refine⟨F,m,L,S,y,A,r,l,e1,λv K V H1 s r1 p1=>?_⟩;refine⟨K,V,L,A,d,E,r1,l.mono s,e2,λx F2 m2 H2 e r2 G=>?_⟩;refine⟨F2,m2,L,E,ps,I,r2,(l.mono s).mono e,e3,λus P m3 H3 n r3 Z=>?_⟩;cases w:mS d I with
 |none=>rw[w]at q;cases q
 |some t=>
  obtain⟨j,ks,vs⟩:=t;rw[w]at q;cases p:eE ps with
  |none=>rw[p]at q;cases q
  |some B=>
   rw[p]at q;dsimp only at q;split at q
   .rename_i u;cases q;obtain⟨rfl,c⟩:=qS w;refine⟨by rw[<- Z.length];exact m7 u.2.2,λb hb=>?_⟩;have M:=cB (F:=P) (o:=.tup us) hb;have i:=r3.grow M;have f:=M.stp (m:=m3);obtain⟨a,rfl,g⟩:=RD.mono f (RD.mono n G);obtain⟨C,R,hk,rs⟩:=i.obj j a _ g c;subst hk;have pv:=RD.mono f (RD.mono n (RD.mono e (show RD X.K K H1 V (.p y) v from p1)));obtain⟨h1,h2⟩:=oS (k:=B) pv u.1 rs;have W:∀zs,cq H3 b (.tup us) a≠some (.tup zs):=λzs z=>by rw[R]at z;cases z
    have st:=gC (o:=.dT (L2.putK C B v)) i g c trivial W;have hl:C.length < sizeLine:=by have Q:(C.map (·.1)).length≤1000000:=aM u.2.1;rw[aZ]at Q;exact kC Q (by decide)
    refine⟨a,_,rfl,ye.t (k:=B) R ?_ hl,?_⟩
    .rw [j7 p Z];exact aV
    .exact k J P m3 _ (s.trans (e.trans (n.trans (f.trans st)))) (i.set g c trivial W ⟨_,aV,h1,dB.mono st h2⟩) ((((l.mono s).mono e).mono n).mono (f.trans st))
   .cases q
end
section
variable{X:Cx}{pins:PN}{J:L2.St}{H:Hp}{s:Shared}{a:Addr}{C:List (cu×V)}{B:cu}{u r:Value}{x:V}{A:Around}{E:VP}
theorem GW(I:Inv X pins J H s)(e:H a=some (.dK C))(K:C.length < sizeLine)(S:RelV (kV B) u)(o:RelV x r)
  (t:∀v w n,iA C B=some v->RelV v w->Inv X pins J H n->Q w n) (p:iA C B=none->∀n,Inv X pins J (cq H a (.dK (L2.putK C B x))) n->Q r n) :
  wpAny (model X.p X.w) A (call (.builtin "dict.setdefault") [.ref a,u,r]) Q E s:=by
 obtain⟨z,hd,F,l,k⟩:=KW I.h e;have h:=l.val B;refine ri Ah k.typeIs PySem.F.entry_dict_setdefault (PySem.F.args_dict_setdefault_3 _ _ _) (kt_meets_setdefault (cL X.p X.w) a (pG S) hd r)
  ⟨F,k,by rw[<- l.length];exact z,λv f=>?_,λc m d j=>?_⟩
 .cases q:iA C B with
  |none=>rw[q,f]at h;cases h
  |some b=>rw[q,f]at h;exact t b v _ q h (I.tok _)
 .have q:iA C B=none:=by
   cases q:iA C B with
   |none=>rfl
   |some b=>rw[q,c]at h;cases h
  refine p q _ ?_;have g:∃q,m.get? a=some q:=let ⟨q,_,_,i,_⟩:=d;⟨q,i⟩
  have y:(L2.putK C B x).length≤sizeLine:=by have:=lB C B x;lia
  exact rc I (by rw[e];exact True.intro) j g (GR y hd (l.put B o) d)
end
section
variable{X:Cx}{o e f:Expr}{ap cp:Pos}{fo fd:EE}{fk:EV}
@[simp] def oh(o:EE)(k:EV)(d:EE)(L:Lc)(S:aA):tw:=a6 (o L S) λx a=>match mU x a with
 |none=>none
 |some _=>a6 (k L a) λz e=>a6 (d L e) λy h=>match mU x h,db z with
  |some (i,s,v),some B=>if (s.Nodup/\few s=true) then match cZ B s v with
    |some w=>some (w,h)
    |none=>some (y,h.set i (.dct (d7 B y s v).1 (d7 B y s v).2))
   else none
  |_,_=>none
theorem Ik(ho:PE X o (tE X.K fo))(he:PE X e (tV X.K fk))(hf:PE X f (tE X.K fd))(n:M2 X o "setdefault" ap e f cp):PE X (.Call (.Attribute o "setdefault" ap) [e,f] [] cp) (tE X.K (oh fo fk fd)):=by
 intro pins s J H Q I ⟨F,m,L,S,d,S',r,l,q,k⟩;obtain⟨x,S1,e1,q⟩:=aj q;refine yx n.base n.few n.line uR Ah PySem.F.type_dict_setdefault
  (c_ (ho pins s J H (λv K=>∃b i,Stp F m H b i K/\Rel X.K b K i S1/\RD X.K b K i x v) I ⟨F,m,L,S,x,S1,r,l,e1,λv b i K s1 r1 p1=>⟨b,i,s1,r1,p1⟩⟩) λu s1 ⟨v,K,I1,ru,b,i,N,r1,p1⟩=>?_)
 cases A:mU x S1 with
 |none=>rw[A]at q;cases q
 |some t1=>
  obtain⟨j,ks1,vs1⟩:=t1;rw [A] at q;dsimp only at q;obtain⟨z,S2,e2,q⟩:=aj q;obtain⟨y,S3,e3,q⟩:=aj q;obtain⟨rfl,es1⟩:=vZ A;obtain⟨a,rfl,hm⟩:=id p1;obtain⟨kvs1,hH1,_,_⟩:=r1.obj j a _ hm es1;cases (show u=Value.ref a from ru);obtain⟨t1,t2,_⟩:=zd I1 (.inl ⟨kvs1,.inl hH1⟩);refine⟨t1,t2,?_⟩;rw [n.trees];refine lS rfl (lR (fu (c_ (he pins s1 J K (fun vz P=>∃c M,Stp b i K c M P/\Rel X.K c P M S2/\RP X.K c P z vz) I1 ⟨b,i,L,S1,z,S2,r1,l.mono N,e2,fun v c M P s2 r2 G=>⟨c,M,s2,r2,G⟩⟩) fun uz s2 ⟨vz,P,I2,rz,c,M,R,r2,G⟩=>
   fu (c_ (hf pins s2 J P (λvy g=>∃p m3,Stp c M P p m3 g/\Rel X.K p g m3 S3/\RD X.K p g m3 y vy) I2 ⟨c,M,L,S2,y,S3,r2,(l.mono N).mono R,e3,λv p m3 g s3 V p3=>⟨p,m3,s3,V,p3⟩⟩) λuy s3 ⟨vy,g,I3,ry,p,m3,w1,V,p3⟩=>i0 ?_))))
  cases eo:mU (.ref j) S3 with
  |none=>rw[eo]at q;cases q
  |some t=>
   obtain⟨j2,ks,vs⟩:=t;rw[eo]at q;cases ek:db z with
   |none=>rw[ek]at q;cases q
   |some B=>
    rw[ek]at q;dsimp only at q;split at q
    .rename_i hc;obtain⟨e4,D⟩:=vZ eo;cases e4;obtain⟨a',e5,E⟩:=RD.mono (R.trans w1) p1;cases e5;obtain⟨C,hH,hk,rs⟩:=V.obj j a _ E D;subst hk;have T:=kG (k:=B) rs;have pz:=RP.mono w1 G;have ez:=ju ek pz;subst ez;have hl:C.length < sizeLine:=by
      have h9:(C.map (·.1)).length≤1000000:=aM hc.2;rw[aZ]at h9;exact kC h9 (by decide)
     have stA:=N.trans (R.trans w1);refine GW I3 hH hl rz ry (λv w s' Z rv I'=>?_) λZ s' I'=>?_
     .cases W:cZ B (C.map (·.1)) vs with
      |none=>rw[W]at T;rw[show iA C B=none from T]at Z;cases Z
      |some w'=>rw[W]at T q;dsimp only at q;cases q;obtain⟨v',h,rd⟩:=T;rw[Z]at h;cases h;exact⟨v,g,I',rv,k v p m3 g stA V rd⟩
     .cases W:cZ B (C.map (·.1)) vs with
      |some w'=>rw[W]at T;obtain⟨v',h,_⟩:=T;rw[Z]at h;cases h
      |none=>
       rw[W]at q;dsimp only at q;cases q;obtain⟨h1,h2⟩:=oS (k:=B) p3 hc.1 rs;have nt:∀zs,g a≠some (.tup zs):=λzs z=>by rw[hH]at z;cases z
       have st:=gC (o:=.dK (L2.putK C B vy)) V E D trivial nt;exact⟨vy,_,I',ry,k vy p m3 _ (stA.trans st) (V.set E D trivial nt ⟨_,aV,h1,dB.mono st h2⟩) (RD.mono st p3)⟩
    .cases q
end
end Ev
set_option tactic.hygienic false
namespace PySem
open PySem PyProof.Rows
section
variable{prog:Program}{w:World}{A:Around}{E:VP}{s:Shared}
theorem wY(t:s.heap.IsTupleIter k h i)(f:s.heap.IsTuple h n)(b:n[i]? = some x)
  (e:∀a,a.IsTupleIter k h (i+1)->fw k s.heap a->Q x { s with heap:=a }):wpAny (model prog w) A (iX (.ref k)) Q E s:=by
 have T:=t.typeIs;obtain⟨⟨q,v,m,r⟩,o,c,hd⟩:=id t;obtain⟨u,l,_,p,d⟩:=f;dsimp only at c hd;subst c hd;unfold iX;apply ae;apply uK (name:=Str.ofString "__next__") T z0;refine rF z0 T F.entry_tuple_iterator_next ?_ (F.args_tuple_iterator_next_1 _);repeat first|with_reducible refine ae (eP o rfl (x:=.ref h) rfl ?_)|wp_step
 rw[d];apply aC;simp only[uN,b];apply ae;apply Bu o rfl (by simp);refine aC ⟨x,rfl,aC (e _ ⟨_,uW _ o rfl,rfl,?_⟩ (qf ..))⟩;simp[zM,rawInt]
def DS(t:Bool)(h:Heap)(i l:Addr)(k:Nat):Prop:=if t=true then h.IsTupleIter i l k else h.IsListIter i l k
def Kf(t:Bool)(h:Heap)(l:Addr)(y:Array Value):Prop:=if t=true then h.IsTuple l y else h.IsList l y
theorem DS.extBut(x:DS n h a l i)(s:Av b h k)(e:a≠b):DS n k a l i:=by
 cases n
 .exact Heap.IsListIter.extBut x s e
 .exact Heap.IsTupleIter.extBut x s e
theorem Kf.extBut(x:Kf n h a q)(s:Av b h k)(e:a≠b):Kf n k a q:=by
 cases n
 .exact Heap.IsList.extBut x s e
 .exact Heap.IsTuple.extBut x s e
theorem DS.obj(x:DS k h a l i):∃o,h.get? a=some o/\(∃v,o.data=.fields v)/\∀s,s.get? a=some o->DS k s a l i:=by
 cases k
 .obtain⟨o,e,c,d⟩:=x;exact⟨o,e,⟨_,d⟩,λs n=>⟨o,n,c,d⟩⟩
 .obtain⟨o,e,c,d⟩:=x;exact⟨o,e,⟨_,d⟩,λs n=>⟨o,n,c,d⟩⟩
theorem Gc(t:DS q s.heap k h i)(f:Kf q s.heap h n)(b:n[i]? = some x)
  (e:∀a,DS q a k h (i+1)->fw k s.heap a->Q x { s with heap:=a }):wpAny (model prog w) A (iX (.ref k)) Q E s:=by
 cases q
 .exact yA t f b e
 .exact wY t f b e
def gX(h:Heap)(z TI TO:Addr)(f x:Value):Prop:=h.get? z=some { cls:=.type "zip",data:=.fields #[f,x,.bool false,.ref TI,.ref TO] }
def d4(h:Heap)(T:Addr)(a b:Value):Prop:=h.get? T=some { cls:=.type "tuple",data:=.seq #[a,b] }
theorem En (l y:Addr) (xs ys:Array Value):Meets (Builtin.«zip.__new__» ⟨[.type "zip",.ref l,.ref y],[]⟩) (fun _ R s=>s.heap.IsList l xs/\s.heap.IsTuple y ys /\
  ∀v S F TI TO z,(∀b o,s.heap.get? b=some o->v.get? b=some o)->s.heap.objs.size≤S->S < F->F < TI->TI < TO->TO < z->v.IsListIter S l 0->v.IsTupleIter F y 0->d4 v TI (.ref S) (.ref F)->d4 v TO .none .none ->
   gX v z TI TO .none (.bool false)->R (.ok (.ret (.ref z))) { s with heap:=v }):=
 .of_wp λprog w A R s h=>by
  obtain⟨i,g,d,Z,os⟩:=s;obtain⟨B,C,h⟩:=h;have X:=sub_zip;have L:Heap.IsList (Shared.heap ⟨i,g,d,Z,os⟩) l xs:=B;have P:Heap.IsTuple (Shared.heap ⟨i.push { cls:=.type "list_iterator",data:=.fields #[.ref l,.int 0 0] },g,d,Z,os⟩) y ys:=C.push _
  wp_walk using yy L,D2 P
  have j:∀(u n x a f c:Heap)(r t p q m:Obj),n=u.push r->x=n.push t->a=x.push p->f=a.push q->c=f.push m->r.isFreed=false->t.isFreed=false->p.isFreed=false->q.isFreed=false->m.isFreed=false ->
    (∀b o,u.get? b=some o->c.get? b=some o)/\u.objs.size < n.objs.size/\n.objs.size < x.objs.size/\x.objs.size < a.objs.size/\a.objs.size < f.objs.size /\
    c.get? u.objs.size=some r/\c.get? n.objs.size=some t/\c.get? x.objs.size=some p/\c.get? a.objs.size=some q/\c.get? f.objs.size=some m:=by
   intro u n x a f c r t p q m E G I M N f1 f2 f3 f4 f5;have Q:n.get? u.objs.size=some r:=by rw[E];exact cw _ f1
   have T:x.get? n.objs.size=some t:=by rw[G];exact cw _ f2
   have V:a.get? x.objs.size=some p:=by rw[I];exact cw _ f3
   have W:f.get? a.objs.size=some q:=by rw[M];exact cw _ f4
   have g5:c.get? f.objs.size=some m:=by rw[N];exact cw _ f5
   have u2:∀b o,n.get? b=some o->x.get? b=some o:=λb o e=>by rw[G];exact ba _ e
   have D:∀b o,x.get? b=some o->a.get? b=some o:=λb o e=>by rw[I];exact ba _ e
   have K:∀b o,a.get? b=some o->f.get? b=some o:=λb o e=>by rw[M];exact ba _ e
   have H:∀b o,f.get? b=some o->c.get? b=some o:=λb o e=>by rw[N];exact ba _ e
   exact⟨λb o e=>H _ _ (K _ _ (D _ _ (u2 _ _ (by rw[E];exact ba _ e)))),aJ Q,aJ T,aJ V,aJ W,H _ _ (K _ _ (D _ _ (u2 _ _ Q))),H _ _ (K _ _ (D _ _ T)),H _ _ (K _ _ V),H _ _ W,g5⟩
  let r:Obj:={ cls:=.type "list_iterator",data:=.fields #[.ref l,.int 0 0] }
  let n:=i.push r
  let t:Obj:={ cls:=.type "tuple_iterator",data:=.fields #[.ref y,.int 0 0] }
  let x:=n.push t
  let p:Obj:={ cls:=.type "tuple",data:=.seq #[.ref i.objs.size,.ref n.objs.size] }
  let a:=x.push p
  let q:Obj:={ cls:=.type "tuple",data:=.seq #[.none,.none] }
  let f:=a.push q
  let m:Obj:={ cls:=.type "zip",data:=.fields #[.none,.bool false,.bool false,.ref x.objs.size,.ref a.objs.size] }
  obtain⟨k,s1,s2,s3,s4,a1,a2,a3,a4,a5⟩:=j i n x a f (f.push m) r t p q m rfl rfl rfl rfl rfl rfl rfl rfl rfl rfl;exact⟨_,rfl,h (f.push m) i.objs.size n.objs.size x.objs.size a.objs.size f.objs.size k (al _) s1 s2 s3 s4 ⟨_,a1,rfl,rfl⟩ ⟨_,a2,rfl,rfl⟩ a3 a4 a5⟩
end
section
variable{prog:Program}{w:World}{A:Around}{E:VP}{s:Shared}
theorem DL(h:Q (s.heap.get? a) s):wpAny M A (loadIfAlive a) Q E s:=λx p _=>by unfold loadIfAlive;rw[Sem.wp_loadIfAlive];exact(Sem.wp_pure ..).mpr h
theorem sJ{z TI TO T:Addr}{f:Bool}{o:Obj}{Q:Bool->Shared->Prop}(a:gX s.heap z TI TO (rawInt T) (.bool f))(n:s.heap.get? T=some o)
  (h:∀e,gX e z TI TO (rawInt T) (.bool true)->fw z s.heap e->Q false { s with heap:=e }):wpAny (model prog w) A (qe (.ref z)) Q E s:=by
 unfold qe;apply ae;refine eP (show s.heap.get? z=some _ from a) rfl (x:=rawInt T) rfl ?_;unfold rawInt;dsimp only;apply ae;refine DL ?_;rw[uN,n];rw[ah (by simp)];apply ae;refine eP (show s.heap.get? z=some _ from a) rfl (x:=.bool f) rfl ?_;cases f with
 |true=>rw[ah (by decide)];exact aC (h s.heap a ⟨rfl,λ_ _=>rfl⟩)
 |false=>rw[af (by decide)];apply ae;refine Bu (show s.heap.get? z=some _ from a) rfl (by simp) (aC (h _ ?_ (qf ..)));unfold gX;rw[uW _ (show s.heap.get? z=some _ from a) rfl];simp[zM]
theorem CQ{z TI TO i a l r T:Addr}{P:Bool}{k:Nat}{S F:Array Value}{x y:Value}{oT:Obj}{Q:VP}(d:gX s.heap z TI TO (rawInt T) (.bool P))(I:d4 s.heap TI (.ref i) (.ref a))(G:s.heap.get? T=some oT)
  (B:s.heap.IsListIter i l k) (C:s.heap.IsTupleIter a r k) (p:s.heap.IsList l S) (q:s.heap.IsTuple r F) (M:S[k]? = some x) (R:F[k]? = some y)
  (g:i≠z) (j:a≠z) (X:l≠z) (Z:r≠z) (H:a≠i) (n6:r≠i) (n7:l≠a) (n8:l≠i) (n9:r≠a)
  (D:∀m:Heap,gX m z TI TO (rawInt T) (.bool true)->m.IsListIter i l (k+1)->m.IsTupleIter a r (k+1)->(∀c o,c≠z->c≠i->c≠a->s.heap.get? c=some o->m.get? c=some o) ->
   Q (.ref m.objs.size) { s with heap:=m.push { cls:=.type "tuple",data:=.seq #[x,y] } }) :
  wpAny (model prog w) A (Builtin.«zip.__next__» ⟨[.ref z],[]⟩) (λt s'=>∃h,t=.done (.ret h)/\Q h s') E s:=by
 unfold Builtin.«zip.__next__»;apply ae;apply aC;apply ae;refine eP (show s.heap.get? z=some _ from d) rfl (x:=.bool false) rfl ?_;apply ae;refine eP (show s.heap.get? z=some _ from d) rfl (x:=.ref TI) rfl ?_;apply ae;refine kq (show s.heap.get? TI=some _ from I) rfl ?_;dsimp only;rw[ah (by simp)];apply ae;refine sJ d G λh0 u b=>?_
 rw[ah (by simp)];apply ae;rw[<- qO];show wpAny _ _ (forIn [Value.ref i,Value.ref a] _ _) _ _ _;rw[jI];apply ae;apply ae;apply iG;show wpAny _ _ (iX (.ref i) >>= _) _ _ _;apply ae;refine yA (B.extBut b.extBut g) (p.extBut b.extBut X) M λha V n=>aC ?_;dsimp only;apply aC;dsimp only;rw[jI];apply ae;apply ae;apply iG;show wpAny _ _ (iX (.ref a) >>= _) _ _ _;apply ae;refine wY ((C.extBut b.extBut j).extBut n.extBut H) ((q.extBut b.extBut Z).extBut n.extBut n6) R λL W f=>aC ?_;dsimp only;apply aC;dsimp only;rw[AQ];apply aC;dsimp only;apply ae;refine yp (hsz:=by show 2≤sizeLine;decide) (aC ⟨_,rfl,D L ?_ ?_ W ?_⟩)
 .exact f.extBut _ _ (aS j) (n.extBut _ _ (aS g) u)
 .exact V.extBut f.extBut (aS H)
 .exact λc o N v K e=>f.extBut _ _ K (n.extBut _ _ v (b.extBut _ _ N e))
theorem Eo{z TI TO i f n T:Addr}{t:Bool}{k:Nat}{m:Array Value}{S:Obj}{Q:Fin->Shared->Prop}(u:A.handled=none)(a:gX s.heap z TI TO (rawInt T) (.bool t))(I:d4 s.heap TI (.ref i) (.ref f))(d:s.heap.get? T=some S)
  (p:s.heap.IsListIter i n k) (l:s.heap.IsList n m) (g:m[k]? = none) (y:i≠z) (H:n≠z)
  (q:∀h e,(∀c o,c≠z->c≠i->s.heap.get? c=some o->h.get? c=some o)->(∃o,h.get? e=some o/\o.cls=.type "StopIteration")->E (.ref e) { s with heap:=h }) :
  wpAny (model prog w) A (Builtin.«zip.__next__» ⟨[.ref z],[]⟩) Q E s:=by
 unfold Builtin.«zip.__next__»;apply ae;apply aC;apply ae;refine eP (show s.heap.get? z=some _ from a) rfl (x:=.bool false) rfl ?_;apply ae;refine eP (show s.heap.get? z=some _ from a) rfl (x:=.ref TI) rfl ?_;apply ae;refine kq (show s.heap.get? TI=some _ from I) rfl ?_;dsimp only;rw[ah (by simp)];apply ae;refine sJ a d λF j b=>?_
 rw[ah (by simp)];apply ae;rw[<- qO];show wpAny _ _ (forIn [Value.ref i,Value.ref f] _ _) _ _ _;rw[jI];apply ae;apply ae;apply iG;show wpAny _ _ (iX (.ref i) >>= _) _ _ _;apply ae;exact D8 u (p.extBut b.extBut y) (l.extBut b.extBut H) g λh e x o=>q h e (λc K N v r=>x _ _ v (b.extBut _ _ N r)) o
end
section
variable{prog:Program}{w:World}{A:Around}{E:VP}{s:Shared}
theorem t5{tp:Bool}{k:Nat}{z TI TO i d D l:Addr}{xs ys:Array Value}{x y p q:Value}{Q:VP}(H:gX s.heap z TI TO .none (.bool false))(L:d4 s.heap TI (.ref i) (.ref d))(M:d4 s.heap TO p q)
  (h1:s.heap.IsListIter i D k) (h2:DS tp s.heap d l k) (R:s.heap.IsList D xs) (V:Kf tp s.heap l ys) (hx:xs[k]? = some x) (hy:ys[k]? = some y)
  (n1:i≠z) (n2:d≠z) (n3:D≠z) (n4:l≠z) (n5:d≠i) (n6:l≠i) (G:TO≠z) (n8:TO≠i) (n9:TO≠d) (n10:l≠TO)
  (hQ:∀(g:Heap) (T:Addr),gX g z TI TO (rawInt T) (.bool false)->g.IsListIter i D (k+1)->DS tp g d l (k+1)->d4 g TO x y->d4 g T x y->T=s.heap.objs.size->(∀c o,c≠z->c≠i->c≠d->c≠TO->s.heap.get? c=some o->g.get? c=some o) ->
   Q (.ref T) { s with heap:=g }) :
  wpAny (model prog w) A (Builtin.«zip.__next__» ⟨[.ref z],[]⟩) (λI s'=>∃h,I=.done (.ret h)/\Q h s') E s:=by
 unfold Builtin.«zip.__next__»;apply ae;apply aC;apply ae;refine eP (show s.heap.get? z=some _ from H) rfl (x:=.bool false) rfl ?_;apply ae;refine eP (show s.heap.get? z=some _ from H) rfl (x:=.ref TI) rfl ?_;apply ae;refine kq (show s.heap.get? TI=some _ from L) rfl ?_;dsimp only;rw[ah (by simp)];apply ae;unfold qe;apply ae;refine eP (show s.heap.get? z=some _ from H) rfl (x:=.none) rfl (aC ?_);rw[af rfl];apply ae;apply uI;apply ae;refine eP (show s.heap.get? z=some _ from H) rfl (x:=.ref TO) rfl ?_;dsimp only;apply ae;refine rJ (show s.heap.get? z=some _ from H) (by simp) λh0 W b=>?_
 apply ae;show wpAny _ _ (forIn [(Value.ref i,0),(Value.ref d,1)] _ _) _ _ _;rw[jI];apply ae;apply ae;apply yn;show wpAny _ _ (iX (.ref i) >>= _) _ _ _;apply ae;refine yA (h1.extBut b.extBut n1) (R.extBut b.extBut n3) hx λha ia n=>aC ?_;dsimp only;have P:ha.get? TO=some { cls:=.type "tuple",data:=.seq #[p,q] }:=n.extBut _ _ n8 (b.extBut _ _ G M);apply ae;refine kq P rfl ?_;dsimp only;apply ae;refine D6 (s:={ s with heap:=ha }) P λhb j f=>?_;replace j:hb.get? TO=some { cls:=.type "tuple",data:=.seq #[x,q] }:=j;apply ae;apply wpAny_letGo;apply aC;dsimp only;rw[jI];apply ae;apply ae;apply yn;show wpAny _ _ (iX (.ref d) >>= _) _ _ _;apply ae;refine Gc (((h2.extBut b.extBut n2).extBut n.extBut n5).extBut f.extBut (aS n9)) (((V.extBut b.extBut n4).extBut n.extBut n6).extBut f.extBut n10) hy λhc ic m=>aC ?_;dsimp only;have B:hc.get? TO=some { cls:=.type "tuple",data:=.seq #[x,q] }:=m.extBut _ _ n9 j;apply ae;refine kq B rfl ?_;dsimp only;apply ae;refine D6 (s:={ s with heap:=hc }) B λhd u t=>?_;replace u:hd.get? TO=some { cls:=.type "tuple",data:=.seq #[x,y] }:=u;apply ae;apply wpAny_letGo;apply aC;dsimp only;rw[AQ];apply aC;dsimp only;apply ae;refine kq u rfl ?_;dsimp only;apply ae;refine yp (hsz:=by show 2≤sizeLine;decide) ?_;have S:hd.get? z=some { cls:=.type "zip",data:=.fields #[.ellipsis,.bool false,.bool false,.ref TI,.ref TO] }:=t.extBut _ _ (aS G) (m.extBut _ _ (aS n2) (f.extBut _ _ (aS G) (n.extBut _ _ (aS n1) W)));have C:=aJ S;have X:(hd.push { cls:=.type "tuple",data:=.seq #[x,y] }).get? z=some { cls:=.type "zip",data:=.fields #[.ellipsis,.bool false,.bool false,.ref TI,.ref TO] }:=ba _ S;apply ae;unfold Ht;dsimp only;apply ae;refine rJ X (by simp) λhe Z F=>?_;refine rJ Z (by simp) λhf hz7 K=>?_;have a:∀c o,c≠z->hd.get? c=some o->hf.get? c=some o:=λc o N e=>K.extBut _ _ N (F.extBut _ _ N (ba _ e));refine aC ⟨_,rfl,hQ hf hd.objs.size hz7 ?_ ?_ (a _ _ G u) ?_ ?_ ?_⟩
 .exact (((ia.extBut f.extBut (aS n8)).extBut m.extBut (aS n5)).extBut t.extBut (aS n8)).at λo e=>a _ o n1 e
 .obtain⟨o,e,_,r⟩:=(ic.extBut t.extBut (aS n9)).obj;exact r _ (a _ o n2 e)
 .exact K.extBut _ _ (cx C) (F.extBut _ _ (cx C) (cw _ rfl))
 .show hd.objs.size=s.heap.objs.size;rw[t.1,m.1,f.1,n.1,b.1]
 .exact λc o N v c3 c4 e=>a c o N (t.extBut _ _ c4 (m.extBut _ _ c3 (f.extBut _ _ c4 (n.extBut _ _ v (b.extBut _ _ N e)))))
theorem wR(H:A.handled=none)(a:gX s.heap z TI TO .none (.bool false))(T:d4 s.heap TI (.ref d) (.ref I))
  (i:s.heap.IsListIter d g k) (l:s.heap.IsList g M) (S:M[k]? = none) (t:d≠z) (K:g≠z)
  (y:∀h e,(∀c o,c≠z->c≠d->s.heap.get? c=some o->h.get? c=some o)->(∃o,h.get? e=some o/\o.cls=.type "StopIteration")->E (.ref e) { s with heap:=h }) :
  wpAny (model prog w) A (Builtin.«zip.__next__» ⟨[.ref z],[]⟩) Q E s:=by
 unfold Builtin.«zip.__next__»;apply ae;apply aC;apply ae;refine eP (show s.heap.get? z=some _ from a) rfl (x:=.bool false) rfl ?_;apply ae;refine eP (show s.heap.get? z=some _ from a) rfl (x:=.ref TI) rfl ?_;apply ae;refine kq (show s.heap.get? TI=some _ from T) rfl ?_;dsimp only;rw[ah (by simp)];apply ae;unfold qe;apply ae;refine eP (show s.heap.get? z=some _ from a) rfl (x:=.none) rfl (aC ?_);rw[af rfl];apply ae;apply uI;apply ae;refine eP (show s.heap.get? z=some _ from a) rfl (x:=.ref TO) rfl ?_;dsimp only;apply ae;refine rJ (show s.heap.get? z=some _ from a) (by simp) λB r b=>?_
 apply ae;show wpAny _ _ (forIn [(Value.ref d,0),(Value.ref I,1)] _ _) _ _ _;rw[jI];apply ae;apply ae;apply yn;show wpAny _ _ (iX (.ref d) >>= _) _ _ _;apply ae;refine D8 H (i.extBut b.extBut t) (l.extBut b.extBut K) S λh e x o=>?_;have n:=x _ _ (aS t) r;refine rJ (s:={ s with heap:=h }) n (by simp) λj F f=>y j e (λc p N v u=>f.extBut _ _ N (x _ _ v (b.extBut _ _ N u))) ?_;obtain⟨p,m,c⟩:=o;have P:e≠z:=λq=>by rw[q,n]at m;cases m;exact absurd (show Value.type "zip"=Value.type "StopIteration" from c) (by decide)
 exact⟨p,f.extBut _ _ P m,c⟩
end
theorem wP:typeLookup (.type "zip") "keys"=pure none:=by rw[Bw,D7];kernel_rfl
theorem rR:typeLookup (.type "zip") "__getattr__"=pure none:=by rw[Bw,D7];kernel_rfl
theorem oP:entryFor table "zip.__getattribute__"=some Builtin.«object.__getattribute__»:=
 entryFor_alias (id':="object.__getattribute__") (by kernel_rfl) (by decide +kernel) (by decide +kernel) (by kernel_rfl)
section
variable{prog:Program}{w:World}{A:Around}{E:VP}{s:Shared}
theorem Em(z TI TO:Addr)(f0 f1:Value)(u:Tok):Meets (Builtin.«object.__getattribute__» ⟨[.ref z,.str "keys" u],[]⟩) (λA R s=>gX s.heap z TI TO f0 f1/\raisesAttr (.ref z) "keys" A R s):=
 .of_wp λprog w A R s hs=>by
  obtain⟨hp,g,d,tk,os⟩:=s;obtain⟨hx,hs⟩:=hs;unfold gX at hx;have hT:(⟨hp,g,d,tk,os⟩:Shared).TypeIs (.ref z) "zip":=⟨_,hx,rfl⟩;have nk:=wP;unfold Builtin.«object.__getattribute__»;repeat any_goals first|assumption|wp_step
  exact wpAny_raiseAttrError hs.1 hs.2 (attrMsg_fits (by decide +kernel) (by size_fits))
theorem CP(q:gX s.heap z TI TO l j)(i:A.handled=none)
  (h:∀x v,(∀b o,s.heap.get? b=some o->x.get? b=some o)->Q none { s with heap:=x,toks:=v }):wpAny (model prog w) A (getAttr? (.ref z) "keys") Q E s:=by
 obtain⟨p,g,d,v,os⟩:=s;have T:∀t,(⟨p,g,d,t,os⟩:Shared).TypeIs (.ref z) "zip":=λ_=>⟨_,q,rfl⟩;have j:=sub_AttributeError;have y:=uO.lookup;have H:=uO.bind (.ref z);have S:=rR;have step:∀(n:Nat)(u:Tok)(m:VP)(f:VP),(∀x c e,Heap.NewAttrErr p x e (.ref z) "keys"->f (.ref e) ⟨x,g,d,c,os⟩) ->
   wpAny (model prog w) A (call (Value.builtin "zip.__getattribute__") ([Value.ref z]++[Value.str "keys" u]) []) m f ⟨p,g,d,n,os⟩:=λn u m f k=>
  jk uO (T _) oP (F.args_zip_getattribute_2 _ _) (Em z TI TO _ _ u) ⟨q,i,k⟩
 unfold getAttr?;unfold getAttrBy?;unfold getAttrBy;repeat any_goals first|assumption|exact T _|(with_reducible refine step _ _ _ _ λx t e a=>?_)|wp_step
 have r:=a.there;obtain⟨K,P,r⟩:=r;repeat any_goals first|assumption|wp_step
 exact h _ _ a.keeps
end
section
variable{prog:Program}{w:World}{A:Around}{E:VP}{s:Shared}
theorem vF(n:s.TypeIs (.ref z) "zip")
  (h:wpAny (model prog w) A.in1 (Builtin.«zip.__next__» ⟨[.ref z],[]⟩) (λf x=>∃v,f=.done (.ret v)/\Q (some v) x) (λe x=>∃a o,e=.ref a/\x.heap.get? a=some o/\o.cls=.type "StopIteration"/\Q none x) s) :
  wpAny (model prog w) A (pyNext (.ref z)) Q E s:=by
 unfold pyNext;apply ae;apply wpAny_attempt;refine uK (name:=Str.ofString "__next__") n zT (rF zT n F.entry_zip_next (cM h (λf x ⟨v,e,q⟩=>⟨v,e,aC q⟩) λe x ⟨a,o,k,c,m,q⟩=>?_) (F.args_zip_next_1 _));subst k;apply ae;exact DU (T:="StopIteration") (b:=true) ⟨_,c,m⟩ isSubtype_stop (aC q)
def Ke(d:Addr)(h:Heap)(z TI TO i x l a:Addr)(k:Nat):Prop:=d4 h TI (.ref i) (.ref x)/\h.IsListIter i l k/\h.IsTupleIter x a k /\
 ((k=0/\gX h z TI TO .none (.bool false)/\d4 h TO .none .none)\/∃(T:Addr)(o:Obj)(f:Bool),gX h z TI TO (rawInt T) (.bool f)/\h.get? T=some o/\T≠z/\T≠i/\T≠x/\T≠d)
structure ZAp(d z TI TO i1 i2 l1 l2:Addr):Prop where
 nd:[d,z,TI,TO,i1,i2].Nodup
 l1n:l1 ∉ [d,z,TI,TO,i1,i2]
 l2n:l2 ∉ [d,z,TI,TO,i1,i2]
theorem Ke.typeIs(x:Ke d s.heap z TI TO n q l g k):s.TypeIs (.ref z) "zip":=by
 obtain⟨_,_,_,⟨_,h,_⟩|⟨T,o,f,h,_⟩⟩:=x
 .exact⟨_,h,rfl⟩
 .exact⟨_,h,rfl⟩
theorem Ke.but(x:Ke d h z TI TO q g l j k)(p:ZAp d z TI TO q g l j)(s:fw d h I):Ke d I z TI TO q g l j k:=by
 have n:=p.nd;simp only[ci,aQ,cJ,cH,i3]at n;obtain⟨b,c,m,r⟩:=x;refine⟨s.extBut _ _ (aS n.1.2.1) b,c.extBut s.extBut (aS n.1.2.2.2.1),m.extBut s.extBut (aS n.1.2.2.2.2),?_⟩;rcases r with ⟨e,a,t⟩|⟨T,o,v,a,t,w,u,i,f⟩
 .exact .inl ⟨e,s.extBut _ _ (aS n.1.1) a,s.extBut _ _ (aS n.1.2.2.1) t⟩
 .exact .inr ⟨T,o,v,s.extBut _ _ (aS n.1.1) a,s.extBut _ _ f t,w,u,i,f⟩
theorem Er(p:ZAp d z TI TO I M l1 l2)(a:Ke d s.heap z TI TO I M l1 l2 k)(hd:s.heap.get? d=some od)(l:s.heap.IsList l1 xs)(b:s.heap.IsTuple l2 ys)(B:xs[k]? = some x)(C:ys[k]? = some y)
  (P:∀h T,Ke d h z TI TO I M l1 l2 (k+1)->d4 h T x y->T≠d->(∀c o,c ∉ [z,TO,I,M]->s.heap.get? c=some o->h.get? c=some o)->Q (some (.ref T)) { s with heap:=h }) :
  wpAny (model prog w) A (pyNext (.ref z)) Q E s:=by
 have X:=p.nd;have V:=p.l1n;have W:=p.l2n;simp only[ci,aQ,cJ,cH,i3]at X V W;refine vF a.typeIs ?_;obtain⟨m,g,i,R⟩:=a;rcases R with ⟨e,v,t⟩|⟨T,Z,f1,v,t,G,L,N,t4⟩
 .subst e;refine t5 (tp:=true) v m t g i l b B C (by grind) (by grind) (by grind) (by grind) (by grind) (by grind) (by grind) (by grind) (by grind) (by grind) λh T S F K _ D q5 q=>?_
  have fresh:∀c o,s.heap.get? c=some o->T≠c:=λc o f z=>absurd (aJ f) (by rw[<- z,q5];exact jG _);obtain⟨oi1,j,_⟩:=g;obtain⟨oi2,H,_⟩:=i;exact P h T ⟨q _ _ (by grind) (by grind) (by grind) (by grind) m,F,K,.inr ⟨T,_,false,S,D,fresh _ _ v,fresh _ _ j,fresh _ _ H,fresh _ _ hd⟩⟩ D (fresh _ _ hd) λc o n f=>q c o (λz=>n (by simp[z])) (λz=>n (by simp[z])) (λz=>n (by simp[z])) (λz=>n (by simp[z])) f
 .refine CQ v m t g i l b B C (by grind) (by grind) (by grind) (by grind) (by grind) (by grind) (by grind) (by grind) (by grind) λh S F K q=>?_;have dl:d < h.objs.size:=aJ (q _ _ (by grind) (by grind) (by grind) hd);have u:∀c o,h.get? c=some o->(h.push { cls:=.type "tuple",data:=.seq #[x,y] }).get? c=some o:=λc o e=>ba _ e;refine P _ _ ⟨u _ _ (q _ _ (by grind) (by grind) (by grind) m),?_,?_,.inr ⟨T,Z,true,u _ _ S,u _ _ (q _ _ G L N t),G,L,N,t4⟩⟩ (cw _ rfl) (cx dl) λc o n f=>u _ _ (q c o (λz=>n (by simp[z])) (λz=>n (by simp[z])) (λz=>n (by simp[z])) f)
  .obtain⟨o,e,r⟩:=F;exact⟨o,u _ _ e,r⟩
  .obtain⟨o,e,r⟩:=K;exact⟨o,u _ _ e,r⟩
theorem Ig(u:A.handled=none)(p:ZAp d z TI TO j I M l2)(a:Ke d s.heap z TI TO j I M l2 k)(l:s.heap.IsList M xs)(i:xs[k]? = none)
  (v:∀h,(∀c o,c ∉ [z,TO,j,I]->s.heap.get? c=some o->h.get? c=some o)->Q none { s with heap:=h }):wpAny (model prog w) A (pyNext (.ref z)) Q E s:=by
 have S:=p.nd;have H:=p.l1n;simp only[ci,aQ,cJ,cH,i3]at S H;refine vF a.typeIs ?_;obtain⟨r,t,F,y⟩:=a;rcases y with ⟨e,n,g⟩|⟨T,P,K,n,g,B,C,D,G⟩
 .subst e;exact wR u n r t l i (by grind) (by grind) λh e q n=>by obtain⟨o,b,m⟩:=n;exact⟨e,o,rfl,b,m,v h λc o x f=>q c o (λz=>x (by simp[z])) (λz=>x (by simp[z])) f⟩
 .exact Eo u n r g t l i (by grind) (by grind) λh e q ⟨o,b,m⟩=>⟨e,o,rfl,b,m,v h λc o x f=>q c o (λz=>x (by simp[z])) (λz=>x (by simp[z])) f⟩
end
section
variable{prog:Program}{w:World}{K:Type}[DecidableEq K]{t:KeyKind prog w K}{A:Around}{E:VP}{R:Result->Shared->Prop}
inductive ZipsAt(knd:KeyKind prog w K):LV->LV->List (K×Value)->Prop
 |nil {vs:LV}:ZipsAt knd [] vs []
 |cons {key v:Value}{k:K}{us vs:LV}{kvs:List (K×Value)}:knd.is k key=true->ZipsAt knd us vs kvs->ZipsAt knd (key::us) (v::vs) ((k,v)::kvs)
set_option tactic.hygienic true in
theorem zw(hh:A.handled=none){u:Heap}(p:ZAp d z TI TO i1 i2 l1 l2)(fr:∀a ∈ [d,z,TI,TO,i1,i2],u.get? a=none)(L:u.IsList l1 j)(hl2:u.IsTuple l2 ys) :
  ∀(n:List (K×Value))(i:Nat)(f:List (K×Value))(s:Shared),(∀b o,u.get? b=some o->s.heap.get? b=some o)->Ke d s.heap z TI TO i1 i2 l1 l2 i->s.heap.DictOf t d f->ZipsAt t (j.toList.drop i) (ys.toList.drop i) n ->
   ((f++n).map (·.1)).Nodup->(f++n).length≤sizeLine->i+n.length=j.size ->
   (∀l t',(∀b o,u.get? b=some o->l.get? b=some o)->l.DictOf t d (f++n)->R (.ok (.ret .none)) { s with heap:=l,toks:=t' }) ->
   codeAny (model prog w) A (.builtin "dict.update.loop" ⟨[.ref d,.ref z,rawInt i,.none],[]⟩) R s:=by
 have nd:=p.nd;simp only[ci,aQ,cJ,cH,i3]at nd;have P:∀b o,u.get? b=some o->b ∉ [d,z,TI,TO,i1,i2]:=λb o e m=>by rw[fr b m]at e;cases e
 have dz:d ∉ [z,TO,i1,i2]:=by simp only[aQ,cJ,cH,i3];grind
 intro n;induction n with
 |nil=>
  intro i f s C y hd X N Z hi h;have I:j[i]? = none:=by simp at hi ⊢;lia
  have H:s.heap.IsList l1 j:=by obtain⟨o,S,r⟩:=L;exact⟨o,C _ _ S,r⟩
  refine Bv F.entry_dict_update_loop ?_;rw[Bi F.plain_dict_update_loop _];unfold Builtin.«dict.update.loop»;show wpAny _ A.in1 (pyNext (.ref z) >>= _) _ _ s;refine ae (Ig hh p y H I λl D=>?_);show wpAny _ A.in1 (Hq d [] >>= _) _ _ _;rw[eA]at h;apply ae;apply aC;apply aC;refine h l s.toks (λb o e=>D b o (λm=>P b o e (by simp only[aQ,cJ,cH]at m ⊢;grind)) (C b o e)) ?_;obtain⟨o,c,ep,S,r⟩:=hd;exact⟨o,c,ep,D _ _ dz S,r⟩
 |cons kv n ih=>
  intro i f s C y hd X N Z hi h;have H:s.heap.IsList l1 j:=by obtain⟨o,S,r⟩:=L;exact⟨o,C _ _ S,r⟩
  have M:s.heap.IsTuple l2 ys:=by obtain⟨o,S,r⟩:=hl2;exact⟨o,C _ _ S,r⟩
  generalize er:j.toList.drop i=us at X;generalize c:ys.toList.drop i=vs at X;cases X with
  |cons hk hps=>
   rename_i B v k us' vs';have hx:j[i]? = some B:=by have:=dh (·[0]?) er;simpa using this
   have hy:ys[i]? = some v:=by have:=dh (·[0]?) c;simpa using this
   have er':j.toList.drop (i+1)=us':=by rw[<- AO,er];rfl
   have es':ys.toList.drop (i+1)=vs':=by rw[<- AO,c];rfl
   obtain⟨od,ed1,ed2,Q,hdr⟩:=id hd;refine Bv F.entry_dict_update_loop ?_;rw[Bi F.plain_dict_update_loop _];unfold Builtin.«dict.update.loop»;show wpAny _ A.in1 (pyNext (.ref z) >>= _) _ _ s;refine ae (Er p y Q H M hx hy λW T za g hTd D=>?_);have kp1:∀b o,u.get? b=some o->W.get? b=some o:=λb o e=>D b o (λm=>P b o e (by simp only[aQ,cJ,cH]at m ⊢;grind)) (C b o e);have hd1:W.DictOf t d f:=⟨od,ed1,ed2,D _ _ dz Q,hdr⟩;show wpAny _ A.in1 (holding [Value.ref T] _ >>= _) _ _ _;apply ae;apply iG;apply ae;apply wpAny_tryCatch;unfold Hr;refine ae (rj (T:="tuple") ⟨_,g,rfl⟩ ?_);rw[af (by decide)];refine ae (kq (show W.get? T=some _ from g) rfl (aC ?_));show wpAny _ A.in1 (holding [B,v] (dictSet d B v)) _ _ _;refine iG ?_;refine wpAny_dictSet_pairs (s:={ s with heap:=W }) hk hd1 (λh2 G V=>?_) (by simp at Z;lia);have hnk:k ∉ f.map (·.1):=by intro hm;rw[lV,nD]at N;exact N.2.2 _ hm _ (by simp) rfl
   have est:stored f k v=f++[(k,v)]:=by unfold stored;rw[ah];intro E;obtain⟨x,hx1,hx2⟩:=lW.mp E;exact hnk (bN.mpr ⟨x,hx1,aM hx2⟩)
   rw[est]at G;refine aC ⟨Br F.plain_dict_update_loop _,?_⟩;have kp2:∀b o,u.get? b=some o->h2.get? b=some o:=λb o e=>V.extBut _ _ (λq=>P b o e (by simp[q])) (kp1 b o e);have e1:f++(k,v)::n=(f++[(k,v)])++n:=by simp
   rw[e1]at N Z h;exact ih (i+1) (f++[(k,v)]) { s with heap:=h2,toks:=s.toks+1 } kp2 (za.but p V) G (er' ▸ es' ▸ hps) N Z (by simp at hi;lia) λl t' k1 k2=>h l t' k1 k2
end
section
variable{prog:Program}{w:World}{K:Type}[DecidableEq K]{t:KeyKind prog w K}{A:Around}{E:VP}{s:Shared}
theorem pS(l:s.heap.IsList n I)(e:s.heap.IsTuple q M)
  (h:∀x i a TI TO z,(∀b o,s.heap.get? b=some o->x.get? b=some o)->s.heap.objs.size≤i->i < a->a < TI->TI < TO->TO < z->x.IsListIter i n 0->x.IsTupleIter a q 0->d4 x TI (.ref i) (.ref a)->d4 x TO .none .none ->
   gX x z TI TO .none (.bool false)->Q (.ref z) { s with heap:=x }):wpAny (model prog w) A (call (.type "zip") [.ref n,.ref q]) Q E s:=by
 refine callType_new F.called_zip (by decide) (F.typeCall_zip_2 _ _) (F.newCall_zip_2 _ _) (λj=>F.args_object_init_3 j _ _) F.entry_zip_new (En n q I M) ⟨l,e,λx i a TI TO z k c m r t p v d u g f=>?_⟩;show _/\_;exact⟨⟨_,f,rfl⟩,h x i a TI TO z k c m r t p v d u g f⟩
theorem tW{k:Heap}(hh:A.handled=none)(k0:∀b o,k.get? b=some o->s.heap.get? b=some o)(H:k.IsList l1 xs)(S:k.IsTuple l2 ys)
  (i:k.objs.size≤I) (D:I < M) (G:M < TI) (P:TI < TO) (j:TO < z) (b1:s.heap.IsListIter I l1 0) (b2:s.heap.IsTupleIter M l2 0) (b3:d4 s.heap TI (.ref I) (.ref M)) (b4:d4 s.heap TO .none .none) (y:gX s.heap z TI TO .none (.bool false))
  (hp:ZipsAt t xs.toList ys.toList C) (hn:(C.map (·.1)).Nodup) (hz:C.length≤sizeLine) (hi:C.length=xs.size)
  (h:∀d X,(∀b o,k.get? b=some o->d.get? b=some o)->d.DictOf t s.heap.objs.size C->Q (.ref s.heap.objs.size) { s with heap:=d,toks:=X }) :
  wpAny (model prog w) A (call (.type "dict") [.ref z]) Q E s:=by
 have fresh:(s.heap.push { cls:=.type "dict",data:=.dict #[] }).DictOf t s.heap.objs.size []:=.new s.heap;have u:∀b o,s.heap.get? b=some o->(s.heap.push { cls:=.type "dict",data:=.dict #[] }).get? b=some o:=λb o=>ba _;have q:z < s.heap.objs.size:=aJ y;have K:=kt_code_dict_new (prog:=prog) (w:=w) (A:=A.in1) (E:=E) (s:=s) (Value.ref z) (Q₁:=λx z=>x=.ref s.heap.objs.size/\z={ s with heap:=s.heap.push { cls:=.type "dict",data:=.dict #[] } }) ⟨rfl,rfl⟩;apply callType_codes F.kt_called_dict (F.kt_typeCall_dict_1 (.ref z)) F.entry_dict_init K;rintro _ _ ⟨e,e'⟩;subst e e';generalize s.heap.push { cls:=.type "dict",data:=.dict #[] }=h1 at fresh u;refine⟨fresh.typeIs,F.args_dict_init_2 (.ref s.heap.objs.size) (.ref z),?_⟩;unfold Builtin.«dict.__init__» Hs;apply ae;apply ae;apply wpAny_notOrdered_dict fresh.typeIs;apply aC;show wpAny _ _ (zJ "dict.__init__" s.heap.objs.size (.ref z) [] .none) _ _ _;unfold zJ;refine ae (rj (T:="zip") ⟨_,u _ _ y,rfl⟩ ?_);rw[af (by decide)];refine ae (CP (u _ _ y) hh λh2 tk k2=>?_);rw[af (by rfl)];refine ae (uI ?_);have g:∀b o,s.heap.get? b=some o->h2.get? b=some o:=λb o e=>k2 b o (u b o e);have R:h2.DictOf t s.heap.objs.size []:=by obtain⟨o,c,ep,ho,r⟩:=fresh;exact⟨o,c,ep,k2 _ _ ho,r⟩
 refine ae (yv (z:=z) (TI:=TI) (TO:=TO) (f0:=.none) (g _ _ y) ?_);refine aC ⟨Br F.plain_dict_update_loop _,?_⟩;have V:l1 < k.objs.size:=by obtain⟨o,e,_⟩:=H;exact aJ e
 have W:l2 < k.objs.size:=by obtain⟨o,e,_⟩:=S;exact aJ e
 have f:∀{a b n:Nat},a < b->b < n->a < n:=λh d=>lT h d;have N:=f D G;have v:=f N P;have L:=f v j;have Z:=f L q;have c5:=f G P;have c6:=f c5 j;have c7:=f c6 q;have c8:=f P j;have c9:=f c8 q;have ca:=f j q;have low:∀{l n:Nat},l < k.objs.size->k.objs.size≤n->l≠n:=λh d=>bK (cg h d);have ge:∀n ∈ [s.heap.objs.size,z,TI,TO,I,M],k.objs.size≤n:=λn B=>by
  simp only[aQ,cJ,cH]at B;rcases B with rfl|rfl|rfl|rfl|rfl|rfl
  .exact aI i (i4 Z)
  .exact aI i (i4 L)
  .exact aI i (i4 N)
  .exact aI i (i4 v)
  .exact i
  .exact aI i (i4 D)
 have p:ZAp s.heap.objs.size z TI TO I M l1 l2:=by refine⟨?_,λm=>low V (ge _ m) rfl,λm=>low W (ge _ m) rfl⟩;simp only[ci,aQ,cJ,cH,i3,vc,not_false_eq_true,kz];exact⟨⟨cx q,cx c9,cx ca,cx Z,cx c7⟩,⟨cx c8,cx j,cx L,cx c6⟩,⟨bK P,cx N,cx G⟩,⟨cx v,cx c5⟩,bK D⟩
 refine zw (A:=A.in1) (t:=t) (u:=k) hh p (λn B=>?_) H S C 0 [] _ (λb o e=>g b o (k0 b o e)) ⟨g _ _ b3,?_,?_,.inl ⟨rfl,g _ _ y,g _ _ b4⟩⟩ R (by simpa using hp) (by simpa using hn) (by simpa using hz) (by lia) λd X q1 q2=>?_
 .cases e:k.get? n with
  |none=>rfl
  |some o=>exact absurd rfl (low (aJ e) (ge n B))
 .obtain⟨o,e,r⟩:=b1;exact⟨o,g _ _ e,r⟩
 .obtain⟨o,e,r⟩:=b2;exact⟨o,g _ _ e,r⟩
 .exact⟨rfl,h d X q1 q2⟩
end
end PySem
set_option tactic.hygienic true
namespace Ev
open PySem PySem.Spec PyProof.Rows L2
@[simp] def zr(fa fb:EV)(L:Lc)(S:aA):tw:=a6 (fa L S) λx a=>a6 (fb L a) λy h=>match x,y with
 | .lst k,.tup v=>match eE k with
  |some B=>if (B.Nodup/\few k=true/\B.length≤v.length) then some (.ref h.length,h++[.dct B ((v.take B.length).map .p)]) else none
  |none=>none
 |_,_=>none
theorem BC:∀{B:List cu}{s i:LV}{x:List V},bb (B.map kV) s->bb x i->B.length≤x.length->ZipsAt (cL g w) s i (B.zip i)/\L2.KV (B.zip x) (B.zip i)
 | [],_,i,x,h,_,_=>by cases h;exact⟨.nil,.nil⟩
 |k::B,_,_,[],h,_,l=>absurd l (by simp)
 |k::B,_,_,y::x,h,e,l=>by
  cases h with
  |cons r t=>
   cases e with
   |cons n f=>obtain⟨a,b⟩:=BC (g:=g) (w:=w) t f (by simpa using l);exact⟨.cons (pG r) a,.cons ⟨rfl,n⟩ b⟩
theorem oO:∀{xs:List L}{ys:List n},xs.length≤ys.length->(xs.zip ys).map (·.1)=xs/\(xs.zip ys).map (·.2)=ys.take xs.length
 | [],ys,_=>by simp
 |x::xs,[],h=>absurd h (by simp)
 |x::xs,y::ys,h=>by obtain⟨a,b⟩:=oO (xs:=xs) (ys:=ys) (by simpa using h);simp[a,b]
section
variable{X:Cx}{a b:Expr}{fa fb:EV}{p G N v:Pos}
theorem Lh(hc:X.c=true)(gd:Gl X "dict")(md:X.g "dict"=none)(gz:Gl X "zip")(mz:X.g "zip"=none)(ha:PE X a (tV X.K fa))(hb:PE X b (tV X.K fb))(hs:starEach [a,b] X.e=[(false,eval a X.e),(false,eval b X.e)])(W:starEach [b] X.e=[(false,eval b X.e)])(hz:bootBuiltins "zip"=some (.type "zip")) :
  PE X (.Call (.Name "dict" p) [.Call (.Name "zip" G) [a,b] [] v] [] N) (tE X.K (zr fa fb)):=by
 intro pins s J H Q I ⟨F,m,L,S,d,S',r,l,q,k⟩;obtain⟨x,S1,e1,q⟩:=aj q;obtain⟨y,S2,e2,q⟩:=aj q;have hh:X.A.handled=none:=I.o.hd hc;refine mM (lC I gd md HY ?_ (by decide) (by decide));refine lQ (fu ?_) rfl rfl;refine mM (lC I gz mz hz ?_ (by decide) (by decide));refine lQ ?_ (by rw [hs,W]) (by rw [W];rfl);rw [hs];refine fu (c_ (ha pins s J H (fun h g=>∃n P,Stp F m H n P g/\Rel X.K n g P S1/\RP X.K n g x h) I ⟨F,m,L,S,x,S1,r,l,e1,fun h n P g s1 r1 p1=>⟨n,P,s1,r1,p1⟩⟩) fun u s1 ⟨h,g,I1,ru,n,P,st1,r1,p1⟩=>
  fu (c_ (hb pins s1 J g (λh C=>∃f D,Stp n P g f D C/\Rel X.K f C D S2/\RP X.K f C y h) I1 ⟨n,P,L,S1,y,S2,r1,l.mono st1,e2,λh f D C E r2 G=>⟨f,D,E,r2,G⟩⟩) λu2 E ⟨v2,C,M,ru2,f,D,st2,r2,G⟩=>i0 ?_))
 cases x with
 |lst ks=>
  cases y with
  |tup vs=>
   dsimp only at q;cases ek:eE ks with
   |none=>rw[ek]at q;cases q
   |some B=>
    rw[ek]at q;dsimp only at q;split at q
    .rename_i c;cases q;obtain⟨ax,xs,rfl,hq,rp⟩:=RP.mono st2 p1;obtain⟨ay,ys,rfl,ta,rq⟩:=G;cases (show u=Value.ref ax from ru);cases (show u2=Value.ref ay from ru2);obtain⟨z1,Z,n1,rx,V,ex⟩:=M.lstM hq.2;obtain⟨i,ry,ity,hzy⟩:=M.tuple ta.sq;have exs:=j7 ek rp;subst exs;have K:B.length≤ys.length:=by rw[<- rq.length];exact c.2.2
     obtain⟨za,zk⟩:=BC (g:=X.p) (w:=X.w) rx ry K;have hl2:B.length≤i.length:=by rw[<- ry.length];exact K
     obtain⟨zf1,zf2⟩:=oO (xs:=B) (ys:=ys) K;obtain⟨A,_⟩:=oO (xs:=B) (ys:=i) hl2;have R:(B.zip i).length=Z.toArray.size:=by have:=dh qA A;rw[aZ]at this;rw[this,bf,<- V,aZ]
     have hkz:(B.zip i).length≤sizeLine:=by rw[R,bf,<- V];exact z1
     have T:E.heap.IsList ax Z.toArray:=⟨_,ex,rfl,n1,rfl⟩;refine pS T ity λe i1 i2 TI TO z k0 a1 a2 a3 a4 a5 b1 b2 b3 b4 b5=>i0 ?_;refine tW (t:=cL X.p X.w) (s:={ E with heap:=e }) (k:=E.heap) hh k0 T ity a1 a2 a3 a4 a5 b1 b2 b3 b4 b5 (by simpa using za) (by rw[A];exact c.1) hkz R λh'' t' k1 dd=>?_;have j:E.heap.objs.size≤e.objs.size:=i4 (kC a1 (lT a2 (lT a3 (lT a4 (lT a5 (aJ b5))))));have hf:C e.objs.size=none:=M.h.fresh j;have hsm:(e.objs.size == sysModules)=false:=by have:=M.big;simp only[jF];exact cx (cg this j)
     have hkv:(B.zip ys).length≤sizeLine:=by have e1:=dh qA zf1;have e2:=dh qA A;rw[aZ]at e1 e2;lia
     have I3:=M.laid (a:=e.objs.size) (o:=.dK (B.zip ys)) (t':=t') k1 j ⟨hkv,hsm,_,zk,dd⟩;refine⟨.ref e.objs.size,_,I3,rfl,k (.ref e.objs.size) f (D++[e.objs.size]) _ (st1.trans (st2.trans (fA hf))) (r2.own hf ⟨_,aV,zf1,?_⟩) ⟨e.objs.size,rfl,?_⟩⟩
     .rw [zf2,u9];exact(dB.mono (fA hf) (dB.ofP rq)).take _
     .rw [<- r2.len,cy (al _)];simp
    .cases q
  |_=>cases q
 |_=>cases y<;>cases q
end
end Ev
namespace Ev
open PySem PySem.Spec PyProof.Rows L2
noncomputable def Sv:P->Bool
 | .tup _=>true
 |_=>false
def eY(k:P):Bool:=Sv k && (cm 8 k && Nk.kd (pd k))
noncomputable def su(d:D)(S:aA):Option (Nat×List P×List D):=match d with
 | .ref i=>match S[i]? with
  |some (.dtn k v)=>some (i,k,v)
  |_=>none
 |_=>none
theorem vY(h:su d S=some (i,k,r)):d=.ref i/\S[i]? = some (.dtn k r):=by
 unfold su at h;split at h
 .split at h
  .cases h;exact⟨rfl,by assumption⟩
  .cases h
 .cases h
def xI(k:P)(s:List P):Bool:=s.any λq=>b9 (pd q) (pd k)
def PJ(d c:D)(S:aA):Option Bool:=match d,su c S with
 | .p k,some (_,s,_)=>if (eY k && s.all eY)=true then some (xI k s) else none
 |_,_=>none
def kP(d c:D)(S:aA):Option P:=(PJ d c S).map λb=>.bl (!b)
section
variable{X:Cx}{pins:PN}{J:L2.St}{H:Hp}{s:Shared}{F:Aa}
theorem we(I:Inv X pins J H s)(g:eY k=true)(r:RP X.K F H k y):pA s.heap (pd k) y:=by
 unfold eY at g;simp only[av]at g;obtain⟨t,o,h⟩:=g;cases k with
 |tup xs=>obtain⟨b,z,rfl,x⟩:=r;obtain⟨a,d⟩:=gG I 8 (p:=.tup xs) (v:=.ref b) (u:=.ref b) ⟨b,z,rfl,x⟩ rfl o;exact⟨b,rfl,h,(eX 8 _ o).2,a,d⟩
 |_=>cases t
theorem qZ(I:Inv X pins J H s):∀{kvs:List (PyData×V×V)}{h:List P},h.all eY=true->kvs.map (·.1)=jD h->cX X.K F H h (kvs.map (·.2.1))->∀p ∈ kvs,pA s.heap p.1 p.2.1
 | [],_,_,_,_,_,a=>nomatch a
 |q::kvs,h,g,e,r,p,a=>by
  cases h with
  |nil=>cases r
  |cons k h=>
   rw[fx,av]at g;rw[aG,jD]at e;injection e with n f;obtain⟨x,v,b,c,m⟩:=r;injection b with z t;subst z t;rcases aQ.mp a with rfl|a
   .rw [n];exact we I g.1 c
   .exact qZ I g.2 f m p a
theorem nW(g:eY k=true):Nk.kd (pd k)=true:=by unfold eY at g;simp only[av]at g;exact g.2.2
theorem zg(g:eY k=true):∀{kvs:List (PyData×V×V)}{ks:List P},ks.all eY=true->kvs.map (·.1)=jD ks->zh kvs (pd k)=xI k ks
 | [],ks,_,e=>by
  cases ks with
  |nil=>rfl
  |cons _ _=>cases e
 |q::kvs,ks,h,e=>by
  cases ks with
  |nil=>cases e
  |cons p ks=>rw[fx,av]at h;rw[aG,jD]at e;injection e with e1 e2;have ih:=zg g h.2 e2;unfold zh xI at ih ⊢;rw[dI,dI,ih,e1];congr 1;rw[kF,Nk.eqv_kd _ _ (nW h.1) (nW g),u0]
theorem M3(h:PJ d c S=some b):∃k i s v,d=.p k/\su c S=some (i,s,v)/\eY k=true/\s.all eY=true/\b=xI k s:=by
 unfold PJ at h;split at h
 .split at h
  .rename_i e x;rw[av]at x;cases h;exact⟨_,_,_,_,rfl,e,x.1,x.2,rfl⟩
  .cases h
 .cases h
end
section
variable{X:Cx}
theorem FI(D:X.A.units+64 < cLine):jY X (compareOp .NotIn) (rE X.K kP):=by
 intro pins s J H x y v u Q I B C h;obtain⟨F,m,S,d,e,r,A,z,K,q,k⟩:=h;unfold kP at q;obtain⟨b,w,rfl⟩:=eR.mp q;obtain⟨l,i,E,L,rfl,o,g,f,rfl⟩:=M3 w;obtain⟨rfl,t⟩:=vY o;obtain⟨a,rfl,j⟩:=K;obtain⟨kvs,p,n,P,_⟩:=A.obj i a _ j t;cases C;refine Jr (by lia) I p (qZ I f n P) (we I g z) B λG c=>⟨.bl _,H,c,rfl,?_⟩
 rw[zg g f n];exact k _ F H .refl rfl
end
section
variable{X:Cx}{B T:Pos}{o i n:Expr}{l:EE}{fk fv:EV}{td ty tv:TE}
def OT(X:Cx)(td ty tv:TE):TS:=λD J H=>tv J H λv e=>td J e λx n=>ty J n λy h=>∃a kvs d,x=.ref a/\h a=some (.dN kvs)/\(∀pins s,Inv X pins J h s->pA s.heap d y/\∀p ∈ kvs,pA s.heap p.1 p.2.1)/\zh kvs d=false/\kvs.length < sizeLine/\D.nx J (cq h a (.dN (kvs++[(d,y,v)])))
theorem IW(F:X.A.units+9 < cLine)(z:PE X o td)(j:PE X i ty)(K:PE X n tv)(S:swapsWith n (some (.Subscript o i T)) B.line X.e=pure false):PS X (.Assign [.Subscript o i T] n B) (OT X td ty tv):=by intro pins s J H D I h;refine D' (c_ (K pins s J H _ I h) λr Q ⟨v,f,c,L,C⟩=>c_ (z pins Q J f _ c C) λu R ⟨x,b,m,M,E⟩=>c_ (j pins R J b _ m E) λiv V P=>?_) S;obtain⟨y,W,k,N,a,kvs,d,p,e,g,A,l,G⟩:=P;subst p;obtain rfl:u=Value.ref a:=M;obtain⟨q,w⟩:=g pins V k;exact Pt F k e w q N L A l λZ t=>⟨J,_,t,G⟩
def w5(o:EE)(k v:EV):ES:=λL S=>a6 (v L S) λy x=>a6 (o L x) λd a=>a6 (k L a) λe h=>match su d h with
 |some (i,s,n)=>if (eY e && (s.all eY && (few s && !xI e s)))=true then some (.nx,L,h.set i (.dtn (s++[e]) (n++[.p y]))) else none
 |none=>none
theorem xg(k:P):∀s:List P,jD (s++[k])=jD s++[pd k]
 | []=>rfl
 |x::s=>by rw[nz,jD,jD,xg k s,nz]
theorem N4(hu:X.A.units+9 < cLine)(ho:PE X o (tE X.K l))(hk:PE X i (tV X.K fk))(hv:PE X n (tV X.K fv))(hs:swapsWith n (some (.Subscript o i T)) B.line X.e=pure false) :
  PS X (.Assign [.Subscript o i T] n B) (mO X.K (w5 l fk fv)):=(IW hu ho hk hv hs).imp' λD J H hz=>by
 obtain⟨F,m,L,S,fl,L',S',r,h,q,k⟩:=hz;obtain⟨y,Q,e1,q⟩:=aj q;obtain⟨d,R,e2,q⟩:=aj q;obtain⟨f,V,e3,q⟩:=aj q;refine⟨F,m,L,S,y,Q,r,h,e1,λv E m1 H1 b r1 M=>?_⟩;refine⟨E,m1,L,Q,d,R,r1,h.mono b,e2,λx F2 m2 H2 c r2 C=>?_⟩;refine⟨F2,m2,L,R,f,V,r2,(h.mono b).mono c,e3,λK G m3 N p P p3=>?_⟩;cases u:su d V with
 |none=>rw[u]at q;cases q
 |some e=>
  obtain⟨j,ks,vs⟩:=e;rw[u]at q;dsimp only at q;split at q
  .rename_i hc;simp only[av,qM]at hc;obtain⟨W,Z,g3,g4⟩:=hc;cases q;obtain⟨rfl,t⟩:=vY u;obtain⟨a,rfl,g⟩:=RD.mono p C;obtain⟨kvs,hH,w,A,rs⟩:=P.obj j a _ g t;have nt:∀zs,N a≠some (.tup zs):=λzs z=>by rw[hH]at z;cases z
   have st:=gC (o:=.dN (kvs++[(pd f,K,v)])) P g t trivial nt;have pv:=RD.mono st (RD.mono p (RD.mono c (show RD X.K E H1 m1 (.p y) v from M)));have pk:RP X.K G (cq N a (.dN (kvs++[(pd f,K,v)]))) f K:=RP.kp st.kp p3;have hl:kvs.length < sizeLine:=by have h9:ks.length≤1000000:=aM g3;have h8:=A.length;rw[aZ]at h8;exact kC (by lia) (show(1000000:Nat) < sizeLine by decide)
   refine⟨a,kvs,pd f,rfl,hH,λpins s I=>⟨we I W p3,qZ I Z w A⟩,(zg W Z w).trans g4,hl,?_⟩;refine k J G m3 _ (b.trans (c.trans (p.trans st))) (P.set g t trivial nt ⟨_,aV,?_,?_,?_⟩) ((((h.mono b).mono c).mono p).mono st)
   .rw [lV,w,xg];rfl
   .rw [lV];exact cX.append (cX.kp st.kp A) ⟨_,_,rfl,pk,rfl⟩
   .rw [lV];exact dB.append (dB.mono st rs) ⟨_,_,rfl,pv,rfl⟩
  .cases q
end
def Hk(x c:P):Option Bool:=match c with
 | .lst xs=>if (xs.all (cm 19) && cm 19 x)=true then some (xs.any λy=>b9 (pd y) (pd x)) else none
 | .tup xs=>if (xs.all (cm 19) && cm 19 x)=true then some (xs.any λy=>b9 (pd y) (pd x)) else none
 |_=>none
def DQ(d c:D)(S:aA):Option Bool:=(eQ S 9 d).bind λx=>(eQ S 9 c).bind λy=>Hk x y
def i_(d c:D)(S:aA):Option P:=(jx c S).elim ((DQ d c S).map .bl) λ_=>M6 d c S
def j4(d c:D)(S:aA):Option P:=(DQ d c S).map λb=>.bl (!b)
section
variable{X:Cx}{pins:PN}{J:L2.St}{H:Hp}{s:Shared}{F:Aa}{m:List Addr}{S:aA}{d e:D}{x y:V}{v u:Value}{b:Bool}{Q:VK}
theorem Go(z:X.A.units+64 < cLine)(I:Inv X pins J H s)(g:RelV x v)(i:RelV y u)(t:Rel X.K F H m S)(p:RD X.K F H m d x)(w:RD X.K F H m e y)(q:DQ d e S=some b) :
  (Q (.bl b) H->wx X (compareOp .In v u) (EP X pins J Q) X.xe s)/\(Q (.bl (!b)) H->wx X (compareOp .NotIn v u) (EP X pins J Q) X.xe s):=by
 unfold DQ at q;cases f:eQ S 9 d with
 |none=>rw[f]at q;cases q
 |some M=>
  rw[f]at q;cases c:eQ S 9 e with
  |none=>rw[c]at q;cases q
  |some C=>
   rw[c]at q;simp only[qq]at q;cases C with
   |lst xs=>
    simp only[Hk]at q;split at q
    .rename_i h;rw[av]at h;cases q;obtain⟨j,r⟩:=ff I t 9 20 w i c (by simpa[cm] using h.1);obtain⟨bs,n⟩:=ff I t 9 19 p g f h.2;have l:=B6 h.1;have a:=eX 19 _ h.2;rw[pd]at r;exact⟨λk=>SeqAt.in_list_reads r n l.1 a.1 (by lia) ⟨.bl _,H,I,rfl,by rw[nS];exact k⟩,λk=>SeqAt.notIn_list_reads r n l.1 a.1 (by lia) ⟨.bl _,H,I,rfl,by rw[nS];exact k⟩⟩
    .cases q
   |tup xs=>
    simp only[Hk]at q;split at q
    .rename_i h;rw[av]at h;cases q;obtain⟨j,r⟩:=ff I t 9 20 w i c (by simpa[cm] using h.1);obtain⟨bs,n⟩:=ff I t 9 19 p g f h.2;have l:=B6 h.1;have a:=eX 19 _ h.2;rw[pd]at r;exact⟨λk=>SeqAt.in_tuple_reads r n l.1 a.1 (by lia) ⟨.bl _,H,I,rfl,by rw[nS];exact k⟩,λk=>SeqAt.notIn_tuple_reads r n l.1 a.1 (by lia) ⟨.bl _,H,I,rfl,by rw[nS];exact k⟩⟩
    .cases q
   |_=>cases q
end
section
variable{X:Cx}
theorem Pk(n:X.A.units+64 < cLine):jY X (compareOp .In) (rE X.K i_):=by
 intro pins s J H x y v u Q I c t h;obtain⟨F,m,S,d,e,r,l,p,f,q,k⟩:=h;unfold i_ at q;cases a:jx e S with
 |some g=>rw[a]at q;exact Pj n pins s J H x y v u Q I c t ⟨F,m,S,d,e,r,l,p,f,q,k⟩
 |none=>rw[a]at q;obtain⟨b,w,rfl⟩:=eR.mp (show(DQ d e S).map P.bl=some r from q);exact(Go n I c t l p f w).1 (k _ F H .refl rfl)
theorem FJ(n:X.A.units+64 < cLine):jY X (compareOp .NotIn) (rE X.K j4):=by intro pins s J H x y v u Q I c t h;obtain⟨F,m,S,d,e,r,l,p,f,q,k⟩:=h;unfold j4 at q;obtain⟨b,a,rfl⟩:=eR.mp q;exact(Go n I c t l p f a).2 (k _ F H .refl rfl)
end
section
variable{X:Cx}{B:Pos}{a b c:Expr}{qa:EB}{G L:EE}{va vb:EV}
@[simp] def QV(c:EB)(a b:EE)(L:Lc)(S:aA):tw:=a6 (c L S) λt h=>if t=true then a L h else b L h
theorem Rz(o:PT X c (tQ X.K qa))(y:PE X a (tE X.K G))(z:PE X b (tE X.K L)):PE X (.IfExp c a b B) (tE X.K (QV qa G L)):=
 (xf o y z).imp' λJ H Q K=>by
  obtain⟨F,m,h,S,d,u,r,l,q,k⟩:=K;obtain⟨c,n,j,q⟩:=aj q;refine⟨F,m,h,S,c,n,r,l,j,λw g P s i=>?_⟩;cases c with
  |true=>rw[af rfl]at q ⊢;exact⟨w,g,h,n,d,u,i,l.mono s,q,λv x f e p t=>k v x f e (s.trans p) t⟩
  |false=>rw[ah bP]at q ⊢;exact⟨w,g,h,n,d,u,i,l.mono s,q,λv x f e p t=>k v x f e (s.trans p) t⟩
end
end Ev
namespace L2
open PySem PySem.Spec PyProof.Rows
noncomputable def NM(kvs:List (PyData×V×V))(d:PyData):Option V:=(kvs.find? λp=>decide (p.1=d)).map (·.2.2)
theorem KN.look(r:KN kvs xs)(h:NM kvs d=some v):∃p,atKey xs d=some p/\RelV v p.2:=by
 induction r with
 |nil=>cases h
 | @cons p q N qs a t i=>
  unfold NM at h;by_cases e:p.1=d
  .have x:q.1=d:=a.1.symm.trans e;rw[A3 (by simpa using e)]at h;cases h;exact⟨q.2,by simp[atKey,h_,x],a.2.2⟩
  .have x:¬q.1=d:=λz=>e (a.1.trans z);rw[vn (by simpa using e)]at h;obtain⟨z,s,n⟩:=i h;exact⟨z,by rw[<- s];simp[atKey,h_,x],n⟩
section
variable{X:Cx}{pins:PN}{J:St}{H:Hp}{s:Shared}{a:Addr}{d:PyData}{y v:V}{u:Value}{A:Around}{E:VP}{kvs:List (PyData×V×V)}
theorem Pu(hu:A.units+9 < cLine)(I:Inv X pins J H s)(e:H a=some (.dN kvs))(ks:∀p ∈ kvs,pA s.heap p.1 p.2.1)(ky:pA s.heap d y)(ry:RelV y u)(hl:NM kvs d=some v)
  (h:∀w s',Inv X pins J H s'->RelV v w->Q w s'):wpAny (model X.p X.w) A (getItem (.ref a) u) Q E s:=by
 obtain⟨b,rfl,k⟩:=ky;cases (show u=Value.ref b from ry);obtain⟨z,hd,xs,rel,dd⟩:=GP I.h e ks;obtain⟨p,e1,e2⟩:=rel.look hl;exact D1 (knd:=Nk.nest X.p X.w) (show(A.in1).units+8 < cLine by rw[qN];lia) k dd e1 (h _ _ (I.tok _) e2)
theorem JD(t:X.A.units+9 < cLine):DR X (λx y H Q=>∃a kvs d v,x=.ref a/\H a=some (.dN kvs)/\(∀pins J s,Inv X pins J H s->pA s.heap d y/\∀p ∈ kvs,pA s.heap p.1 p.2.1)/\NM kvs d=some v/\Q v H):=by intro n l pins s J H x y v u Q I j z h r;obtain⟨a,kvs,d,w,rfl,hk,g,m,q⟩:=h;cases j;obtain⟨b,c⟩:=g pins J s I;obtain⟨_,_,_,_,o,_,_,e,f,_⟩:=I.h a _ hk;exact nu ⟨o,e,f.1⟩ yw.lookup (Pu t I hk c b z m λF S k i=>⟨w,H,k,i,q⟩) r
def LJ:TE:=λ_ H Q=>∀p,H p=none->Q (.ref p) (cq H p (.dN []))
end
end L2
namespace Ev
open PySem PySem.Spec PyProof.Rows L2
def um(k:P):List P->List D->Option D
 |q::s,v::h=>if b9 (pd q) (pd k)=true then some v else um k s h
 |_,_=>none
@[simp] def JV(o:EE)(k:EV)(L:Lc)(S:aA):tw:=a6 (o L S) λd x=>a6 (k L x) λe h=>(su d h).elim none λz=>if (eY e && z.2.1.all eY)=true then (um e z.2.1 z.2.2).map λv=>(v,h) else none
variable{K:FG}{F:Aa}{H:Hp}
theorem Cc(g:eY k=true):∀{kvs:List (PyData×V×V)}{ks:List P}{vs:List D},ks.all eY=true->kvs.map (·.1)=jD ks->dB K F H m vs (kvs.map (·.2.2))->um k ks vs=some v->∃w,NM kvs (pd k)=some w/\RD K F H m v w
 | [],ks,vs,_,e,r,h=>by
  cases ks with
  |nil=>cases h
  |cons _ _=>cases e
 |q::kvs,ks,vs,gs,e,r,h=>by
  cases ks with
  |nil=>cases e
  |cons p ks=>
   cases vs with
   |nil=>cases h
   |cons d vs=>
    rw[fx,av]at gs;rw[aG,jD]at e;injection e with e1 e2;obtain⟨x,r',er,r1,r2⟩:=r;injection er with z1 z2;subst z1 z2;have iff:b9 (pd p) (pd k)=decide (q.1=pd k):=by rw[e1,kF,Nk.eqv_kd _ _ (nW gs.1) (nW g),u0]
    unfold um at h;unfold NM;rw[iff]at h;by_cases hq:q.1=pd k
    .rw [af (fR hq)]at h;cases h;rw[A3 (by simpa using hq)];exact⟨_,rfl,r1⟩
    .rw [ah (by simpa using hq)]at h;rw[vn (by simpa using hq)];exact Cc g gs.2 e2 r2 h
section
variable{X:Cx}{B:Pos}{o i:Expr}{l:EE}{fk:EV}
theorem Rw(hu:X.A.units+9 < cLine)(ho:PE X o (tE X.K l))(hk:PE X i (tV X.K fk))(hs:mf i):PE X (.Subscript o i B) (tE X.K (JV l fk)):=
 (B1 (JD hu) ho hk hs).imp' λJ H Q hz=>by
  obtain⟨F,m,L,S,d,R,r,h,q,k⟩:=hz;obtain⟨x,u,T,q⟩:=aj q;obtain⟨e,n,V,q⟩:=aj q;refine⟨F,m,L,S,x,u,r,h,T,λv E m1 H1 A r1 M=>?_⟩;refine⟨E,m1,L,u,e,n,r1,h.mono A,V,λy G m2 N D P C=>?_⟩;cases f:su x n with
  |none=>rw[f]at q;cases q
  |some t=>
   obtain⟨j,K,vs⟩:=t;rw[f]at q;replace q:(if (eY e && K.all eY)=true then (um e K vs).map λv=>(v,n) else none)=some (d,R):=q;split at q
   .rename_i c;rw[av]at c;obtain⟨z,W,q⟩:=eR.mp q;cases q;obtain⟨rfl,b⟩:=vY f;obtain⟨a,rfl,hm⟩:=RD.mono D M;obtain⟨kvs,hH,g,rk,rs⟩:=P.obj j a _ hm b;obtain⟨w,Z,p⟩:=Cc c.1 c.2 g rs W;exact⟨a,kvs,pd e,w,rfl,hH,λpins J s I=>⟨we I c.1 C,qZ I c.2 g rk⟩,Z,k w G m2 N (A.trans D) P p⟩
   .cases q
end
variable{X:Cx}
theorem Fv:PE X (.Dict [] [] B) LJ:=λpins s J H Q I h=>
 yu ⟨.ref s.heap.objs.size,_,I.laid (a:=s.heap.objs.size) (o:=.dN []) (t':=s.toks) (λ_ _ q=>ba _ q) (al _) (GQ s.heap I.big),rfl,h _ (I.h.fresh (al _))⟩
@[simp] def zu(_L:Lc)(S:aA):tw:=some (.ref S.length,S++[.dtn [] []])
theorem Lj:PE X (.Dict [] [] B) (tE X.K zu):=Fv.imp' λJ H Q z=>by obtain⟨F,m,L,S,d,x,r,l,q,k⟩:=z;cases q;intro p h;refine k (.ref p) F (m++[p]) _ (fA h) (r.own h ⟨[],aV,rfl,rfl,rfl⟩) ⟨p,rfl,?_⟩;rw[<- r.len,cy (al _)];simp
@[simp] def CV(va vb:EV)(L:Lc)(S:aA):tyV:=a6 (va L S) λx h=>(vK x).bind λt=>if t=true then some (.bl false,h) else a6 (vb L h) λy a=>(vK y).map λu=>(.bl (!u),a)
section
variable{X:Cx}{a b:Expr}{M C:Pos}{va vb:EV}
theorem Rq(ha:PE X a (tV X.K va))(hb:PE X b (tV X.K vb)):PE X (.UnaryOp .Not (.BoolOp .Or [a,b] M) C) (tV X.K (CV va vb)):=by
 intro pins s J H Q I ⟨F,m,L,S,d,Z,r,l,q,k⟩;obtain⟨x,E,e1,q⟩:=aj q;refine uT (BoolOp_or (c_ (ha pins s J H (λv w=>∃e f,Stp F m H e f w/\Rel X.K e w f E/\RP X.K e w x v) I ⟨F,m,L,S,x,E,r,l,e1,λv e f w T A M=>⟨e,f,T,A,M⟩⟩) λu T n=>?_));obtain⟨v,w,I1,ru,e,f,g,A,M⟩:=n;obtain⟨t,et,q⟩:=qu.mp q;refine cM (vJ pins T J w v u (λc i=>c=t/\i=w) I1 ru ⟨t,nM M et,rfl,rfl⟩) (λc B n=>?_) λ_ _ z=>z
 obtain⟨i,W,o,K⟩:=n;subst o K;cases c with
 |true=>cases q;rw[af rfl];refine not_of (cM (vJ pins B J i v u (λc h=>c=true/\h=i) W ru ⟨true,nM M et,rfl,rfl⟩) (λc s3 n=>?_) λ_ _ z=>z);obtain⟨h,D,o,K⟩:=n;subst o K;exact⟨.bl false,h,D,rfl,k _ e f h g A rfl⟩
 |false=>rw[ah bP]at q ⊢;obtain⟨y,S2,e2,q⟩:=aj q;obtain⟨t2,G,q⟩:=eR.mp q;cases q;refine c_ (Fq hb pins B J i (λv h=>∃p j,Stp e f i p j h/\Rel X.K p h j Z/\RP X.K p h y v) W ⟨e,f,L,E,y,Z,A,l.mono g,e2,λv p j h B N C=>⟨p,j,B,N,C⟩⟩) λu2 s3 n=>?_;obtain⟨v2,h,D,R,p,j,V,N,C⟩:=n;refine not_of (cM (vJ pins s3 J h v2 u2 (λc P=>c=t2/\P=h) D R ⟨t2,nM C G,rfl,rfl⟩) (λc s4 n=>?_) λ_ _ z=>z);obtain⟨P,I4,o,K⟩:=n;subst o K;exact⟨.bl (!c),P,I4,rfl,k _ p j P (g.trans V) N rfl⟩
end
noncomputable def gD(g:GF):GF:=λd S=>g (d++[.p .non]) S
section
variable{X:Cx}{B:Pos}{e:Expr}{t:Ab}{fs:tm}
theorem Le(o:Mk X.K h w)(G:FnOk X.p X.w X.K X.g X.b tu k w fd N (sh X.K g))(hr:Room (k+1) X.A)(hg:Gl X x)(hm:X.g x=some (.ref h))(hC:kl X.K x h)(hb:Binds X.K fd N [.none])
  (ha:PA X (e::t) (BO X.K fs)) (P:(x == ("__debug__":Str))=false) (he:starEach (e::t) X.e=(false,eval e X.e)::starEach t X.e) (C:(backTo B (starEach t X.e)).any (·.1)=false) :
  PE X (.Call (.Name x p) (e::t) [] B) (tE X.K (oj (gD g) x fs)):=
 (B0 o G hr hg hm hb (dvs:=[.non]) (.cons rfl .nil) sr ha P he C).imp' λJ H Q hz=>by
  obtain⟨F,m,L,S,d,E,r,l,q,k⟩:=hz;obtain⟨z,c,e1,q⟩:=aj q;refine⟨F,m,L,S,z,c,r,l,e1,λxs f s b s1 I M=>λy a hy i A=>?_⟩;split at q
  .rename_i _ S2 eg;cases q;have R:Stp f s b f s (cq b a (.own y)):=jL i;have r2:Rel X.K f (cq b a (.own y)) s c:=I.new i;have j:cq b a (.own y) y=none:=by rw[aN (aS A)];exact hy
   have T:Stp f s (cq b a (.own y)) f (s++[y]) (cq (cq b a (.own y)) y (.ins h a [])):=fA j;have r3:Rel X.K f (cq (cq b a (.own y)) y (.ins h a [])) (s++[y]) (c++[.ins x [] []]):=r2.own j ⟨h,a,[],hC,aV,rfl,rfl⟩;have u:(s++[y])[c.length]? = some y:=by rw[<- I.len,cy (al _)];simp
   have p3:=dB.mono T (dB.mono R M);have K:g (.ref c.length::(z++[.p .non])) (c++[.ins x [] []])=some (.p .non,E):=eg;have D:RD X.K f (cq (cq b a (.own y)) y (.ins h a [])) (s++[y]) (.p .non) .non:=show V.non=V.non from rfl;have pp:dB X.K f (cq (cq b a (.own y)) y (.ins h a [])) (s++[y]) (z++[.p .non]) (xs++[.non]):=dB.append p3 ⟨_,_,rfl,D,rfl⟩;refine⟨f,s++[y],.ref c.length::(z++[.p .non]),_,.p .non,E,r3,⟨_,_,rfl,⟨y,rfl,u⟩,pp⟩,K,λv Z m4 H4 W r4 p4=>⟨p4,?_⟩⟩;refine k (.ref y) Z m4 H4 (s1.trans (R.trans (T.trans W))) r4 ⟨y,rfl,?_⟩;obtain⟨n,en⟩:=W.pre;rw[en,bF (bO.mp u).1];exact u
  .cases q
end
section
variable{X:Cx}{pins:PN}{J:L2.St}{H:Hp}{s:Shared}{fp:List Addr}{j:Heap}
theorem Gj(I:Inv X pins J H s)(f:∀b ∈ fp,tj X pins H b)(k:∀b o,b ∉ fp->s.heap.get? b=some o->j.get? b=some o)
  (w:j.get? s.heap.objs.size=some { cls:=.type "tuple",data:=.seq #[u,v] }) (A:RelV x u) (B:RelV y v):Inv X pins J (cq H s.heap.objs.size (.tup [x,y])) { s with heap:=j }:=by
 have h:H s.heap.objs.size=none:=I.h.fresh (al _);have p:∀{b:Addr}{o:HO},H b=some o->b ∉ fp:=λ{b o} q z=>by rw[(f b z).1]at q;cases q
 refine I.step (g':=s.gens) (d':=s.drawn) (t':=s.toks) (ch:=fp) (λb e=>?_) (λb o _ _ a q _=>k b o a q) (λb o _ _ a q _=>⟨o.slots,k b o a q⟩) (λb o _ q n=>?_) (λb o a q=>⟨o,k b o a q⟩)
  (λb d q=>?_) (λb o d q=>?_) (λb N q=>⟨#[],?_⟩) (λm K=>?_) (λb C q=>?_) I.bare
 .obtain⟨_,i,_,l,S,F⟩:=f b e;exact⟨l,i,S,F⟩
 .rw [aN (bK (aJ q))];exact n
 .rw [aN (b7 q h)];exact q
 .rw [aN (b7 q h)];exact q
 .rw [aN (b7 q h),q];simp
 .obtain⟨o,t,g,P,r⟩:=K;exact⟨o,t,g,k _ o (λz=>(f _ z).2.1 rfl) P,r⟩
 .by_cases e:b=s.heap.objs.size
  .subst e;rw[aV]at q;cases q;exact⟨by show 2≤sizeLine;decide,[u,v],.cons A (.cons B .nil),⟨_,w,⟨rfl,_,rfl⟩,rfl⟩⟩
  .rw [aN e]at q;refine(I.h b C q).stay (λc v a z=>k c v ?_ z) (λc z=>by rw[aN (b7 z h)];exact z) λc d z=>by rw[aN (b7 z h)];exact z
   rcases a with rfl|a
   .exact p q
   .exact p a
theorem M0(I:Inv X pins J H s)(f:∀b ∈ fp,tj X pins H b)(k:∀b o,b ∉ fp->s.heap.get? b=some o->j.get? b=some o):Inv X pins J H { s with heap:=j }:=by
 have e:∀{b:Addr}{o:HO},H b=some o->b ∉ fp:=λ{b o} q z=>by rw[(f b z).1]at q;cases q
 refine I.step (g':=s.gens) (d':=s.drawn) (t':=s.toks) (ch:=fp) (λb u=>?_) (λb o _ _ h q _=>k b o h q) (λb o _ _ h q _=>⟨o.slots,k b o h q⟩) (λ_ _ _ _ n=>n) (λb o h q=>⟨o,k b o h q⟩)
  (λ_ _ q=>q) (λ_ _ _ q=>q) (λb N q=>⟨#[],by rw[q];simp⟩) (λm g=>?_) (λb l q=>?_) I.bare
 .obtain⟨_,x,_,a,d,w⟩:=f b u;exact⟨a,x,d,w⟩
 .obtain⟨o,t,p,i,r⟩:=g;exact⟨o,t,p,k _ o (λz=>(f _ z).2.1 rfl) i,r⟩
 .refine (I.h b l q).stay (λc v h z=>k c v ?_ z) (λc z=>z) λc y z=>z;rcases h with rfl|h
  .exact e q
  .exact e h
def ND(f:Bool)(K:FG)(H:Hp)(a:Addr)(xs:List V):Prop:=if f=true then p' K H a xs else g0 K H a xs
theorem IL(I:Inv X pins J H s)(h:ND f X.K H a xs):∃i:LV,bb xs i/\Kf f s.heap a i.toArray:=by
 cases f
 .obtain⟨i,r,p,_⟩:=I.list h;exact⟨i,r,p.isList⟩
 .obtain⟨i,r,⟨o,e,c,n⟩,_⟩:=I.tuple h;exact⟨i,r,o,e,c,n⟩
theorem IE(p:Kf f h a xs)(q:Kf f h a k):xs=k:=by cases f<;>(obtain⟨o,e,c,n,d⟩:=p;obtain⟨r,s,b,m,x⟩:=q;rw[e]at s;cases s;rw[d]at x;cases x;rfl)
theorem E1(I:Inv X pins J H s)(p:ND f X.K H a xs)(q:ND f X.K H a w):xs=w:=by
 obtain⟨i,r,k⟩:=IL I p;obtain⟨x,n,b⟩:=IL I q;have e:=IE k b;have h:i=x:=by simpa using dh vD e
 subst h;exact bb.inj r n
end
def NE(K:FG)(f:Bool)(a b:Addr):It:=
 ⟨λi H=>∃xs s x y,g0 K H a xs/\ND f K H b s/\xs[i]? = some x/\s[i]? = some y,λi H x h=>∃p u v,x=.ref p/\H p=none/\h=cq H p (.tup [u,v])/\(∀xs,g0 K H a xs->xs[i]? = some u)/\∀s,ND f K H b s->s[i]? = some v,λi H=>∃xs,g0 K H a xs/\xs.length≤i⟩
theorem EH{P:Program}{w:World}{K:FG}{t:Ab}{n:Nat}{B:Pos}(f:Bool){a b z TI TO d g:Addr}(nd:[z,TI,TO,d,g].Nodup)(na:a ∉ [z,TI,TO,d,g])(nb:b ∉ [z,TI,TO,d,g]) :
  Turn P w K (.Tuple t n B) (NE K f a b) [z,TI,TO,d,g] z (λi h=>gX h z TI TO .none (.bool false)/\d4 h TI (.ref d) (.ref g)/\(∃p q,d4 h TO p q)/\h.IsListIter d a i/\DS f h g b i) where
 mem:=by simp
 obj:=λi h st c m=>by
  obtain⟨r,l,⟨p,q,A⟩,⟨o1,Q,c1,d1⟩,F⟩:=st;obtain⟨o2,D,⟨vs,d2⟩,_⟩:=F.obj;simp only[aQ,cJ,cH]at m;rcases m with rfl|rfl|rfl|rfl|rfl
  .exact⟨_,r,λv x=>by have L:Data.fields _=Data.cell v:=x;cases L⟩
  .exact⟨_,l,λv x=>by have L:Data.seq _ _=Data.cell v:=x;cases L⟩
  .exact⟨_,A,λv x=>by have L:Data.seq _ _=Data.cell v:=x;cases L⟩
  .exact⟨o1,Q,λv x=>by rw[d1]at x;cases x⟩
  .exact⟨o2,D,λv x=>by rw[d2]at x;cases x⟩
 keep:=λi h j st k=>by obtain⟨r,l,⟨p,q,A⟩,C,F⟩:=st;obtain⟨o2,D,_,r2⟩:=F.obj;exact⟨k z (by simp) _ r,k TI (by simp) _ l,⟨p,q,k TO (by simp) _ A⟩,C.at λo e=>k d (by simp) o e,r2 _ (k g (by simp) _ D)⟩
 item:=by
  intro X W hw V m i pins s J H E I M st hg;subst W hw V;obtain⟨xs,ys,x,y,N,G,hx,hy⟩:=hg;obtain⟨its,rv,pl,_⟩:=I.list N;obtain⟨u,hu,ru⟩:=rv.get hx;obtain⟨its2,rv2,s2⟩:=IL I G;obtain⟨v,hv,rv'⟩:=rv2.get hy;obtain⟨r,l,⟨p,q,A⟩,C,F⟩:=st;have lt:∀c ∈ [z,TI,TO,d,g],c < s.heap.objs.size:=λc m=>by
   obtain⟨o1,Q,_⟩:=id C;obtain⟨o2,D,_⟩:=F.obj;simp only[aQ,cJ,cH]at m;rcases m with rfl|rfl|rfl|rfl|rfl
   .exact aJ r
   .exact aJ l
   .exact aJ A
   .exact aJ Q
   .exact aJ D
  simp only[ci,aQ,cJ,cH,i3]at nd na nb;refine vF ⟨_,r,rfl⟩ (t5 r l A C F pl.isList s2 (by simpa using hu) (by simpa using hv) (by grind) (by grind) (by grind) (by grind) (by grind) (by grind) (by grind) (by grind) (by grind) (by grind) λj T q1 q2 q3 q4 q5 q6 q7=>?_);subst q6;refine⟨_,rfl,wpAny_letOwnedTupleGo_zip (s:={ s with heap:=j }) q1 λR z2 S=>?_⟩;replace S:fw z j R:=S;have kp:∀c o,c ∉ [z,TI,TO,d,g]->s.heap.get? c=some o->R.get? c=some o:=λc o m e=>by simp only[aQ,cJ,cH,i3]at m;exact S.extBut _ _ m.1 (q7 c o m.1 m.2.2.2.1 m.2.2.2.2 m.2.2.1 e)
  have zlt:=lt z (by simp);have Z:H s.heap.objs.size=none:=I.h.fresh (al _);have I2:Inv X pins J (cq H s.heap.objs.size (.tup [x,y])) { s with heap:=R }:=Gj I M kp (S.extBut _ _ (cx zlt) q5) ru rv';refine⟨.ref s.heap.objs.size,_,I2,rfl,⟨_,x,y,rfl,Z,rfl,λxs' h=>by rw[I.list_inj h N];exact hx,λys' h=>by rw[E1 I h G];exact hy⟩,⟨z2,S.extBut _ _ (by grind) (q7 _ _ (by grind) (by grind) (by grind) (by grind) l),⟨u,v,S.extBut _ _ (by grind) q4⟩,q2.extBut S.extBut (by grind),q3.extBut S.extBut (by grind)⟩,λc m=>?_⟩;rw[aN (bK (lt c m))];exact(M c m).1
 done:=by intro X W hw V m i pins s J H E I M st hg;subst W hw V;obtain⟨xs,N,hx⟩:=hg;obtain⟨its,rv,pl,_⟩:=I.list N;obtain⟨r,l,⟨p,q,A⟩,C,F⟩:=st;have hl:=rv.length;simp only[ci,aQ,cJ,cH,i3]at nd na;refine vF ⟨_,r,rfl⟩ (wR (show X.A.in1.handled=none from I.o.hd m) r l C pl.isList (by simp;lia) (by grind) (by grind) λj e kp hz=>?_);obtain⟨o,eo,co⟩:=hz;refine⟨e,o,rfl,eo,co,rfl,M0 I M λc ob m ec=>kp c ob (λx=>m (by simp[x])) (λx=>m (by simp[x])) ec⟩
 self:=λ_ _ _ _ _ st h=>yv st.1 h
theorem DI(f:Bool)(l:s.heap.IsList r xs)(x:Kf f s.heap q I)
  (h:∀j i a TI TO z,(∀b o,s.heap.get? b=some o->j.get? b=some o)->s.heap.objs.size≤i->i < a->a < TI->TI < TO->TO < z->j.IsListIter i r 0->DS f j a q 0->d4 j TI (.ref i) (.ref a)->d4 j TO .none .none ->
   gX j z TI TO .none (.bool false)->Q (.ref z) { s with heap:=j }):wpAny (model g w) A (call (.type "zip") [.ref r,.ref q]) Q E s:=by
 cases f
 .refine call_zip_2 l x λj c T e n k _ hk=>?_;exact h j s.heap.objs.size (s.heap.objs.size+1) (s.heap.objs.size+2) (s.heap.objs.size+3) (s.heap.objs.size+4) hk (al _) (jH _) (jH _) (jH _) (jH _) n k T e c
 .exact pS l x h
noncomputable def rS(xs y:List P):List P:=(xs.zip y).map λz=>.tup [z.1,z.2]
@[simp] def JE(a b:EV)(L:Lc)(S:aA):EG:=a6 (a L S) λv x=>a6 (b L x) λw h=>match v,w with
 | .lst xs,.lst y=>if xs.length≤y.length then some (rS xs y,h) else none
 | .lst xs,.tup y=>if xs.length≤y.length then some (rS xs y,h) else none
 |_,_=>none
variable{f:Bool}{a:Addr}{xs:List V}
theorem F9(C:I.length≤ws.length)(D:∀n c h,Stp F m H n c h->g0 K h a xs/\ND f K h b w)(r:cX K F H I xs)(L:cX K F H ws w):NF K (NE K f a b) (rS I ws) F m H:=by intro n c h st;obtain⟨k,s⟩:=D n c h st;have E:=r.length;refine⟨λi v e=>?_,⟨xs,k,by unfold rS;rw[aZ,List.length_zip,u6 C,E];exact al _⟩⟩;unfold rS at e;rw[dJ]at e;obtain⟨⟨N,Q⟩,o,rfl⟩:=eR.mp e;obtain⟨S,P⟩:=List.getElem?_zip_eq_some.mp o;obtain⟨x,g,p⟩:=r.get S;obtain⟨y,j,G⟩:=L.get P;refine⟨⟨xs,w,x,y,k,s,g,j⟩,λz M q=>?_⟩;obtain⟨R,u,v,rfl,l,rfl,A,B⟩:=q;have t:=A xs k;have d:=B w s;rw[g]at t;rw[j]at d;cases t;cases d;exact⟨n,cB l,RP.newTup l ⟨_,_,rfl,RP.mono st p,_,_,rfl,RP.mono st G,rfl⟩⟩
theorem iZ{X:Cx}{B:Pos}{t:Ab}{n:Nat}{a b:Expr}{G L:EV}{p T:Pos}(gz:Gl X "zip")(mz:X.g "zip"=none)(ha:PE X a (tV X.K G))(hb:PE X b (tV X.K L))(hs:starEach [a,b] X.e=[(false,eval a X.e),(false,eval b X.e)])(Z:starEach [b] X.e=[(false,eval b X.e)]) :
  PI X (.Tuple t n B) (.Call (.Name "zip" p) [a,b] [] T) (tI X.K (JE G L)):=by
 intro pins s J H R I ⟨F,m,h,S,vs,S',r,l,q,k⟩;obtain⟨x,S1,e1,q⟩:=aj q;obtain⟨y,S2,e2,q⟩:=aj q;refine mM (lC I gz mz As ?_ (by decide) (by decide));refine lQ ?_ (by rw [hs,Z]) (by rw [Z];rfl);rw [hs];refine fu (c_ (ha pins s J H (fun v P=>∃g A,Stp F m H g A P/\Rel X.K g P A S1/\RP X.K g P x v) I ⟨F,m,h,S,x,S1,r,l,e1,fun v g A P s1 r1 M=>⟨g,A,s1,r1,M⟩⟩) fun u s1 ⟨v,P,I1,ru,g,A,N,r1,M⟩=>
  fu (c_ (hb pins s1 J P (λv d=>∃i D,Stp g A P i D d/\Rel X.K i d D S2/\RP X.K i d y v) I1 ⟨g,A,h,S1,y,S2,r1,l.mono N,e2,λv i D d E r2 C=>⟨i,D,E,r2,C⟩⟩) λu2 E ⟨v2,d,Q,ru2,i,D,w,r2,C⟩=>i0 ?_))
 have go:∀(f:Bool){o K:Addr}{xs ys:List V},v=.ref o->v2=.ref K->g0 X.K d o xs->ND f X.K d K ys->R (NE X.K f o K) d->wx X (call (.type "zip") [u,u2]) (λv s1=>wx X (pyIter v) (Qv X pins J (.Tuple t n B) R) X.xe s1) X.xe E:=λf {o K xs ys} ea eb hq hq2 qR=>by
  subst ea eb;cases ru;cases ru2;obtain⟨its,_,pl,_⟩:=Q.list hq;obtain⟨its2,_,sq⟩:=IL Q hq2;have la:o < E.heap.objs.size:=by obtain⟨_,e,_⟩:=pl.isList;exact aJ e
  have lb:K < E.heap.objs.size:=by cases f<;>(obtain⟨_,e,_⟩:=sq;exact aJ e)
  refine DI f pl.isList sq λj i1 i2 TI TO z kp n0 n1 n2 n3 n4 hi1 hi2 hTI hTO hz=>yv hz ?_;refine⟨z,[z,TI,TO,i1,i2],_,_,d,rfl,Q.kept (t':=E.toks) kp,EH f (a:=o) (b:=K) (by simp;grind) (by simp;grind) (by simp;grind),⟨hz,hTI,⟨_,_,hTO⟩,hi1,hi2⟩,λc hc=>?_,qR⟩;have W:E.heap.objs.size≤c:=by simp only[aQ,cJ,cH]at hc;grind
  exact Q.fpOk W (Q.h.fresh W)
 cases x with
 |lst ds=>
  cases y with
  |lst ds2=>
   dsimp only at q;split at q
   .rename_i hl;cases q;obtain⟨o,xs,rfl,ta,ra⟩:=RP.mono w M;obtain⟨K,ys,rfl,tb,rb⟩:=C;exact go false rfl rfl ta.sq tb.sq (k _ i D d (N.trans w) r2 (F9 (f:=false) hl (λF3 m3 H3 s=>⟨(ta.kp s.kp).sq,(tb.kp s.kp).sq⟩) ra rb))
   .cases q
  |tup ds2=>
   dsimp only at q;split at q
   .rename_i hl;cases q;obtain⟨o,xs,rfl,ta,ra⟩:=RP.mono w M;obtain⟨K,ys,rfl,tb,rb⟩:=C;exact go true rfl rfl ta.sq tb.sq (k _ i D d (N.trans w) r2 (F9 (f:=true) hl (λF3 m3 H3 s=>⟨(ta.kp s.kp).sq,(tb.kp s.kp).sq⟩) ra rb))
   .cases q
  |_=>cases q
 |_=>cases q
def G1(N:List P)(y:P):Option Nat:=if (N.all (cm 19) && cm 19 y)=true then some ((jD N).countP λz=>b9 z (pd y)) else none
@[simp] def Lq(G L:EV)(h:Lc)(S:aA):tyV:=a6 (G h S) λv x=>match v with
 | .lst N=>a6 (L h x) λy a=>(G1 N y).map λ(i:Nat)=>(.int (i:Int),a)
 |_=>none
section
variable{X:Cx}{pins:PN}{J:L2.St}{H:Hp}{s:Shared}{F:Aa}{N:List P}{y:P}{vy:V}{u:Value}{i:Nat}{Q:VK}{a:Addr}
theorem zE(C:X.A.units+64 < cLine)(I:Inv X pins J H s)(S:RP X.K F H (.lst N) (.ref a))(K:RP X.K F H y vy)(A:RelV vy u)(e:G1 N y=some i)(q:Q (.int i) H) :
  wx X (call (.builtin "list.count") [.ref a,u]) (EP X pins J Q) X.xe s:=by
 unfold G1 at e;split at e;case isFalse=>cases e
 rename_i h;cases e;rw[av]at h;obtain⟨B,r⟩:=gG I 20 S (show RelV (.ref a) (.ref a) from rfl) (by simpa[cm] using h.1);obtain⟨bs,P⟩:=gG I 19 K A h.2;have m:=B6 h.1;have w:=eX 19 _ h.2;rw[pd]at r;cases r with
 | @list l o v n _ t k f b c=>
  obtain⟨D,g,j,x⟩:=o;dsimp only at f b;subst f b;have d:=Az _ _ _ m.1 c;have p:v.toList.countP (λz=>b9 (kx s.heap z) (pd y))=(jD N).countP λz=>b9 z (pd y):=by rw[<- d,List.countP_map];rfl
  exact jk Ac ⟨_,k,rfl⟩ PySem.F.entry_list_count (PySem.F.args_list_count_2 _ _) (SeqAt.list_countAt a v n g x u (λz=>b9 (kx s.heap z) (pd y))) ⟨k,Ay c P m.1 w.1 (by lia),⟨.int _,H,I.tok _,⟨_,rfl⟩,by rw[p];exact q⟩⟩
theorem Lk(hu:X.A.units+64 < cLine)(ho:PE X o (tV X.K l))(he:PE X e (tV X.K fe))(W:starEach [e] X.e=[(false,eval e X.e)])
  (t:attributeBase o "count" X.e (eval o X.e)=eval o X.e) (p:(apos.endLine == cpos.line)=true):PE X (.Call (.Attribute o "count" apos) [e] [] cpos) (tV X.K (Lq l fe)):=by
 intro pins s J H Q I ⟨F,m,L,S,d,T,r,h,q,k⟩;obtain⟨x,A,e1,q⟩:=aj q;refine yz t (by rw[W];rfl) p rfl (c_ (ho pins s J H (λv c=>∃n w,Stp F m H n w c/\Rel X.K n c w A/\RP X.K n c x v) I ⟨F,m,L,S,x,A,r,h,e1,λv n w c G B M=>⟨n,w,G,B,M⟩⟩) λu G hz=>?_);obtain⟨v,c,R,ru,n,w,K,B,M⟩:=hz;cases x with
 |lst N=>obtain⟨y,S2,e2,q⟩:=aj q;obtain⟨i,ei,q⟩:=eR.mp q;cases q;obtain⟨a,xs,rfl,hq,rp⟩:=id M;cases (show u=Value.ref a from ru);obtain⟨z,its,n',rr,hl,V⟩:=R.lstM hq.2;refine⟨"list","list.count",qo,Ac,PySem.F.type_list_count,⟨_,V,rfl⟩,λb eb=>by cases eb;exact⟨_,V,rfl⟩,?_⟩;rw[W];refine lS rfl (lR (fu (c_ (he pins G J c (λvy g=>∃f j,Stp n w c f j g/\Rel X.K f g j T/\RP X.K f g y vy) R ⟨n,w,L,A,y,T,B,h.mono K,e2,λv f j g Z D C=>⟨f,j,Z,D,C⟩⟩) λuy Z ⟨vy,g,I2,E,f,j,P,D,C⟩=>i0 ?_)));exact zE hu I2 (RP.mono P M) C E ei (k _ f j g (K.trans P) D rfl)
 |_=>cases q
end
noncomputable def Qi:P->Option (List P)
 | .lst xs=>some xs
 |_=>none
@[simp] def xV(a:EV)(L:Lc)(S:aA):tw:=a6 (a L S) λv h=>(Qi v).map λxs=>(.ref h.length,h++[.lst (xs.map .p)])
@[simp] def JU(a b:EV)(L:Lc)(S:aA):tw:=a6 (a L S) λv x=>a6 (b L x) λw h=>match v,w with
 | .lst xs,.int n=>if (jb (xs.length * n.toNat) && decide (n.natAbs < 1000000))=true then some (.ref h.length,h++[.lst ((List.replicate n.toNat xs).flatten.map .p)]) else none
 |_,_=>none
section
variable{X:Cx}
theorem Lb{a:Expr}{G:EV}{p B:Pos}(j:Gl X "list")(o:X.g "list"=none)(i:PE X a (tV X.K G))(c:starEach [a] X.e=[(false,eval a X.e)]):PE X (.Call (.Name "list" p) [a] [] B) (tE X.K (xV G)):=
 (l0 kX j o qv (fX i js (by rw[c];rfl)) (by decide) (by decide) (by rw[c];rfl) rfl).imp' λJ H Q z=>by
  obtain⟨F,m,L,S,d,C,r,l,q,k⟩:=z;obtain⟨x,u,g,q⟩:=aj q;obtain⟨xs,n,q⟩:=eR.mp q;cases q;refine⟨F,m,L,S,x,u,r,l,g,λv h e s P t M=>?_⟩;cases x with
  |lst D=>cases n;obtain⟨a,y,rfl,A,K⟩:=M;refine⟨a,y,rfl,.inl A.sq,λb f=>?_⟩;have w:Stp h e s h (e++[b]) (cq s b (.lst y)):=fA f;refine k (.ref b) h (e++[b]) _ (P.trans w) (t.own f ⟨y,aV,dB.ofP (cX.mono w K)⟩) ⟨b,rfl,?_⟩;rw[<- t.len,cy (al _)];simp
  |_=>cases n
theorem BU(r:cX K F H h xs):∀n:Nat,cX K F H (List.replicate n h).flatten (List.replicate n xs).flatten
 |0=>rfl
 |n+1=>by rw[cS,cS,fS,fS];exact r.append (BU r n)
theorem Ro{a b:Expr}{G L:EV}{B:Pos}(R:PE X a (tV X.K G))(T:PE X b (tV X.K L)):PE X (.BinOp a .Mult b B) (tE X.K (JU G L)):=
 (Kw FD R T).imp' λJ H Q V=>by
  obtain⟨F,m,h,S,d,S',r,l,q,k⟩:=V;obtain⟨v,t,E,q⟩:=aj q;obtain⟨w,P,I,q⟩:=aj q;refine⟨F,m,h,S,v,t,r,l,E,λx K W H1 j Z M=>?_⟩;refine⟨K,W,h,t,w,P,Z,l.mono j,I,λy e s f z g C=>?_⟩;cases v with
  |lst D=>
   cases w with
   |int n=>
    dsimp only at q;split at q
    .rename_i c;rw[av]at c;cases q;obtain⟨A,xs,rfl,ta,i⟩:=RP.mono z M;cases (show y=.int n from C);have h1:=aM c.2;have N:D.length * n.toNat≤1000000:=aM c.1;refine⟨A,n,xs,rfl,rfl,ta.2,by lia,by lia,?_,λp u=>?_⟩
     .rw [<- i.length];exact aI N (by decide)
     .have o:Stp e s f e (s++[p]) (cq f p (.lst (List.replicate n.toNat xs).flatten)):=fA u;refine k (.ref p) e (s++[p]) _ (j.trans (z.trans o)) (g.own u ⟨_,aV,dB.ofP (cX.mono o (BU i n.toNat))⟩) ⟨p,rfl,?_⟩;rw[<- g.len,cy (al _)];simp
    .cases q
   |_=>cases q
  |_=>cases q
end
section
variable{X:Cx}{a:Expr}{G:EE}{p B:Pos}
noncomputable def sF(T:String)(d:D)(S:aA):Option Bool:=match d with
 | .p (.bl _)=>if T="bool" then some true else none
 | .ref i=>(match S[i]? with
  |some (.lst _)=>if T="list" then some true else none
  |_=>none)
 |_=>none
@[simp] def jJ(T:String)(f:EE)(L:Lc)(S:aA):tyV:=a6 (f L S) λd h=>(sF T d h).map λb=>(.bl b,h)
theorem DJ(T:k="list"\/k="bool"):fL X (.builtin "isinstance") (λxs H Q=>∃F m S d b x,xs=[x,.ty k]/\Rel X.K F H m S/\RD X.K F H m d x/\sF k d S=some b/\Q (.bl b) H):=by
 intro pins s J H xs M Q I r ⟨F,m,S,d,b,x,e,D,pd,i,q⟩;subst e;obtain⟨u,E,rfl,g,v⟩:=vals2 r;cases (show E=Value.type k from v);have f:∀l,EP X pins J Q (.bool b) { s with toks:=l }:=λl=>⟨.bl b,H,I.tok _,rfl,q⟩
 unfold sF at i;cases d with
 |p w=>
  cases w with
  |bl c=>
   dsimp only at i;split at i
   .rename_i h;subst h;cases i;cases (show x=.bl c from pd);cases (show u=Value.bool c from g);exact Ef PySem.W.kitx_bool I.kIn True.intro rfl (λz=>nomatch z) f
   .cases i
  |_=>cases i
 |ref j=>
  obtain⟨a,rfl,A⟩:=pd;dsimp only at i;cases t:S[j]? with
  |none=>rw[t]at i;cases i
  |some o=>
   rw[t]at i;cases o with
   |lst G=>
    dsimp only at i;split at i
    .rename_i h;subst h;cases i;obtain⟨xs,P,L⟩:=D.obj j a _ A t;cases g;obtain⟨B,_,C,_⟩:=I.list (g0.of P);obtain⟨o,n,y,K,_⟩:=C;exact Ef PySem.W.kitx_list I.kIn ⟨o,y,K⟩ rfl (λz=>nomatch z) f
    .cases i
   |_=>cases i
theorem Kj(T:h="list"\/h="bool")(o:Gl X "isinstance")(K:X.g "isinstance"=none)(g:Gl X w)(e:X.g w=none)(z:bootBuiltins w=some (.type h))(y:PE X a (tE X.K G))
  (P:w≠"__name__") (hd:(w == ("__debug__":Str))=false) (f:starEach [a,.Name w C] X.e=[(false,eval a X.e),(false,eval (.Name w C) X.e)]):PE X (.Call (.Name "isinstance" p) [a,.Name w C] [] B) (tV X.K (jJ h G)):=
 (nR (DJ T) o K H0 (fX y (fX (Ji (v:=.ty h) g e z rfl P hd) js rfl) (by rw[f];rfl)) (by decide) (by decide) (by rw[f];rfl) rfl).imp' λJ H Q A=>by obtain⟨F,m,L,S,d,E,r,l,q,k⟩:=A;obtain⟨x,I,i,q⟩:=aj q;obtain⟨b,j,q⟩:=eR.mp q;cases q;exact⟨F,m,L,S,_,_,r,l,i,λv n c u s t D=>⟨n,c,_,x,b,v,rfl,t,D,j,k _ n c u s t rfl⟩⟩
end
noncomputable def C6:List D->Option (List P)
 | []=>some []
 | .p v::r=>(C6 r).map (v::·)
 | .ref _::_=>none
theorem BW:∀{d:List D}{N:List P},C6 d=some N->d=N.map .p
 | [],_,h=>by cases h;rfl
 | .p v::r,N,h=>by obtain⟨qs,e,rfl⟩:=eR.mp h;rw[aG,<- BW e]
 | .ref _::_,_,h=>by cases h
def B5(d:D)(S:aA):Option (Nat×List P):=(eZ d S).bind λz=>(C6 z.2).map λN=>(z.1,N)
def rY(l:EE)(t:List Nat)(n:Nat)(g:ki)(c:EB)(e:EV)(L:Lc)(S:aA):tyV:=a6 (l L S) λd x=>(B5 d x).bind λz=>if few z.2=true then a6 (g8 (λh=>h[z.1]? = some (.lst (z.2.map .p))) g c e z.2 (lZ t n L) x) λy h=>some (.lst y,h) else none
theorem Nl(R:PE X iter (tE X.K l)):tq X tg iter (rY l ts h g I fe) ts h g I fe:=by
 refine⟨_,iO R,λJ H F m L S d y r s q=>?_⟩;obtain⟨d',b,z,q⟩:=aj q;obtain⟨⟨j,N⟩,E,q⟩:=qu.mp q;obtain⟨⟨f,ds⟩,o,K⟩:=qu.mp E;obtain⟨W,P,A⟩:=eR.mp K;cases A;obtain⟨rfl,t⟩:=l7 o;cases BW P;dsimp only at q;split at q;case isFalse=>cases q
 rename_i M;obtain⟨ys,S3,B,q⟩:=aj q;cases q;refine⟨_,N,b,ys,rfl,M,⟨F,m,L,S,f,b,_,r,s,z,t,λa u T H1 s1 r1 p=>⟨u,T,s1,r1,λF2 V H2 y st r2 ok=>?_⟩⟩,B⟩;have n:V[f]? = some a:=by obtain⟨k,C⟩:=st.pre;rw[C,bF (bO.mp p).1];exact p
 obtain⟨xs,c,w⟩:=r2.obj f a _ n ok;have Q:=w.length;refine⟨λi v e=>?_,Gb (g0.of c) (by rw[<- Q,aZ];exact al _)⟩;obtain⟨x,G,Z⟩:=w.get (show(N.map D.p)[i]? = some (.p v) by rw[dJ,e];rfl);exact MW (e:=false) (g0.of c) G Z
end Ev
namespace Ev
open PySem PySem.Spec PyProof.Rows L2
def bU(g:GF)(p:List P):Option P:=match g (p.map .p) [] with
 |some (d,S)=>(toP 9 d S).map (·.1)
 |none=>none
@[simp] noncomputable def cE:Option (Fl×Lc×aA)->Option (D×aA)
 |some (.rt d,_,S)=>some (d,S)
 |some (.nx,_,S)=>some (.p .non,S)
 |_=>none
def m5(p n:Nat)(b:ES):GF:=λd S=>if d.length=p then cE (b (d.map some++List.replicate (n-d.length) none) S) else none
theorem Rel.nil{K:FG}{F:Aa}{H:Hp}(f:∀a,F a->H a≠none):Rel K F H [] []:=⟨rfl,by simp,by simp,by simp,by simp,f⟩
variable{K:FG}{H:Hp}
theorem sg(h:QE K (bU g) y H a s):sh K g y H a s:=by
 obtain⟨F,f,d,t,r,q,k⟩:=h;unfold bU at q;cases e:g (f.map .p) [] with
 |none=>rw[e]at q;cases q
 |some z=>
  obtain⟨n,S⟩:=z;rw[e]at q;dsimp only at q;cases x:toP 9 n S with
  |none=>rw[x]at q;cases q
  |some o=>obtain⟨p,A⟩:=o;rw[x]at q;cases q;refine⟨F,[],f.map .p,[],n,S,.nil t,dB.ofP r,e,λv P B c j w i=>?_⟩;obtain⟨b,l,u,_,m⟩:=se 9 x w i;exact k v b c ((j.trans l).toGrow u.ft) m
theorem FnOk.pure(G:FnOk a w K m base tu k f d p (sh K g)):FnOk a w K m base tu k f d p (QE K (bU g)):=
 FnOk.imp G λ_ _ _ _ h=>sg h
theorem dB.toSt(r:dB K F H m s k):RL K F H m (L2.start N k) (s.map some++List.replicate (N.length-s.length) none):=by
 have l:=r.length;refine⟨by unfold L2.start;simp[l],λi d e=>?_⟩;by_cases h:i < s.length
 .rw [bF (by simpa using h),dJ]at e;cases q:s[i]? with
  |none=>rw[q]at e;cases e
  |some v=>rw[q]at e;cases e;obtain⟨x,a,p⟩:=r.get q;refine⟨x,?_,p⟩;unfold L2.start;rw[bF (by simpa[<- l] using h),dJ,a];rfl
 .rw [cy (by simpa using h),vr]at e;split at e<;>cases e
theorem M8{P:Program}{w:World}{K:FG}{j:SV}{base:Heap}{x u:Str}{st:Stmt}{f:Addr}{g:FuncData}{N p:LS}{k:Nat}{b:ES}(F:Fun K x u st f g)(S:FnScope N p (bv st))
  (I:∀(c:Value) (A:Around) (o:List Env) (s:Shared) (H:Hp) (E:XK),Room k (A.deeper (envOfC u (bv st) s.heap.objs.size f c)) ->
   qc (xY tu P w K j base N u (bv st) f c A o s H E).nox (fY st) (mO K b)):FnOk P w K j base tu (k+1) f g p (sh K (m5 p.length N.length b)):=by
 refine F.ok S (λT H Q E h=>?_) (λc A o s H T Q E M h=>⟨_,I c A o s H E M,?_⟩)
 .obtain⟨F,m,a,S,d,D,B,r,q,k⟩:=h;rw[<- r.length];unfold m5 at q;split at q
  .assumption
  .cases q
 .obtain⟨F,m,a,S,d,D,B,r,q,k⟩:=h;unfold m5 at q;split at q
  .cases e:b (a.map some++List.replicate (N.length-a.length) none) S with
   |none=>rw[e]at q;cases q
   |some z=>
    obtain⟨l,L,G⟩:=z;rw[e]at q;refine⟨F,m,_,S,l,L,G,B,r.toSt,e,λV n i t C y X=>?_⟩;cases l with
    |nx=>cases q;exact k .non n i t C y rfl
    |bk=>cases q
    |ct=>cases q
    |rt W=>intro v R;cases q;exact k v n i t C y R
  .cases q
theorem GG{P:Program}{w:World}{K:FG}{g:SV}{base:Heap}{f:Addr}{x:FuncData}{p:LS}{k:Nat}:FnOk P w K g base tu k f x p (sh K λ_ _=>none):=by
 have n:∀v H Q E,¬sh K (λ_ _=>none) v H Q E:=λv H Q E h=>by obtain⟨F,m,b,S,d,e,_,_,q,_⟩:=h;cases q
 exact⟨λv H Q E h=>absurd h (n v H Q E),λA o s H a u v Q E _ _ _ _ h=>absurd h (n v H Q E)⟩
structure Tr where
 v:Option EV:=none
 e:Option EE:=none
 b:Option EB:=none
 w:Option EB:=none
def Tr.ofV(f:Option EV):Tr:=⟨f,f.map U,f.map λg=>bT (U g),f.map bV⟩
def Tr.ofC(f:Option EV):Tr:=⟨f,f.map U,f.map bV,f.map bV⟩
def Tr.ofE(f:Option EE):Tr:=⟨f.map vE,f,f.map bT,f.map λg=>bV (vE g)⟩
def Tr.ofB(b w:Option EB):Tr:=⟨w.map vB,w.map λg=>U (vB g),b,w⟩
structure Cn where
 N:LS
 own:LS
 deep:LS
 refs:LS
 ks:List (Str×NameKind)
 F:Str->Option GF
 G:Str->Option P
 A:Str->Str->Bool
 M:Str->Str->Option GF
 I:Str->Option GF
noncomputable def mX:LS->Str->Option Nat
 | [],_=>none
 |y::r,x=>if y=x then some 0 else (mX r x).map (·+1)
theorem sE:∀{N:LS}{x:Str}{i:Nat},mX N x=some i->N[i]? = some x
 | [],_,_,h=>by cases h
 |y::r,x,i,h=>by
  unfold mX at h;split at h
  .rename_i e;cases h;simp[e]
  .cases q:mX r x with
   |none=>rw[q]at h;cases h
   |some j=>rw[q]at h;cases h;simpa using sE q
theorem pH:∀{N:LS}{x:Str}{i:Nat},N.Nodup->N[i]? = some x->mX N x=some i
 | [],_,_,_,h=>by simp at h
 |y::r,x,0,_,h=>by
  have:y=x:=by simpa using h
  unfold mX;rw[af this]
 |y::r,x,i+1,d,h=>by
  have a:r[i]? = some x:=by simpa using h
  have n:¬y=x:=λe=>by subst e;exact(ci.mp d).1 (bq a)
  unfold mX;rw[ah n,pH (ci.mp d).2 a];rfl
noncomputable def d9(s:List (Str×NameKind))(x:Str)(l:List NameKind):Bool:=match s.lookup x with
 |some k=>l.contains k
 |none=>false
noncomputable def kL(x:Str):Bool:=!(x == ("__debug__":Str)) && !(x == ("__classdict__":Str))
noncomputable def Tl:LS:=["known"]
noncomputable def Hm:LS:=["Scene"]
def Tx:Operator->Option (P->P->Option P)
 | .Add=>some pP
 | .Sub=>some Ng
 | .Mult=>some pO
 | .FloorDiv=>some zy
 | .Mod=>some Nj
 | .Pow=>some Ni
 |_=>none
def NX:CmpOp->Option (P->P->Option P)
 | .Lt=>some SH
 | .LtE=>some Qe
 | .Gt=>some SJ
 | .GtE=>some SK
 |_=>none
def Qj:CmpOp->Option (D->D->aA->Option P)
 | .Eq=>some Cu
 | .NotEq=>some Hl
 | .In=>some i_
 | .NotIn=>some j4
 | .Is=>some tH
 | .IsNot=>some eF
 |_=>none
def GZ (n:Bool) (o:CmpOp):Option (D->D->aA->Option P):=if n=true then (match o with
 | .NotIn=>some kP
 |_=>none) else Qj o
def tz:List (Option EV)->Option ko
 | []=>some a8
 |a::r=>a.bind λf=>(tz r).map λg=>bt f g
def C0:List (Option EE)->Option tm
 | []=>some jT
 |a::r=>a.bind λf=>(C0 r).map λg=>bY f g
def wU(o:BoolOp):List (Option EB)->Option EB
 | []=>none
 | [a]=>a
 |a::r=>a.bind λf=>(wU o r).map λg=>match o with | .And=>jd f g | .Or=>tX f g
def RG(o:Option (Option EV)):Option EO:=match o with
 |none=>some gH
 |some a=>a.map fJ
noncomputable def Gd(t:Str):Option String:=if t=("list":Str) then some "list" else if t=("bool":Str) then some "bool" else none
def G8(f:Str):Option (List P->Option P):=
 if f=("int":Str) then some cW else if f=("list":Str) then some jy else if f=("tuple":Str) then some cz else if f=("abs":Str) then some pT else none
noncomputable def J_:LS:=["len","isinstance","int","bool","tuple","list","str","max","min","dict","range","abs","enumerate","sorted","all","any","sum","set","zip"]
noncomputable def uf(a s:List (Str×NameKind)):List (Str×NameKind):=a.map λ(n,k)=>if (k == .free && s.lookup n == some .cell) then (n,.cell) else (n,k)
def zG(j:Cn)(E:Scope)(o:LS)(Q:List Nat)(n:Nat):Bool:=
 decide (E.kind=.function) && E.names.all (λx=>x.2 != .cell) && E.names.all (λx=>x.2 != .local ||E.names.lookup x.1 == some .local)
  && E.names.all (λx=>x.2 != .free ||(E.names.lookup x.1 == some .free && (j.ks.lookup x.1 == some .cell ||j.ks.lookup x.1 == some .free)))
  && decide (j.N=o.take j.N.length) && decide (o.length=j.N.length+n)
  && E.names.all (λx=>x.2 != .local ||match mX j.N x.1 with|some i=>Q.contains i|none=>true)
def tG(j:Cn)(f g:Str):Bool:=decide (f=g) && d9 j.ks f [.globalImplicit]
variable{B:Type}
noncomputable def pX:List B->Option B
 | [a]=>some a
 |_=>none
noncomputable def pW{B:Type}:List B->Option (B×B)
 | [a,b]=>some (a,b)
 |_=>none
theorem il{B:Type}{l:List B}{a:B}(h:pX l=some a):l=[a]:=by
 unfold pX at h;split at h
 .cases h;rfl
 .cases h
theorem jK{B:Type}{l:List B}{a b:B}(h:pW l=some (a,b)):l=[a,b]:=by
 unfold pW at h;split at h
 .cases h;rfl
 .cases h
theorem ar{B e:Type}{x:Option B}{f:B->Option e}{r:e}(h:x.bind f=some r):∃a,x=some a/\f a=some r:=by
 cases x with
 |none=>cases h
 |some a=>exact⟨a,rfl,h⟩
theorem aE{B e:Type}{x:Option B}{f:B->e}{r:e}(h:x.map f=some r):∃a,x=some a/\r=f a:=by
 cases x with
 |none=>cases h
 |some a=>cases h;exact⟨a,rfl,rfl⟩
theorem Hn{B:Type}{c:Prop}[Decidable c]{f:c->Option B}{x:B}(h:(if q:c then f q else none)=some x):c:=by
 by_cases q:c
 .exact q
 .rw [dif_neg q]at h;cases h
section
variable{e:Expr}
noncomputable def FP(e:Expr):Option Str:=if h:e.ctorIdx=23 then Expr.Name.elim e h λx _=>some x else none
theorem oY{x:Str}(h:FP e=some x):∃p,e=.Name x p:=by have c:=Hn h;revert h;exact Expr.Name.elim e c λ_ p h=>by cases h;exact⟨p,rfl⟩
noncomputable def lz(e:Expr):Option (Ab):=if h:e.ctorIdx=25 then Expr.Tuple.elim e h λs _ _=>some s else none
theorem jo{s:Ab}(h:lz e=some s):∃c p,e=.Tuple s c p:=by have c:=Hn h;revert h;exact Expr.Tuple.elim e c λ_ c p h=>by cases h;exact⟨c,p,rfl⟩
noncomputable def Gg(e:Expr):Option (Ab):=if h:e.ctorIdx=24 then Expr.List.elim e h λs _=>some s else none
theorem xF{s:Ab}(h:Gg e=some s):∃p,e=.List s p:=by have c:=Hn h;revert h;exact Expr.List.elim e c λ_ p h=>by cases h;exact⟨p,rfl⟩
noncomputable def Qr(e:Expr):Option (Expr×Str×Pos):=if h:e.ctorIdx=20 then Expr.Attribute.elim e h λo m p=>some (o,m,p) else none
theorem Hf{o:Expr}{m:Str}{p:Pos}(h:Qr e=some (o,m,p)):e=.Attribute o m p:=by have c:=Hn h;revert h;exact Expr.Attribute.elim e c λ_ _ _ h=>by cases h;rfl
noncomputable def RX(e:Expr):Option (Expr×Expr):=if h:e.ctorIdx=21 then Expr.Subscript.elim e h λo i _=>some (o,i) else none
theorem LX{o i:Expr}(h:RX e=some (o,i)):∃p,e=.Subscript o i p:=by have c:=Hn h;revert h;exact Expr.Subscript.elim e c λ_ _ p h=>by cases h;exact⟨p,rfl⟩
noncomputable def Tf(e:Expr):Option (Option Expr×Option Expr×Option Expr):=if h:e.ctorIdx=26 then Expr.Slice.elim e h λi j k _=>some (i,j,k) else none
theorem LU{i j k:Option Expr}(h:Tf e=some (i,j,k)):∃p,e=.Slice i j k p:=by have c:=Hn h;revert h;exact Expr.Slice.elim e c λ_ _ _ p h=>by cases h;exact⟨p,rfl⟩
noncomputable def SN(e:Expr):Option (Expr×Ab×Pos):=if h:e.ctorIdx=16 then Expr.Call.elim e h λf a k p=>if k.isEmpty=true then some (f,a,p) else none else none
theorem Nq{f:Expr}{a:Ab}{p:Pos}(h:SN e=some (f,a,p)):e=.Call f a [] p:=by
 have c:=Hn h;revert h;exact Expr.Call.elim e c λ_ _ k _ h=>by
  cases k with
  |nil=>cases h;rfl
  |cons _ _=>cases h
end
def sZ(e:Expr):Option (Str×Ab):=(SN e).bind λz=>(FP z.1).map λr=>(r,z.2.1)
theorem j'{e:Expr}{r:Str}{a:Ab}(h:sZ e=some (r,a)):∃p c,e=.Call (.Name r p) a [] c:=by obtain⟨⟨f,s,c⟩,x,n⟩:=ar h;obtain⟨m,k,b⟩:=aE n;obtain⟨p,rfl⟩:=oY k;cases b;exact⟨p,c,Nq x⟩
def TB(e:Expr):Option ((Expr×Str×Pos)×Ab×Pos):=(SN e).bind λz=>(Qr z.1).map λr=>(r,z.2)
def KC(j:Cn)(f:Str)(a:Expr):Option Expr:=(sZ a).bind λz=>(pX z.2).bind λb=>if (decide (f=("list":Str)) && tG j z.1 "range")=true then some b else none
def Ep(j:Cn)(f:Str)(a:Expr):Option (Expr×Expr):=(sZ a).bind λz=>(pW z.2).bind λb=>if (decide (f=("dict":Str)) && tG j z.1 "zip")=true then some b else none
def Iy(j:Cn)(T:Expr->Tr)(t e:Expr):Option ko:=(sZ e).elim ((T e).v.map fK) λz=>if tG j z.1 "range"=true then (pX z.2).bind λa=>(T a).v.map iI
  else if tG j z.1 "enumerate"=true then (pX z.2).bind λa=>if (lz t).isSome=true then (T a).v.map q_ else none
  else if tG j z.1 "zip"=true then (pW z.2).bind λa=>if (lz t).isSome=true then (T a.1).v.bind λx=>(T a.2).v.map λy=>JE x y else none
  else (T e).v.map fK
def Lw(N:LS)(s:List (Str×NameKind))(k:List NameKind)(e:Expr):Option ki:=(FP e).bind λx=>if d9 s x k=true then (mX N x).map ai else none
def EL(N:LS)(s:List (Str×NameKind))(k:List NameKind):Ab->Option (List ki)
 | []=>some []
 |e::r=>(Lw N s k e).bind λg=>(EL N s k r).map λh=>g::h
def Ix(N:LS)(s:List (Str×NameKind))(k:List NameKind)(e:Expr):Option ki:=(lz e).elim (Lw N s k e) λh=>(EL N s k h).map aY
def iC(e:Expr):LS:=((lz e).getD [e]).filterMap FP
noncomputable def pj(N:LS):LS->LS
 | []=>[]
 |t::r=>if (N.contains t ||(pj N r).contains t)=true then pj N r else t::pj N r
def Q3(N:LS)(Q:LS):List Nat:=Q.filterMap λt=>mX N t
def O5(j:Cn)(e:Expr):Bool:=(FP e).any (j.own.contains ·)
def kI(j:Cn)(T:Cn->Expr->Tr)(l t iter:Expr)(i:Ab)(E:Scope):Option EV:=
 if (zG j E (j.N++pj j.N (iC t)) (Q3 j.N (iC t)) (pj j.N (iC t)).length && decide (j.N++pj j.N (iC t)).Nodup)=true then
  (Ix (j.N++pj j.N (iC t)) (uf E.names j.ks) [.local] t).bind λg=>
   (match i with | []=>some dF | [c]=>(T ⟨j.N++pj j.N (iC t),j.own.filter (λx=>!(iC t).contains x),[],j.refs,uf E.names j.ks,j.F,j.G,j.A,j.M,j.I⟩ c).b|_=>none).bind λc=>
   (T ⟨j.N++pj j.N (iC t),j.own.filter (λx=>!(iC t).contains x),[],j.refs,uf E.names j.ks,j.F,j.G,j.A,j.M,j.I⟩ l).v.bind λe=>
   if O5 j iter=true then (T j iter).e.map λf=>rY f (Q3 j.N (iC t)) (pj j.N (iC t)).length g c e
   else (Iy j (T j) t iter).map λh=>aX h (Q3 j.N (iC t)) (pj j.N (iC t)).length g c e
 else none
def isOwn(j:Cn):Nat->Expr->Bool
 |0,_=>false
 |n+1,e=>(FP e).any (j.own.contains ·) ||(RX e).any (λz=>isOwn j n z.1) ||(Qr e).any (λz=>isOwn j n z.1) ||(TB e).any λz=>decide (z.1.2.1=("setdefault":Str)) && isOwn j n z.1.1
def Kq(a:Ab):Option Expr:=(pW a).bind λz=>(Gg z.2).bind λe=>if e.isEmpty=true then some z.1 else none
def xE(e:Expr):Bool:=[20,21,23].contains e.ctorIdx ||(TB e).isSome
def JG(e:Expr):Bool:=(FP e).any (Tl.contains ·)
def Pr(e:Expr):Option (Expr×Expr):=if h:e.ctorIdx=0 then Expr.BoolOp.elim e h λo s _=>(pW s).bind λz=>if (decide (o.ctorIdx=BoolOp.Or.ctorIdx) && (sZ z.1).isSome)=true then some z else none else none
variable{e:Expr}
theorem Jq(h:Pr e=some (a,b)):∃p,e=.BoolOp .Or [a,b] p:=by
 have c:=Hn h;revert h;exact Expr.BoolOp.elim e c λo k p h=>by
  obtain⟨z,n,x⟩:=ar h;split at x
  .rename_i s;cases x;rw[av]at s;cases o with
   |Or=>exact⟨p,by rw[jK n]⟩
   |And=>cases aM s.1
  .cases x
noncomputable def jv(e:Expr):Bool:=e.ctorIdx == 8
def NJ(j:Cn)(o:Option EE)(os:Expr)(m:Str)(s:List (Option EE))(p c:Pos):Tr:=
 if (xE os && (p.endLine == c.line) && decide (s.length < 29))=true then .ofE (o.bind λx=>(C0 s).map λa=>dU j.M x m a) else {}
def NL(j:Cn)(o:Expr)(m:Str)(n:Str)(a c:Pos):Bool:=decide (m=n) && isOwn j 4 o && xE o && (a.endLine == c.line)
def Uh(a:Ab):Option (Expr×Str):=(pW a).bind λz=>(FP z.2).map λt=>(z.1,t)
def NY(s:List Comprehension):Option (Expr×Expr×Ab):=(pX s).bind λg=>if g.is_async=0 then some (g.target,g.iter,g.ifs) else none
def Tc(j:Cn)(T:Expr->Tr)(f:Str)(s:Ab):Tr:=if (d9 j.ks f [.globalImplicit] && kL f && !s.isEmpty)=true then
  (j.I f).elim ((j.F f).elim
   ((pX s).elim
    ((Uh s).elim {} λz=>if (decide (f=("isinstance":Str)) && d9 j.ks z.2 [.globalImplicit])=true then (Gd z.2).elim {} (λt=>.ofV ((T z.1).e.map λx=>jJ t x)) else {})
    λa=>if f=("len":Str) then .ofV ((T a).e.map dq) else if f=("sorted":Str) then .ofV ((T a).e.map wW) else
     (KC j f a).elim ((Ep j f a).elim (.ofV ((G8 f).bind λg=>(tz [(T a).v]).map λx=>b0 g x)) λz=>.ofE ((T z.1).v.bind λx=>(T z.2).v.map λy=>zr x y)) λb=>.ofV ((T b).v.map Oq))
   λg=>if j.refs.contains f=true then .ofV ((C0 (s.map λx=>(T x).e)).map λa=>cv g a) else .ofV ((tz (s.map λx=>(T x).v)).map λa=>b0 (bU g) a))
  λg=>.ofE ((C0 (s.map λx=>(T x).e)).map λa=>oj (if Hm.contains f=true then gD g else g) f a)
 else {}
def Td(j:Cn)(T:Expr->Tr)(o:Expr)(m:Str)(p:Pos)(s:Ab)(c:Pos):Tr:=(pX s).elim
  (if (decide (m=("get":Str)) && xE o && (p.endLine == c.line))=true then (pW s).elim {} (fun z=>.ofV ((T o).v.bind fun x=>(T z.1).v.bind fun y=>(T z.2).v.map fun z=>ED x y z)) else
   (Kq s).elim (NJ j (T o).e o m (s.map λx=>(T x).e) p c) λa=>if NL j o m "setdefault" p c=true then .ofE ((T o).e.bind λx=>(T a).v.map λy=>oh x y (df a8)) else NJ j (T o).e o m (s.map λx=>(T x).e) p c)
  λa=>if NL j o m "append" p c=true then .ofE ((T o).e.bind λx=>(T a).e.map λy=>bB x y) else
   if NL j o m "extend" p c=true then .ofE ((T o).e.bind λx=>(T a).v.map λy=>gN x y) else
   if (decide (m=("index":Str)) && xE o && (p.endLine == c.line))=true then .ofV ((T o).v.bind λx=>(T a).v.map λy=>yK x y) else
   if (decide (m=("count":Str)) && xE o && (p.endLine == c.line))=true then .ofV ((T o).v.bind λx=>(T a).v.map λy=>Lq x y) else
   (lz a).elim (NJ j (T o).e o m (s.map λx=>(T x).e) p c) λe=>if NL j o m "get" p c=true then .ofE ((T o).e.bind λx=>(tz (e.map λz=>(T z).v)).map λy=>uu x y) else NJ j (T o).e o m (s.map λx=>(T x).e) p c
def T1(j:Cn)(T:Expr->Tr)(r:Cn->Expr->Tr)(e:Expr):Tr:=match e with
  | .Constant c _ _=>match c with
   | .int i=>.ofV (some (vC (.int i)))
   | .bool i=>.ofV (some (vC (.bl i)))
   | .none=>.ofV (some (vC .non))
   | .str i=>.ofV (some (vC (.str i)))
   |_=>{}
  | .Name x _=>if (d9 j.ks x [.local,.cell,.free] && kL x)=true then .ofE ((mX j.N x).map bo) else
    if (d9 j.ks x [.globalImplicit] && kL x)=true then .ofV ((j.G x).bind λv=>if Gh v=true then none else some (vC v)) else {}
  | .BinOp a p b _=>.ofV ((Tx p).bind λg=>(T a).v.bind λx=>(T b).v.map λy=>qQ g x y)
  | .UnaryOp p a _=>match p with
   | .USub=>.ofV ((T a).v.map (NG zx))
   | .Not=>(Pr a).elim (.ofB ((T a).b.map jc) ((T a).w.map jc)) λz=>{ Tr.ofV ((T z.1).v.bind λx=>(T z.2).v.map λy=>CV x y) with b:=none }
   |_=>{}
  | .BoolOp p s _=>.ofB (wU p (s.map λx=>(T x).b)) (wU p (s.map λx=>(T x).w))
  | .Compare a h bs _=>(pX h).elim (.ofC ((pW h).bind λo=>(pW bs).bind λz=>(NX o.1).bind λg=>(NX o.2).bind λd=>(T a).v.bind λx=>(T z.1).v.bind λy=>(T z.2).v.map λz=>oR g d x y z))
    λp=>(pX bs).elim {} λb=>(NX p).elim (.ofC ((GZ (JG b) p).bind λg=>(T a).e.bind λx=>(T b).e.map λy=>cP g x y)) λg=>.ofC ((T a).v.bind λx=>(T b).v.map λy=>qQ g x y)
  | .IfExp c a b _=>if (isOwn j 4 a ||isOwn j 4 b)=true then { Tr.ofE ((T c).b.bind λq=>(T a).e.bind λx=>(T b).e.map λy=>QV q x y) with b:=none } else { Tr.ofV ((T c).b.bind λq=>(T a).v.bind λx=>(T b).v.map λy=>Ot q x y) with b:=none }
  | .Tuple s _ _=>.ofV ((tz (s.map λx=>(T x).v)).map aP)
  | .List s _=>.ofV ((tz (s.map λx=>(T x).v)).map aW)
  | .Dict k u _=>if (k.isEmpty && u.isEmpty)=true then { e:=some my,v:=some (vE my) } else {}
  | .Subscript a i _=>(Tf i).elim (if JG a=true then .ofE ((T a).e.bind λx=>(T i).v.map λy=>JV x y) else if isOwn j 4 a=true then (lz i).elim (.ofE ((T a).e.bind λx=>(T i).v.map λy=>oK x y)) λs=>.ofE ((T a).e.bind λx=>(tz (s.map λz=>(T z).v)).map λy=>xU x y) else .ofV ((T a).v.bind λx=>(T i).v.map λy=>qQ sW x y))
    λz=>if z.2.2.isSome=true then {} else .ofV ((T a).v.bind λx=>(RG (z.1.map λy=>(T y).v)).bind λy=>(RG (z.2.1.map λz=>(T z).v)).map λz=>kH x y z)
  | .Call m n k t=>if k.isEmpty=true then (FP m).elim ((Qr m).elim {} λz=>Td j T z.1 z.2.1 z.2.2 n t) (λf=>Tc j T f n) else {}
  | .Attribute o f _=>if xE o=true then .ofE ((T o).e.map λx=>cc j.A x f) else {}
  | .ListComp l w E _=>(NY w).elim {} λz=>.ofV (kI j r l z.1 z.2.1 z.2.2 E)
  |_=>{}
def tr(j:Cn):Nat->Expr->Tr
 |0,_=>{}
 |n+1,e=>T1 j (λx=>tr j n x) (λh x=>tr h n x) e
def QD(j:Cn)(n _k:Nat)(e:Expr):Option EE:=(sZ e).elim (tr j n e).e λz=>if (d9 j.ks z.1 [.globalImplicit] && kL z.1 && !z.2.isEmpty && j.deep.contains z.1)=true then
   (j.F z.1).elim (tr j n e).e λg=>(C0 (z.2.map λx=>(tr j n x).e)).map λa=>eI g a
  else (tr j n e).e
structure XOk(Γ:Cn)(X:Cx):Prop where
 hN:X.N=Γ.N
 nd:X.N.Nodup
 ks:X.e.scope.names=Γ.ks
 kd:X.e.scope.kind=.function
 calm:X.c=true
 hu:X.A.units+64 < cLine
 fns:∀x g,Γ.F x=some g->∃k f fd ps,FnOk X.p X.w X.K X.g X.b tu k f fd ps (sh X.K g)/\Room k X.A/\X.g x=some (.ref f)/\iH X.K (.ref f)=true/\Binds X.K fd ps []
 blt:∀x ∈ J_,X.g x=none
 glb:∀x v,Γ.G x=some v->oI X.w X.K X.g x v
 attrs:Q9 X.K Γ.A
 meths:Q6 X Γ.M
 mks:∀c g,Γ.I c=some g->∃C k f fd ps,kl X.K c C/\X.g c=some (.ref C)/\Mk X.K C f/\FnOk X.p X.w X.K X.g X.b tu k f fd ps (sh X.K g)/\Room (k+1) X.A/\Binds X.K fd ps (if Hm.contains c=true then [.none] else [])
structure Good(X:Cx)(ex:Expr)(t:Tr):Prop where
 v:∀f,t.v=some f->PE X ex (tV X.K f)
 e:∀f,t.e=some f->PE X ex (tE X.K f)
 b:∀f,t.b=some f->PT X ex (tQ X.K f)
 w:∀f,t.w=some f->PE X ex (tV X.K (vB f))
section
variable{X:Cx}{e:Expr}
theorem Good.no:Good X e {}:=⟨λ_ h=>(by cases h),λ_ h=>(by cases h),λ_ h=>(by cases h),λ_ h=>(by cases h)⟩
theorem Good.el{B:Type}{o:Option B}{b:Tr}{f:B->Tr}(h:∀a,o=some a->Good X e (f a))(x:o=none->Good X e b):Good X e (o.elim b f):=by
 cases o with
 |none=>exact x rfl
 |some a=>exact h a rfl
theorem Good.ite{c:Prop}[Decidable c]{a b:Tr}(h:c->Good X e a)(x:Good X e b):Good X e (if c then a else b):=by
 by_cases q:c
 .rw [af q];exact h q
 .rw [ah q];exact x
def Hj(e:Expr):Prop:=∀env w,isTrue e env w=(do let v <- w;standAt e.pos;holding [v] (truthy v))
theorem Good.ofV{t:Option EV}(h:∀f,t=some f->PE X e (tV X.K f))(p:Hj e):Good X e (.ofV t) where
 v:=h
 e:=λf q=>by
  cases t with
  |none=>cases q
  |some g=>cases q;exact Lg (h _ rfl)
 b:=λf q=>by
  cases t with
  |none=>cases q
  |some g=>cases q;exact yT (Lg (h _ rfl)) (p _)
 w:=λf q=>by
  cases t with
  |none=>cases q
  |some g=>cases q;exact t6 (h _ rfl)
theorem Good.ofC{t:Option EV}(h:∀f,t=some f->PE X e (tV X.K f))(x:∀f,t=some f->PT X e (tQ X.K (bV f))):Good X e (.ofC t) where
 v:=h
 e:=λf q=>by
  cases t with
  |none=>cases q
  |some g=>cases q;exact Lg (h _ rfl)
 b:=λf q=>by
  cases t with
  |none=>cases q
  |some g=>cases q;exact x _ rfl
 w:=λf q=>by
  cases t with
  |none=>cases q
  |some g=>cases q;exact t6 (h _ rfl)
theorem Good.ofE{t:Option EE}(h:∀f,t=some f->PE X e (tE X.K f))(p:Hj e):Good X e (.ofE t) where
 v:=λf q=>by
  cases t with
  |none=>cases q
  |some g=>cases q;exact Od (h _ rfl)
 e:=h
 b:=λf q=>by
  cases t with
  |none=>cases q
  |some g=>cases q;exact yT (h _ rfl) (p _)
 w:=λf q=>by
  cases t with
  |none=>cases q
  |some g=>cases q;exact t6 (Od (h _ rfl))
theorem Good.ofB{b w:Option EB}(h:∀f,b=some f->PT X e (tQ X.K f))(hw:∀f,w=some f->PE X e (tV X.K (vB f))):Good X e (.ofB b w) where
 v:=λf q=>by
  cases w with
  |none=>cases q
  |some g=>cases q;exact hw _ rfl
 e:=λf q=>by
  cases w with
  |none=>cases q
  |some g=>cases q;exact Lg (hw _ rfl)
 b:=h
 w:=hw
end
theorem lj{B x:Type}{o:Option B}{b r:x}{f:B->x}(h:o.elim b f=r):(∃a,o=some a/\f a=r)\/(o=none/\b=r):=by
 cases o with
 |none=>exact .inr ⟨rfl,h⟩
 |some a=>exact .inl ⟨a,rfl,h⟩
def iT(e:Expr):Prop:=∀s env,starEach (e::s) env=(false,eval e env)::starEach s env
structure RdE(e:Expr):Prop where
 st:iT e
 ix:mf e
 mr:∀op,behindInMarks op e=false
 ms:∀op op' b,lastMarks [op,op'] [b,e]=false
 ps:s_ e
 sw:jv e=false->∀t l env,swapsWith e t l env=pure false
 fs:∀env x,foldedSetIterable e env x=pure x
variable{j:Cn}{n:Nat}
theorem rd_of(h:(tr j n e).v.isSome=true\/(tr j n e).e.isSome=true):RdE e:=by
 cases n with
 |zero=>rcases h with h|h<;>cases h
 |succ n=>cases e<;>first|(rcases h with h|h<;>cases h;done)|exact⟨λ_ _=>rfl,λ_ _=>rfl,λ_=>rfl,λ_ _ _=>rfl,λ_ _ _ _=>rfl,λc _ _ _=>(by first|rfl|cases c),λ_ _=>rfl⟩
theorem iB{j:Cn}{n:Nat}{e:Expr}{f:EV}(h:(tr j n e).v=some f):RdE e:=rd_of (.inl (by rw[h];rfl))
theorem sk{j:Cn}{n:Nat}{e:Expr}{f:EE}(h:(tr j n e).e=some f):RdE e:=rd_of (.inr (by rw[h];rfl))
variable{env:Env}{u:Pos}
theorem lg(h:∀e ∈ s,iT e):(backTo u (starEach s env)).any (·.1)=false:=by
 induction s with
 |nil=>rfl
 |cons e s i=>
  rw[h e aF s env];have:=i λx a=>h x (aH _ a)
  unfold backTo at this ⊢;rw[aG,dI,this];rfl
section
variable{j:Cn}{X:Cx}(h:XOk j X)
include h
theorem XOk.gl(q:d9 j.ks x [.globalImplicit]=true):Gl X x:=by
 unfold Gl Env.kindOf;rw[h.ks];unfold d9 at q;cases e:j.ks.lookup x with
 |none=>rw[e]at q;cases q
 |some k=>rw[e]at q;cases k<;>first|rfl|cases q
theorem XOk.vis(q:d9 j.ks x [.local,.cell,.free]=true):Nz X.e.scope x:=by
 unfold Nz;rw[h.ks];unfold d9 at q;cases e:j.ks.lookup x with
 |none=>rw[e]at q;cases q
 |some k=>rw[e]at q;cases k<;>first|exact .inl rfl|exact .inr (.inl rfl)|exact .inr (.inr rfl)|cases q
theorem XOk.loc(q:d9 j.ks x [.local,.cell]=true):L2.Loc X.e.scope x:=by
 unfold L2.Loc;rw[h.ks];unfold d9 at q;cases e:j.ks.lookup x with
 |none=>rw[e]at q;cases q
 |some k=>rw[e]at q;cases k<;>first|exact .inl rfl|exact .inr rfl|cases q
theorem XOk.local(q:d9 j.ks x [.local]=true):X.e.scope.names.lookup x=some .local:=by
 rw[h.ks];unfold d9 at q;cases e:j.ks.lookup x with
 |none=>rw[e]at q;cases q
 |some k=>rw[e]at q;cases k<;>first|rfl|cases q
omit h in
theorem gm{x:Str}(q:kL x=true):(x == ("__debug__":Str))=false/\(x == ("__classdict__":Str))=false:=by unfold kL at q;rw[av]at q;exact⟨by simpa using q.1,by simpa using q.2⟩
theorem XOk.get(q:mX j.N x=some i):X.N[i]? = some x:=by rw[h.hN];exact sE q
omit h in
theorem i9{j:Cn}{n:Nat}:∀{s:Ab}{k:ko},(∀e ∈ s,Good X e (tr j n e))->tz (s.map λx=>(tr j n x).v)=some k->PA X s (tB X.K k)/\∀e ∈ s,iT e
 | [],k,_,q=>by cases q;exact⟨Ny,λ_ z=>by cases z⟩
 |e::s,k,g,q=>by
  obtain⟨f,b,p⟩:=ar q;obtain⟨r,v,rfl⟩:=aE p;obtain⟨m,t⟩:=i9 (λx a=>g x (aH _ a)) v;have b:(tr j n e).v=some f:=b;have c:iT e:=(iB b).st;refine⟨K3 ((g e aF).v f b) m (c _ _),λx a=>?_⟩;rcases aQ.mp a with a|a
  .subst a;exact c
  .exact t x a
omit h in
theorem nO{j:Cn}{n:Nat}:∀{s:Ab}{k:tm},(∀e ∈ s,Good X e (tr j n e))->C0 (s.map λx=>(tr j n x).e)=some k->PA X s (BO X.K k)/\∀e ∈ s,iT e
 | [],k,_,q=>by cases q;exact⟨P',λ_ z=>by cases z⟩
 |e::s,k,g,q=>by
  obtain⟨f,b,p⟩:=ar q;obtain⟨r,v,rfl⟩:=aE p;obtain⟨m,t⟩:=nO (λx a=>g x (aH _ a)) v;have b:(tr j n e).e=some f:=b;have c:iT e:=(sk b).st;refine⟨Nc ((g e aF).e f b) m (c _ _),λx a=>?_⟩;rcases aQ.mp a with a|a
  .subst a;exact c
  .exact t x a
omit h in
theorem wS{o:BoolOp}{u:Pos}{j:Cn}{n:Nat}:∀{s:Ab}{f:EB},(∀e ∈ s,Good X e (tr j n e))->wU o (s.map λx=>(tr j n x).b)=some f->PW X (.BoolOp o s u) (tQ X.K f)
 | [],f,_,q=>by cases q
 | [a],f,g,q=>by
  cases o with
  |And=>exact Ob ((g a aF).b f q)
  |Or=>exact Rg ((g a aF).b f q)
 |a::b::s,f,g,q=>by
  obtain⟨x,k,m⟩:=ar q;obtain⟨r,t,rfl⟩:=aE m;have i:=wS (s:=b::s) (u:=u) (λx c=>g x (aH _ c)) t;cases o with
  |And=>exact Rj ((g a aF).b x k) i
  |Or=>exact TN ((g a aF).b x k) i
omit h in
theorem wT{o:BoolOp}{u:Pos}{j:Cn}{n:Nat}:∀{s:Ab}{f:EB},(∀e ∈ s,Good X e (tr j n e))->wU o (s.map λx=>(tr j n x).w)=some f->PE X (.BoolOp o s u) (tV X.K (vB f))
 | [],f,_,q=>by cases q
 | [a],f,g,q=>Om ((g a aF).w f q)
 |a::b::s,f,g,q=>by
  obtain⟨x,k,m⟩:=ar q;obtain⟨r,t,rfl⟩:=aE m;have i:=wT (s:=b::s) (u:=u) (λx c=>g x (aH _ c)) t;cases o with
  |And=>exact RC ((g a aF).w x k) i
  |Or=>exact TQ ((g a aF).w x k) i
omit h in
theorem EK{j:Cn}{n:Nat}{o:Option Expr}{f:EO}(g:∀e,Good X e (tr j n e))(q:RG (o.map λy=>(tr j n y).v)=some f):PO X o (tO X.K f):=by
 cases o with
 |none=>cases q;exact MG
 |some e=>obtain⟨x,a,rfl⟩:=aE (show((tr j n e).v).map fJ=some f from q);exact MF ((g e).v x a)
theorem Nt{o:Operator}{g:P->P->Option P}(q:Tx o=some g):qd X (binaryOp o) g:=by cases o<;>first|(cases q;exact Mx)|(cases q;exact Pa)|(cases q;exact Mw)|(cases q;exact Jn)|(cases q;exact Pe)|(cases q;exact Pb)|cases q
omit h in
theorem pc{o:CmpOp}{g:P->P->Option P}(q:NX o=some g):qd X (compareOp o) g:=by cases o<;>first|(cases q;exact R')|(cases q;exact Sd)|(cases q;exact Se)|(cases q;exact Sf)|cases q
theorem JY{o:CmpOp}{g:D->D->aA->Option P}(q:Qj o=some g):jY X (compareOp o) (rE X.K g):=by cases o<;>first|(cases q;exact Pm h.hu)|(cases q;exact Pc h.hu)|(cases q;exact Pk h.hu)|(cases q;exact FJ h.hu)|(cases q;exact Pf)|(cases q;exact FK)|cases q
theorem x5(q:GZ k p=some g):jY X (compareOp p) (rE X.K g):=by
 cases k
 .exact JY h q
 .cases p<;>first|(cases q;exact FI h.hu)|cases q
theorem J1{f:Str}{g:GF}{a:Expr}{s:Ab}{x:ko}{b u:Pos}(t:j.F f=some g)(hk:d9 j.ks f [.globalImplicit]=true)(v:kL f=true)(c:PA X (a::s) (tB X.K x))(n:∀e ∈ a::s,iT e) :
  PE X (.Call (.Name f b) (a::s) [] u) (tV X.K (b0 (bU g) x)):=by
 obtain⟨k,w,i,l,G,d,q,p,m⟩:=h.fns f g t;exact Ol (FnOk.pure G) d (h.gl hk) q p m c (gm v).1 (n a aF _ _) (lg λe r=>n e (aH _ r))
theorem ya{f:Str}{g:GF}{a:Expr}{s:Ab}{x:tm}{c u:Pos}(d:j.F f=some g)(hk:d9 j.ks f [.globalImplicit]=true)(q:kL f=true)(m:PA X (a::s) (BO X.K x))(n:∀e ∈ a::s,iT e) :
  PE X (.Call (.Name f c) (a::s) [] u) (tV X.K (cv g x))/\PE X (.Call (.Name f c) (a::s) [] u) (tE X.K (eI g x)):=by
 obtain⟨k,w,i,l,G,v,t,p,r⟩:=h.fns f g d;exact⟨Ij G v (h.gl hk) t p r m (gm q).1 (n a aF _ _) (lg fun e b=>n e (aH _ b)),
  Ln G v (h.gl hk) t p r m (gm q).1 (n a aF _ _) (lg λe b=>n e (aH _ b))⟩
theorem Nu{f:Str}{g:List P->Option P}{a:Expr}{n:Ab}{b:ko}{m u:Pos}(x:G8 f=some g)(hk:d9 j.ks f [.globalImplicit]=true)(k:PA X (a::n) (tB X.K b))(c:∀e ∈ a::n,iT e) :
  PE X (.Call (.Name f m) (a::n) [] u) (tV X.K (b0 g b)):=by
 have s:=c a aF n X.e;have p:=lg (env:=X.e) (u:=u) λe s=>c e (aH _ s);unfold G8 at x;split at x
 .rename_i e;subst e;cases x;exact K' (h.gl hk) (h.blt _ (by decide)) k s p
 split at x
 .rename_i e;subst e;cases x;exact K_ (h.gl hk) (h.blt _ (by decide)) k s p
 split at x
 .rename_i e;subst e;cases x;exact Ih (h.gl hk) (h.blt _ (by decide)) k s p
 split at x
 .rename_i e;subst e;cases x;exact Oc (h.gl hk) (h.blt _ (by decide)) k s p
 .cases x
theorem MX{t:Str}{T:String}{a:Expr}{f:EE}{b p u:Pos}(x:Gd t=some T)(hk:d9 j.ks ("isinstance":Str) [.globalImplicit]=true)(k:d9 j.ks t [.globalImplicit]=true)(s:PE X a (tE X.K f))(c:iT a) :
  PE X (.Call (.Name "isinstance" b) [a,.Name t p] [] u) (tV X.K (jJ T f)):=by
 have n:starEach [a,.Name t p] X.e=[(false,eval a X.e),(false,eval (.Name t p) X.e)]:=by rw[c];rfl
 have m:=h.blt ("isinstance":Str) (by decide);unfold Gd at x;split at x
 .rename_i e;subst e;cases x;exact Kj (.inl rfl) (h.gl hk) m (h.gl k) (h.blt _ (by decide)) qv s (by decide) (by decide) n
 split at x
 .rename_i e;subst e;cases x;exact Kj (.inr rfl) (h.gl hk) m (h.gl k) (h.blt _ (by decide)) HX s (by decide) (by decide) n
 .cases x
omit h in
theorem l_{f g:Str}(q:tG j f g=true):f=g/\d9 j.ks f [.globalImplicit]=true:=by unfold tG at q;rw[av]at q;exact⟨aM q.1,q.2⟩
theorem KG{n:Nat}{v e:Expr}{f:ko}(g:∀x,Good X x (tr j n x))(q:Iy j (λx=>tr j n x) v e=some f):PI X v e (tI X.K f):=by
 have plain:((tr j n e).v.map fK=some f)->PI X v e (tI X.K f):=λq=>by obtain⟨x,s,rfl⟩:=aE q;exact iS ((g e).v x s)
 have H:=lj q;clear q;rcases H with ⟨⟨S,d⟩,z,q⟩|⟨_,q⟩
 .obtain⟨F,u,rfl⟩:=j' z;dsimp only at q;split at q
  .rename_i r;obtain⟨rfl,r⟩:=l_ r;obtain⟨a,m,k⟩:=ar q;clear q;cases il m;obtain⟨x,s,rfl⟩:=aE k;exact Um (h.gl r) (h.blt ("range":Str) (by decide)) ((g a).v x s) ((iB s).st _ _)
  .split at q
   .rename_i r;obtain⟨rfl,r⟩:=l_ r;obtain⟨a,m,k⟩:=ar q;clear q;cases il m;split at k
    .rename_i t;obtain⟨x,s,rfl⟩:=aE k;obtain⟨l,t⟩:=nr.mp t;obtain⟨c,p,rfl⟩:=jo t;exact iE (h.gl r) (h.blt ("enumerate":Str) (by decide)) ((g a).v x s) ((iB s).st _ _)
    .cases k
   .split at q
    .rename_i r;obtain⟨rfl,r⟩:=l_ r;obtain⟨⟨a,b⟩,m,k⟩:=ar q;clear q;cases jK m;split at k
     .rename_i t;obtain⟨x,s,o⟩:=ar k;obtain⟨y,w,rfl⟩:=aE o;obtain⟨l,t⟩:=nr.mp t;obtain⟨c,p,rfl⟩:=jo t;have i:starEach [b] X.e=[(false,eval b X.e)]:=(iB w).st _ _;exact iZ (h.gl r) (h.blt ("zip":Str) (by decide)) ((g a).v x s) ((g b).v y w) (by rw[(iB s).st,i]) i
     .cases k
    .exact plain q
 .exact plain q
omit h in
theorem CS{f:Str}{a b c:Expr}(q:Ep j f a=some (b,c)):f="dict"/\∃r p x,a=.Call (.Name r p) [b,c] [] x/\tG j r "zip"=true:=by
 obtain⟨⟨r,m⟩,z,n⟩:=ar q;obtain⟨⟨t,v⟩,k,s⟩:=ar n;clear q n;obtain⟨p,x,rfl⟩:=j' z;cases jK k;split at s
 .rename_i e;cases s;simp only[av]at e;exact⟨aM e.1,r,p,x,rfl,e.2⟩
 .cases s
omit h in
theorem FX{f:Str}{a b:Expr}(q:KC j f a=some b):f="list"/\∃r p c,a=.Call (.Name r p) [b] [] c/\tG j r "range"=true:=by
 obtain⟨⟨r,m⟩,z,s⟩:=ar q;obtain⟨t,k,e⟩:=ar s;clear q s;obtain⟨p,n,rfl⟩:=j' z;cases il k;split at e
 .rename_i x;cases e;simp only[av]at x;exact⟨aM x.1,r,p,n,rfl,x.2⟩
 .cases e
omit h in
theorem xD{n:Nat}{t e:Expr}{f:ko}(q:Iy j (λx=>tr j n x) t e=some f)(env:Env)(x:Value):foldedSetIterable e env x=pure x:=by
 have s:=lj q;clear q;rcases s with ⟨⟨b,a⟩,z,q⟩|⟨_,q⟩
 .obtain⟨p,u,rfl⟩:=j' z;rfl
 .obtain⟨x,k,rfl⟩:=aE q;exact(iB k).fs _ _
theorem G9(q:zG j E o Q n=true):BlockOk X E o Q n:=by
 unfold zG at q;simp only[av]at q;obtain⟨⟨⟨⟨⟨⟨f,b⟩,c⟩,m⟩,r⟩,p⟩,v⟩:=q;have s:j.N=o.take j.N.length:=aM r;refine⟨aM f,λx a=>?_,λx a l=>?_,λx a l=>?_,?_,?_,λx a l i k=>?_⟩
 .simpa using bw.mp b x a
 .have:=bw.mp c x a;rw[l]at this;simpa using this
 .have:=bw.mp m x a;rw[l]at this;have t:E.names.lookup x.1=some .free/\(j.ks.lookup x.1=some .cell\/j.ks.lookup x.1=some .free):=by simpa using this
  refine⟨t.1,?_⟩;unfold Env.kindOf;rw[h.ks];exact t.2
 .rw [h.hN];exact s
 .rw [h.hN];exact aM p
 .have:=bw.mp v x a;rw[l]at this;have e:mX j.N x.1=some i:=pH (by rw[<- h.hN];exact h.nd) (by rw[<- h.hN];exact k);rw[e]at this;simpa using this
end
theorem KA{X:Cx}{N:LS}{s:List (Str×NameKind)}{k:List NameKind}{e:Expr}{g:ki}(f:X.N=N)(d:X.N.Nodup)(hk:∀x,d9 s x k=true->L2.Loc X.e.scope x/\(X.fn x=true\/X.e.scope.names.lookup x=some .local))(q:Lw N s k e=some g):∃x p,e=.Name x p/\PG X (.Name x p) (gT X.K g):=by
 obtain⟨x,b,h⟩:=ar q;clear q;obtain⟨p,rfl⟩:=oY b;split at h
 .rename_i c;obtain⟨i,m,rfl⟩:=aE h;obtain⟨a,n⟩:=hk _ c;exact⟨x,p,rfl,M5 i d (by rw[f];exact sE m) a n⟩
 .cases h
theorem tg_ok{X:Cx}{N:LS}{n:List (Str×NameKind)}{k:List NameKind}{e:Expr}{g:ki}(t:X.c=true)(b:X.N=N)(d:X.N.Nodup)(hk:∀x,d9 n x k=true->L2.Loc X.e.scope x/\(X.fn x=true\/X.e.scope.names.lookup x=some .local))(q:Ix N n k e=some g):PG X e (gT X.K g):=by
 have all:∀{s:Ab}{h:List ki},EL N n k s=some h->GsOk X s h:=by
  intro s;induction s with
  |nil=>intro h q;cases q;exact .nil
  |cons e s i=>intro h q;obtain⟨g,f,m⟩:=ar q;obtain⟨r,w,rfl⟩:=aE m;clear q m;obtain⟨x,p,rfl,a⟩:=KA b d hk f;exact .cons a (i w)
 have v:=lj q;clear q;rcases v with ⟨s,z,q⟩|⟨_,q⟩
 .obtain⟨c,p,rfl⟩:=jo z;obtain⟨h,f,rfl⟩:=aE q;exact M4 t (all f)
 .obtain⟨x,p,rfl,a⟩:=KA b d hk q;exact a
variable{E:Scope}
theorem Fc(hk:env.scope.kind=.function):(relabel E env).names=uf E.names env.scope.names:=by unfold relabel uf Env.kindOf;rw[hk];simp
variable{X:Cx}{o:LS}{Q:List Nat}
theorem XOk.inn(h:XOk j X)(B:BlockOk X E o Q n)(d:o.Nodup)(s:Shared)(H:Hp)(C:Addr)(f:List Addr) :
  XOk ⟨o,[],[],j.refs,uf E.names j.ks,j.F,j.G,j.A,j.M,j.I⟩ (Ev.inn X E o s H C f) where
 hN:=rfl
 nd:=d
 ks:=by show(relabel E X.e).names=_;rw[Fc h.kd,h.ks]
 kd:=B.kind
 calm:=h.calm
 hu:=h.hu
 fns:=h.fns
 blt:=h.blt
 glb:=h.glb
 attrs:=h.attrs
 meths:=h.meths
 mks:=h.mks
theorem m9(B:BlockOk X E o Q n)(I:Inv X m J H s):closureFor E X.e=pure (oo E X.e):=by
 have all:∀x ∈ E.names,x.2=.free->∃c,X.e.cells.lookup x.1=some c:=λx v h=>I.o.has x.1 (B.fr x v h).2;unfold closureFor oo;have f:∀(l:List (Str×NameKind))(a:List (Str×Addr)),(∀x ∈ l,x.2=.free->∃c,X.e.cells.lookup x.1=some c) ->
   (forIn l a fun (x:Str×NameKind) (r:List (Str×Addr))=>(do
    if x.2 == .free then do
     let c <- cellOf X.e x.1
     pure (ForInStep.yield ((x.1,c)::r))
    else pure (ForInStep.yield r):Sem (ForInStep (List (Str×Addr)))))=pure ((((l.filter λx=>x.2 == .free).map λx=>(x.1,(X.e.cells.lookup x.1).getD 0)).reverse)++a):=by
  intro l;induction l with
  |nil=>intro a _;rfl
  |cons x l i=>
   intro a h;rw[jI];by_cases hk:(x.2 == NameKind.free)=true
   .obtain⟨c,b⟩:=h x aF (by simpa using hk);rw[af hk,vq (p:=λ(x:Str×NameKind)=>x.2 == .free) hk,aG,List.reverse_cons,eD];have q:cellOf X.e x.1=pure c:=by unfold cellOf;rw[b]
    rw[q,b];show(forIn l ((x.1,c)::a) _:Sem _)=_;rw[i ((x.1,c)::a) λy e=>h y (aH _ e)];rfl
   .rw [ah hk,vp (p:=λ(x:Str×NameKind)=>x.2 == .free) hk];show(forIn l a _:Sem _)=_;rw[i a λy e=>h y (aH _ e)]
 have k:=f E.names [] all;rw [eA] at k;show (Bind.bind (forIn E.names [] fun (x:Str×NameKind) (r:List (Str×Addr))=>(do
    if x.2 == .free then do
     let c <- cellOf X.e x.1
     pure (ForInStep.yield ((x.1,c)::r))
    else pure (ForInStep.yield r):Sem (ForInStep (List (Str×Addr))))) λt=>pure t:Sem (List (Str×Addr)))=_
 rw[k];rfl
def rg(n:Nat):Prop:=∀(j:Cn)(X:Cx),XOk j X->∀e,Good X e (tr j n e)
theorem XOk.own(h:XOk j X)(o:LS):XOk ⟨j.N,o,j.deep,j.refs,j.ks,j.F,j.G,j.A,j.M,j.I⟩ X:=⟨h.hN,h.nd,h.ks,h.kd,h.calm,h.hu,h.fns,h.blt,h.glb,h.attrs,h.meths,h.mks⟩
theorem pR{j:Cn}{X:Cx}(h:XOk j X){n:Nat}(G:rg n){l t iter:Expr}{k:Ab}{E:Scope}{f:EV}(q:kI j (λw x=>tr w n x) l t iter k E=some f) :
  ∃o Q m g u y,BlockOk X E o Q m/\tq X t iter f Q m g u y/\(∀s H C p,PG (inn X E o s H C p) t (gT X.K g))/\(∀s H C p,PIfs (inn X E o s H C p) k u)/\(∀s H C p,PE (inn X E o s H C p) l (tV X.K y)) /\
   ∀x,foldedSetIterable iter X.e x=pure x:=by
 unfold kI at q;generalize N:j.N++pj j.N (iC t)=o at q;generalize P:Q3 j.N (iC t)=Q at q;generalize I:(pj j.N (iC t)).length=m at q;split at q
 .rename_i v;rw[av]at v;obtain⟨z,A,q⟩:=ar q;obtain⟨c,d,q⟩:=ar q;obtain⟨e,D,q⟩:=ar q;have B:BlockOk X E o Q m:=G9 h v.1;have F:o.Nodup:=aM v.2;have i:=λs H C p=>(h.inn B F s H C p).own (j.own.filter (λx=>!(iC t).contains x))
  have W:tq X t iter f Q m z c e/\∀x,foldedSetIterable iter X.e x=pure x:=by
   split at q
   .obtain⟨K,b,rfl⟩:=aE q;exact⟨Nl ((G j X h iter).e K b),(sk b).fs _⟩
   .obtain⟨L,b,rfl⟩:=aE q;exact⟨Qk (KG h (G j X h) b),λx=>xD b _ x⟩
  refine⟨o,Q,m,z,c,e,B,W.1,λs H C p=>?_,λs H C p=>?_,λs H C p=>?_,W.2⟩
  .exact tg_ok h.calm rfl F (λx S=>⟨.inl ((i s H C p).local S),.inr ((i s H C p).local S)⟩) A
  .cases k with
   |nil=>cases d;exact PIfs.none
   |cons a r=>
    cases r with
    |nil=>exact PIfs.one ((G _ _ (i s H C p) a).b c d)
    |cons _ _=>cases d
  .exact (G _ _ (i s H C p) l).v e D
 .cases q
theorem x6{j:Cn}{X:Cx}(h:XOk j X){n:Nat}(G:rg n){l t iter:Expr}{k:Ab}{E:Scope}{u:Pos}{f:EV}(q:kI j (λr x=>tr r n x) l t iter k E=some f) :
  PE X (.ListComp l [⟨t,iter,k,0⟩] E u) (tV X.K f)/\∀(i:Nat){x:Str}{c e:Pos},X.N.Nodup->swapsWith (.ListComp l [⟨t,iter,k,0⟩] E u) (some (.Name x c)) e.line X.e=pure true->X.N[i]? = some x->L2.Loc X.e.scope x->(X.fn x=true\/X.e.scope.names.lookup x=some .local) ->
   PS X (.Assign [.Name x c] (.ListComp l [⟨t,iter,k,0⟩] E u) e) (mO X.K (aq i (U f))):=by
 obtain⟨o,Q,m,P,F,K,B,W,v,d,w,g⟩:=pR h G q;exact⟨λp s J H a I q=>Oi B h.calm W v d w (m9 B I) g p s J H a I q,λi x c e N S b z y p s J H D I q=>N_ i N B h.calm W v d w (m9 B I) S g b z y p s J H D I q⟩
theorem DG(h:XOk j X)(G:rg n)(q:kI j (λe x=>tr e n x) l t iter i E=some f):PE X (.ListComp l [⟨t,iter,i,0⟩] E u) (tE X.K (iF f)):=by obtain⟨o,Q,m,g,v,d,B,W,k,b,c,r⟩:=pR h G q;exact λp s J H a I q=>Ll B h.calm W k b c (m9 B I) r p s J H a I q
theorem E6{s:Ab}{a:Expr}(h:Kq s=some a):∃p,s=[a,.List [] p]:=by
 obtain⟨⟨c,b⟩,e,f⟩:=ar h;obtain⟨m,n,x⟩:=ar f;obtain⟨p,rfl⟩:=xF n;split at x
 .rename_i k;cases x;cases nB.mp k;exact⟨p,jK e⟩
 .cases x
theorem v_{j:Cn}{o:Expr}{m n:Str}{a c:Pos}(h:NL j o m n a c=true):m=n/\xE o=true/\(a.endLine == c.line)=true:=by unfold NL at h;simp only[av]at h;exact⟨aM h.1.1.1,h.1.2,h.2⟩
theorem dA{o:Expr}{x:Str}{env:Env}(h:xE o=true):attributeBase o x env (eval o env)=eval o env:=by
 cases o with
 |Call f a k p=>
  cases f with
  |Name x q=>cases k<;>cases h
  |_=>rfl
 |_=>rfl
theorem JO(h:∀e ∈ a,iT e)(l:a.length < 29):methodCallForm (a.length+([]:List Keyword).length) (backTo u (starEach a env)) (backToKw u (keywordEach [] env))=true:=by
 unfold methodCallForm;have s:=lg (env:=env) (u:=u) h;have n:(backTo u (starEach a env)).all (λx=>!x.1)=true:=by
  rw[bw];intro x f;cases b:x.1 with
  |false=>rfl
  |true=>have:(backTo u (starEach a env)).any (·.1)=true:=lW.mpr ⟨x,f,b⟩;rw[s]at this;cases this
 rw[n];have k:(backToKw u (keywordEach [] env))=[]:=rfl;rw[k];simp;lia
theorem vL{j:Cn}{X:Cx}(h:XOk j X){n:Nat}(g:∀x,Good X x (tr j n x)){o:Expr}{m:Str}{r:Ab}{p k:Pos}:Good X (.Call (.Attribute o m p) r [] k) (NJ j (tr j n o).e o m (r.map λx=>(tr j n x).e) p k):=by
 unfold NJ;split
 .rename_i c;simp only[av]at c;have l:r.length < 29:=by have:=aM c.2;rwa [aZ]at this
  refine .ofE (λf q=>?_) λ_ _=>rfl;obtain⟨x,t,q⟩:=ar q;obtain⟨a,v,rfl⟩:=aE q;obtain⟨d,s⟩:=nO (λe _=>g e) v;have b:=MH (o:=o) (y:=m) (j:=p) (N:=k) (u:=r) (v:=X.e) (dA c.1.1) (JO s l) c.1.2;cases r with
  |nil=>cases v;exact Ld h.meths ((g o).e x t) b
  |cons e i=>exact Oe h.meths ((g o).e x t) d (s e aF _ _) (lg λy w=>s y (aH _ w)) b
 .exact .no
theorem Jv{j:Cn}{X:Cx}(h:XOk j X){f:Str}{g:GF}{a:Expr}{s:Ab}{x:tm}{d u:Pos}(i:j.I f=some g)(hk:d9 j.ks f [.globalImplicit]=true)(r:kL f=true)(c:PA X (a::s) (BO X.K x))(v:∀e ∈ a::s,iT e) :
  PE X (.Call (.Name f d) (a::s) [] u) (tE X.K (oj (if Hm.contains f=true then gD g else g) f x)):=by
 obtain⟨C,k,l,y,z,n,m,mk,G,t,b⟩:=h.mks f g i;have p:=v a aF s X.e;have q:=lg (env:=X.e) (u:=u) λe w=>v e (aH _ w);by_cases hd:Hm.contains f=true
 .rw [af hd]at b ⊢;exact Le mk G t (h.gl hk) m n b c (gm r).1 p q
 .rw [ah hd]at b ⊢;exact Of mk G t (h.gl hk) m n b c (gm r).1 p q
theorem zC{g:List Comprehension}{t iter:Expr}{i:Ab}(h:NY g=some (t,iter,i)):g=[⟨t,iter,i,0⟩]:=by
 obtain⟨⟨a,b,c,d⟩,x,p⟩:=ar h;split at p
 .rename_i hd;cases p;cases (show d=0 from hd);exact il x
 .cases p
section
variable{j:Cn}{X:Cx}(h:XOk j X){n:Nat}(g:∀x,Good X x (tr j n x))
include h g
theorem Ly{f:Str}{w:Ab}{C B:Pos}:Good X (.Call (.Name f C) w [] B) (Tc j (λx=>tr j n x) f w):=by
 refine .ite (λk=>?_) .no;simp only[av,qM]at k;cases w with
 |nil=>cases k.2
 |cons a w=>
 refine .el (λD u=>?_) λ_=>.el (λD u=>.ite (λ_=>?_) ?_) λ_=>.el (λF i=>?_) λ_=>.el (λ⟨F,t⟩ i=>?_) λ_=>.no
 .refine .ofE (λf q=>?_) λ_ _=>rfl;obtain⟨x,s,rfl⟩:=aE q;obtain⟨m,p⟩:=nO (λe _=>g e) s;exact Jv h u k.1.1 k.1.2 m p
 .refine .ofV (λf q=>?_) λ_ _=>rfl;obtain⟨x,s,rfl⟩:=aE q;obtain⟨m,p⟩:=nO (λe _=>g e) s;exact(ya h u k.1.1 k.1.2 m p).1
 .refine .ofV (λf q=>?_) λ_ _=>rfl;obtain⟨x,s,rfl⟩:=aE q;obtain⟨m,p⟩:=i9 (λe _=>g e) s;exact J1 h u k.1.1 k.1.2 m p
 .cases il i;refine .ite (λH=>?_) (.ite (λH=>?_) (.el (λb l=>?_) λ_=>.el (λ⟨b,c⟩ l=>?_) λ_=>?_))
  .subst H;refine .ofV (λf q=>?_) λ_ _=>rfl
   obtain⟨x,s,rfl⟩:=aE q;exact Ru (h.gl k.1.1) (h.blt _ (by decide)) ((g _).e x s) ((sk s).st _ _)
  .subst H;refine .ofV (λf q=>?_) λ_ _=>rfl
   obtain⟨x,s,rfl⟩:=aE q;exact Ex (h.gl k.1.1) (h.blt _ (by decide)) ((g _).e x s) ((sk s).st _ _)
  .obtain⟨rfl,r,I,A,rfl,v⟩:=FX l;refine .ofV (λf q=>?_) λ_ _=>rfl;obtain⟨x,s,rfl⟩:=aE q;obtain⟨rfl,v⟩:=l_ v;exact Ii h.calm (h.gl k.1.1) (h.blt _ (by decide)) (h.gl v) (h.blt _ (by decide)) ((g _).v x s) ((iB s).st _ _)
  .obtain⟨rfl,r,I,A,rfl,v⟩:=CS l;refine .ofE (λf q=>?_) λ_ _=>rfl;obtain⟨x,s,q⟩:=ar q;obtain⟨y,d,rfl⟩:=aE q;obtain⟨rfl,v⟩:=l_ v;have S:starEach [c] X.e=[(false,eval c X.e)]:=(iB d).st _ _;exact Lh h.calm (h.gl k.1.1) (h.blt _ (by decide)) (h.gl v) (h.blt _ (by decide)) ((g _).v x s) ((g _).v y d) (by rw[(iB s).st,S]) S As
  .refine .ofV (λf q=>?_) λ_ _=>rfl;obtain⟨o,s,q⟩:=ar q;obtain⟨x,d,rfl⟩:=aE q;obtain⟨m,p⟩:=i9 (s:=[a]) (λe _=>g e) d;exact Nu h s k.1.1 m p
 .refine .ite (λz=>?_) .no;rw[av]at z;cases aM z.1;obtain⟨⟨m,p⟩,K,E⟩:=ar i;obtain⟨L,P,G⟩:=aE E;cases G;obtain⟨M,rfl⟩:=oY P;cases jK K;refine .el (λT s=>?_) λ_=>.no;refine .ofV (λf q=>?_) λ_ _=>rfl;obtain⟨x,d,rfl⟩:=aE q;exact MX h s k.1.1 z.2 ((g _).e x d) (sk d).st
theorem Lz{o:Expr}{m:Str}{u:Ab}{w i:Pos}:Good X (.Call (.Attribute o m w) u [] i) (Td j (λx=>tr j n x) o m w u i):=by
 have l:X.A.units+1 < cLine:=by have:=h.hu;lia
 refine .el (λa d=>?_) λ_=>?_
 .cases il d;refine .ite (λs=>?_) (.ite (λs=>?_) (.ite (λs=>?_) (.ite (λs=>?_) (.el (λA K=>.ite (λs=>?_) (vL h g)) λ_=>vL h g))))
  .obtain⟨rfl,t,v⟩:=v_ s;refine .ofE (λf q=>?_) λ_ _=>rfl;obtain⟨x,r,q⟩:=ar q;obtain⟨y,k,rfl⟩:=aE q;exact Im ((g _).e x r) ((g _).e y k) ((sk k).st _ _) (dA t) v
  .obtain⟨rfl,t,v⟩:=v_ s;refine .ofE (λf q=>?_) λ_ _=>rfl;obtain⟨x,r,q⟩:=ar q;obtain⟨y,k,rfl⟩:=aE q;exact Il ((g _).e x r) ((g _).v y k) ((iB k).st _ _) (dA t) v
  .simp only[av]at s;cases aM s.1.1;refine .ofV (λf q=>?_) λ_ _=>rfl;obtain⟨x,r,q⟩:=ar q;obtain⟨y,k,rfl⟩:=aE q;exact Lf h.hu ((g _).v x r) ((g _).v y k) ((iB k).st _ _) (dA s.1.2) s.2
  .simp only[av]at s;cases aM s.1.1;refine .ofV (λf q=>?_) λ_ _=>rfl;obtain⟨x,r,q⟩:=ar q;obtain⟨y,k,rfl⟩:=aE q;exact Lk h.hu ((g _).v x r) ((g _).v y k) ((iB k).st _ _) (dA s.1.2) s.2
  .obtain⟨c,p,rfl⟩:=jo K;obtain⟨rfl,t,v⟩:=v_ s;refine .ofE (λf q=>?_) λ_ _=>rfl;obtain⟨x,r,q⟩:=ar q;obtain⟨y,k,rfl⟩:=aE q;exact Oh l ((g _).e x r) (i9 (λe _=>g e) k).1 ⟨dA t,rfl,v,rfl⟩
 .refine .ite (λs=>.el (λ⟨a,b⟩ d=>?_) λ_=>.no) (.el (λa d=>.ite (λs=>?_) (vL h g)) λ_=>vL h g)
  .simp only[av]at s;cases aM s.1.1;cases jK d;refine .ofV (λf q=>?_) λ_ _=>rfl;obtain⟨x,r,q⟩:=ar q;obtain⟨y,k,q⟩:=ar q;obtain⟨z,S,rfl⟩:=aE q;have P:starEach [b] X.e=[(false,eval b X.e)]:=(iB S).st _ _;have F:starEach [a,b] X.e=[(false,eval a X.e),(false,eval b X.e)]:=by rw[(iB k).st,P]
   exact La l ((g _).v x r) ((g _).v y k) ((g _).v z S) ⟨dA s.1.2,by rw[F];rfl,s.2,by rw[F];rfl⟩
  .obtain⟨p,rfl⟩:=E6 d;obtain⟨rfl,t,v⟩:=v_ s;refine .ofE (λf q=>?_) λ_ _=>rfl;obtain⟨x,r,q⟩:=ar q;obtain⟨y,k,rfl⟩:=aE q;have H:=(iB k).st;exact Ik ((g _).e x r) ((g _).v y k) (Kl Ny) ⟨dA t,by rw[H];rfl,v,by rw[H];rfl⟩
end
theorem rZ:∀n,rg n
 |0=>λj X h e=>Good.no
 |n+1=>by
  have G:=rZ n;intro j X h e;have g:=G j X h;cases e with
  |Constant c k p=>
   cases c with
   |int i=>exact .ofV (λf q=>by cases q;exact Ry) λ_ _=>rfl
   |bool i=>exact .ofV (λf q=>by cases q;exact TW) λ_ _=>rfl
   |none=>exact .ofV (λf q=>by cases q;exact Rr) λ_ _=>rfl
   |str i=>exact .ofV (λf q=>by cases q;exact Rm) λ_ _=>rfl
   |_=>exact .no
  |Name x p=>
   refine .ite (λd=>?_) (.ite (λd=>?_) .no)
   .rw [av]at d;refine .ofE (λf q=>?_) λ_ _=>rfl;obtain⟨i,s,rfl⟩:=aE q;exact Rk i (h.get s) (h.vis d.1) (gm d.2).1 (gm d.2).2
   .rw [av]at d;refine .ofV (λf q=>?_) λ_ _=>rfl;obtain⟨v,s,q⟩:=ar q;split at q
    .cases q
    .rename_i hd;cases q;exact Og (h.gl d.1) ((h.glb _ v s).1 (by simpa using hd)) (gm d.2).1
  |BinOp a l b p=>refine .ofV (λf q=>?_) λ_ _=>rfl;obtain⟨o,s,q⟩:=ar q;obtain⟨x,r,q⟩:=ar q;obtain⟨y,t,rfl⟩:=aE q;exact TR (Nt h s) ((g _).v x r) ((g _).v y t)
  |UnaryOp l a p=>
   cases l with
   |USub=>refine .ofV (λf q=>?_) λ_ _=>rfl;obtain⟨x,s,rfl⟩:=aE q;exact Rs ((g _).v x s)
   |Not=>
    refine .el (λ⟨b,c⟩ B=>?_) λ_=>.ofB (λf q=>?_) λf q=>?_
    .obtain⟨p3,rfl⟩:=Jq B;have w:∀f,((tr j n b).v.bind λx=>(tr j n c).v.map λy=>CV x y)=some f->PE X (.UnaryOp .Not (.BoolOp .Or [b,c] p3) p) (tV X.K f):=λf q=>by
      obtain⟨x,s,q⟩:=ar q;obtain⟨y,r,rfl⟩:=aE q;exact Rq ((g _).v x s) ((g _).v y r)
     refine⟨w,λf q=>?_,λf q=>(by cases q),λf q=>?_⟩
     .obtain⟨x,s,rfl⟩:=aE (show kt U _=some f from q);exact Lg (w _ s)
     .obtain⟨x,s,rfl⟩:=aE (show kt bV _=some f from q);exact t6 (w _ s)
    .obtain⟨x,s,rfl⟩:=aE q;exact Rh ((g _).b x s)
    .obtain⟨x,s,rfl⟩:=aE q;exact Rp ((g _).w x s)
   |_=>exact .no
  |BoolOp l F p=>exact .ofB (λf q=>(wS (λe _=>g e) q).pt) λf q=>wT (λe _=>g e) q
  |Compare a H bs p=>
   refine .el (λl P=>?_) λ_=>?_
   .cases il P;refine .el (λb Q=>?_) λ_=>.no
    cases il Q;refine .el (λK s=>?_) λ_=>?_
    .have u:∀f,((tr j n a).v.bind λx=>(tr j n b).v.map λy=>qQ K x y)=some f->PE X (.Compare a [l] [b] p) (tV X.K f)/\PT X (.Compare a [l] [b] p) (tQ X.K (bV f)):=λf q=>by
      obtain⟨x,r,q⟩:=ar q;obtain⟨y,t,rfl⟩:=aE q;exact⟨RB (pc s) ((g _).v x r) ((g _).v y t) ((iB t).mr _),Ri (pc s) ((g _).v x r) ((g _).v y t) ((iB t).mr _)⟩
     exact .ofC (λf q=>(u f q).1) λf q=>(u f q).2
    .have u:∀f,((GZ (JG b) l).bind λg=>(tr j n a).e.bind λx=>(tr j n b).e.map λy=>cP g x y)=some f->PE X (.Compare a [l] [b] p) (tV X.K f)/\PT X (.Compare a [l] [b] p) (tQ X.K (bV f)):=λf q=>by
      obtain⟨o,s,q⟩:=ar q;obtain⟨x,r,q⟩:=ar q;obtain⟨y,t,rfl⟩:=aE q;exact⟨Oj (x5 h s) ((g _).e x r) ((g _).e y t) ((sk t).mr _),Oa (x5 h s) ((g _).e x r) ((g _).e y t) ((sk t).mr _)⟩
     exact .ofC (λf q=>(u f q).1) λf q=>(u f q).2
   .have u:∀f,((pW H).bind λo=>(pW bs).bind λz=>(NX o.1).bind λg=>(NX o.2).bind λK=>(tr j n a).v.bind λx=>(tr j n z.1).v.bind λy=>(tr j n z.2).v.map λz=>oR g K x y z)=some f->PE X (.Compare a H bs p) (tV X.K f)/\PT X (.Compare a H bs p) (tQ X.K (bV f)):=λf q=>by
     obtain⟨⟨o1,o2⟩,I,C⟩:=ar q;obtain⟨⟨b,c⟩,L,Z⟩:=ar C;clear q C;cases jK I;cases jK L;obtain⟨o,s,q⟩:=ar Z;obtain⟨o',r,q⟩:=ar q;obtain⟨x,t,q⟩:=ar q;obtain⟨y,D,q⟩:=ar q;obtain⟨z,S,rfl⟩:=aE q;exact⟨Lm (pc s) (pc r) ((g _).v x t) ((g _).v y D) ((g _).v z S) ((iB S).ms _ _ _),K8 (pc s) (pc r) ((g _).v x t) ((g _).v y D) ((g _).v z S) ((iB S).ms _ _ _)⟩
    exact .ofC (λf q=>(u f q).1) λf q=>(u f q).2
  |IfExp c a b p=>
   refine .ite (λ_=>?_) ?_
   .have w:∀f,((tr j n c).b.bind λq=>(tr j n a).e.bind λx=>(tr j n b).e.map λy=>QV q x y)=some f->PE X (.IfExp c a b p) (tE X.K f):=λf q=>by
     obtain⟨o,s,q⟩:=ar q;obtain⟨x,r,q⟩:=ar q;obtain⟨y,t,rfl⟩:=aE q;exact Rz ((g _).b o s) ((g _).e x r) ((g _).e y t)
    refine⟨λf q=>?_,w,λf q=>(by cases q),λf q=>?_⟩
    .obtain⟨x,s,rfl⟩:=aE (show kt vE _=some f from q);exact Od (w _ s)
    .obtain⟨x,s,rfl⟩:=aE (show kt (λg=>bV (vE g)) _=some f from q);exact t6 (Od (w _ s))
   have w:∀f,((tr j n c).b.bind λq=>(tr j n a).v.bind λx=>(tr j n b).v.map λy=>Ot q x y)=some f->PE X (.IfExp c a b p) (tV X.K f):=λf q=>by obtain⟨o,s,q⟩:=ar q;obtain⟨x,r,q⟩:=ar q;obtain⟨y,t,rfl⟩:=aE q;exact TV ((g _).b o s) ((g _).v x r) ((g _).v y t)
   refine⟨w,λf q=>?_,λf q=>(by cases q),λf q=>?_⟩
   .obtain⟨x,s,rfl⟩:=aE (show kt U _=some f from q);exact Lg (w _ s)
   .obtain⟨x,s,rfl⟩:=aE (show kt bV _=some f from q);exact t6 (w _ s)
  |Tuple F c p=>refine .ofV (λf q=>?_) λ_ _=>rfl;obtain⟨x,s,rfl⟩:=aE q;exact Rl (i9 (λe _=>g e) s).1
  |List F p=>refine .ofV (λf q=>?_) λ_ _=>rfl;obtain⟨x,s,rfl⟩:=aE q;exact Rt (i9 (λe _=>g e) s).1
  |Dict W vs p=>refine .ite (λd=>?_) .no;rw[av]at d;cases nB.mp d.1;cases nB.mp d.2;exact⟨λf q=>(by cases q;exact Od Ey),λf q=>(by cases q;exact Ey),λf q=>(by cases q),λf q=>(by cases q)⟩
  |Subscript a i p=>
   have A:X.A.units+1 < cLine:=by have:=h.hu;lia
   refine .el (λ⟨lo,hi,st⟩ T=>?_) λ_=>.ite (λ_=>?_) (.ite (λ_=>.el (λF N=>?_) λ_=>?_) ?_)
   .obtain⟨p,rfl⟩:=LU T;cases st with
    |some _=>exact .no
    |none=>refine .ofV (λf q=>?_) λ_ _=>rfl;obtain⟨x,s,q⟩:=ar q;obtain⟨y,r,q⟩:=ar q;obtain⟨z,t,rfl⟩:=aE q;exact Rn ((g _).v x s) (EK g r) (EK g t)
   .refine .ofE (λf q=>?_) λ_ _=>rfl;obtain⟨x,s,q⟩:=ar q;obtain⟨y,r,rfl⟩:=aE q;exact Rw (by have:=h.hu;lia) ((g _).e x s) ((g _).v y r) (iB r).ix
   .obtain⟨c,p,rfl⟩:=jo N;refine .ofE (λf q=>?_) λ_ _=>rfl;obtain⟨x,s,q⟩:=ar q;obtain⟨y,r,rfl⟩:=aE q;exact Rv A ((g _).e x s) (i9 (λe _=>g e) r).1 λ_ _=>rfl
   .refine .ofE (λf q=>?_) λ_ _=>rfl;obtain⟨x,s,q⟩:=ar q;obtain⟨y,r,rfl⟩:=aE q;exact Rx A ((g _).e x s) ((g _).v y r) (iB r).ix
   .refine .ofV (λf q=>?_) λ_ _=>rfl;obtain⟨x,s,q⟩:=ar q;obtain⟨y,r,rfl⟩:=aE q;exact TU A ((g _).v x s) ((g _).v y r) (iB r).ix
  |Call fn as W cp=>
   refine .ite (λhk=>?_) .no;cases nB.mp hk;refine .el (λf R=>?_) λ_=>.el (λ⟨o,m,ap⟩ P=>?_) λ_=>.no
   .obtain⟨fp,rfl⟩:=oY R;exact Ly h g
   .cases Hf P;exact Lz h g
  |Attribute o f p=>refine .ite (λd=>?_) .no;refine .ofE (λf q=>?_) λ_ _=>rfl;obtain⟨x,s,rfl⟩:=aE q;exact RA h.attrs ((g _).e x s) (dA d)
  |ListComp M gs E p=>refine .el (λ⟨tg,iter,V⟩ B=>?_) λ_=>.no;cases zC B;exact .ofV (λf q=>(x6 h G q).1) λ_ _=>rfl
  |_=>exact .no
theorem r_{j:Cn}{X:Cx}(h:XOk j X){n k:Nat}{e:Expr}{f:EE}(q:QD j n k e=some f):PE X e (tE X.K f)/\(jv e=false->∀t l env,swapsWith e t l env=pure false):=by
 have g:=rZ n j X h;have p:∀{e},(tr j n e).e=some f->PE X e (tE X.K f)/\(jv e=false->∀t l env,swapsWith e t l env=pure false):=λq=>⟨(g _).e f q,(sk q).sw⟩;have v:=lj q;clear q;rcases v with ⟨⟨i,r⟩,z,q⟩|⟨_,q⟩
 .obtain⟨y,u,rfl⟩:=j' z;dsimp only at q;split at q
  .rename_i c;simp only[av,qM]at c;rcases lj q with ⟨o,m,q⟩|⟨_,q⟩
   .refine⟨?_,λ_ _ _ _=>rfl⟩;cases r with
    |nil=>cases c.1.2
    |cons a w=>obtain⟨x,d,rfl⟩:=aE q;obtain⟨s,b⟩:=nO (λe _=>g e) d;exact(ya h m c.1.1.1 c.1.1.2 s b).2
   .exact p q
  .exact p q
 .exact p q
def yO(T:Stmt->Option ES):List Stmt->Option ES
 | []=>some cN
 | [s]=>T s
 |s::r=>(T s).bind λf=>(yO T r).map λg=>ag f g
noncomputable def MY(e:Expr):Option Unit:=if h:e.ctorIdx=6 then Expr.Dict.elim e h λk v _=>if (k.isEmpty && v.isEmpty)=true then some () else none else none
theorem Cp{e:Expr}{u:Unit}(h:MY e=some u):∃p,e=.Dict [] [] p:=by
 have c:=Hn h;revert h;exact Expr.Dict.elim e c λk v p h=>by
  cases k with
  |cons _ _=>cases h
  |nil=>
   cases v with
   |cons _ _=>cases h
   |nil=>exact⟨p,rfl⟩
def Ta(j:Cn)(n:Nat)(t v:Expr):Option ES:=
 (FP t).elim ((RX t).elim ((Qr t).elim (if jv v=true then none else (lz t).bind fun _=>if (lz v).isSome=true then none else (Ix j.N j.ks [.local,.cell] t).bind fun g=>(tr j n v).v.map fun z=>vT g z)
   λz=>if ((MY v).isSome && j.deep.contains z.2.1)=true then (tr j n z.1).e.map λx=>iU j.A x z.2.1 zt else (tr j n z.1).e.bind λx=>(QD j n 5 v).map λy=>iU j.A x z.2.1 y)
  λz=>if jv v=true then none else (tr j n z.1).e.bind λx=>(tr j n v).v.bind λw=>if JG z.1=true then (tr j n z.2).v.map λy=>w5 x y w else (lz z.2).elim ((tr j n z.2).v.map λy=>jq x y w) λe=>(tz (e.map λz=>(tr j n z).v)).map λy=>E8 x y w)
 λx=>if d9 j.ks x [.local,.cell]=true then (mX j.N x).bind λi=>if (Tl.contains x && (MY v).isSome)=true then some (aq i zu) else if (j.deep.contains x && !jv v)=true then (QD j n 5 v).map (aq i) else (if j.own.contains x=true then Gg v else none).elim ((tr j n v).e.map (aq i)) λe=>(tz (e.map λy=>(tr j n y).v)).map λa=>aq i (df a)
  else none
noncomputable def Pw(e:Expr):Option (Expr×Expr):=if h:e.ctorIdx=2 then Expr.BinOp.elim e h λa o b _=>if o.ctorIdx=Operator.Mult.ctorIdx then some (a,b) else none else none
theorem Js(h:Pw e=some (a,b)):∃p,e=.BinOp a .Mult b p:=by
 have c:=Hn h;revert h;exact Expr.BinOp.elim e c λx o s p h=>by
  cases o with
  |Mult=>cases h;exact⟨p,rfl⟩
  |_=>cases h
def SM(j:Cn)(e:Expr):Option Expr:=(sZ e).bind λz=>(pX z.2).bind λa=>if tG j z.1 "list"=true then some a else none
def RF(j:Cn)(n:Nat)(e:Expr):Option ES:=if jv e=true then (tr j n e).v.map λf=>au (iF f) else
 (Pw e).elim ((SM j e).elim ((QD j n 5 e).map au) λa=>(tr j n a).v.map λf=>au (xV f)) λz=>(tr j n z.1).v.bind λx=>(tr j n z.2).v.map λy=>au (JU x y)
def NI(j:Cn):Nat->Stmt->Option ES
 |0,_=>none
 |n+1,st=>match st with
  | .Assign Q v _=>(pX Q).bind λt=>Ta j n t v
  | .Return r _=>r.bind λe=>if j.own.contains ("return":Str)=true then RF j n e else (tr j n e).e.map au
  | .AugAssign t p v _=>(FP t).bind λx=>if (d9 j.ks x [.local,.cell] && decide (p.ctorIdx=Operator.Add.ctorIdx))=true then (mX j.N x).bind λi=>(tr j n v).v.map (yX i) else none
  | .Break _=>some Th
  | .Expr e _=>if jv e=true then none else (tr j n e).e.map cf
  | .If c a b _=>(tr j n c).b.bind λq=>(yO (NI j n) a).bind λx=>(yO (NI j n) b).map λy=>b8 q x y
  | .For h iter o l _=>if l.isEmpty=false then none else (Ix j.N j.ks [.local,.cell] h).bind λg=>(Iy j (λy=>tr j n y) h iter).bind λs=>(yO (NI j n) o).map λb=>bE s g b
  |_=>none
theorem FO{e:Ab}{c:Nat}{p:Pos}{v:Expr}{env:Env}(h:¬(lz v).isSome=true):swappedStores [.Tuple e c p] v env=pure none:=by cases v<;>first|rfl|exact absurd rfl h
theorem Iw{j:Cn}{n:Nat}{l:Expr}{g:List Comprehension}{E:Scope}{u:Pos}{f:EE}(h:(tr j n (.ListComp l g E u)).e=some f) :
  ∃k t iter i s,n=k+1/\g=[⟨t,iter,i,0⟩]/\kI j (λa x=>tr a k x) l t iter i E=some s/\f=U s:=by
 cases n with
 |zero=>cases h
 |succ n=>
  replace h:((NY g).elim {} λz=>Tr.ofV (kI j (λa x=>tr a n x) l z.1 z.2.1 z.2.2 E)).e=some f:=h;cases e:NY g with
  |none=>rw[e]at h;cases h
  |some z=>rw[e]at h;obtain⟨x,q,rfl⟩:=aE (show kt U _=some f from h);exact⟨n,_,_,_,x,rfl,zC e,q,rfl⟩
theorem nN{X:Cx}{T:Stmt->Option ES}(h:∀st f,T st=some f->PS X st (mO X.K f)):∀{a:List Stmt}{f:ES},yO T a=some f->qc X a (mO X.K f)
 | [],f,q=>by cases q;exact Rb
 | [s],f,q=>Ra (h s f q)
 |s::t::r,f,q=>by obtain⟨x,e,q⟩:=ar q;obtain⟨y,n,rfl⟩:=aE q;exact N9 (h s x e) (nN h n)
theorem EI(h:(tr j n (.ListComp l s E u)).v=some f) :
  ∃k t iter i,n=k+1/\s=[⟨t,iter,i,0⟩]/\kI j (λa x=>tr a k x) l t iter i E=some f:=by
 cases n with
 |zero=>cases h
 |succ n=>
  replace h:((NY s).elim {} λz=>Tr.ofV (kI j (λa x=>tr a n x) l z.1 z.2.1 z.2.2 E)).v=some f:=h;cases e:NY s with
  |none=>rw[e]at h;cases h
  |some z=>rw[e]at h;exact⟨n,_,_,_,rfl,zC e,h⟩
theorem Lv(h:XOk j X)(q:RF j n e=some f):PS X (.Return (some e) p) (mO X.K f):=by
 have g:=rZ n j X h;unfold RF at q;split at q
 .rename_i l;have c:e.ctorIdx=8:=eq_of_beq l;obtain⟨P,s,rfl⟩:=aE q;clear q l;revert s;refine Expr.ListComp.elim e c λa B c d s=>?_
  obtain⟨k,D,iter,H,rfl,rfl,u⟩:=EI s;exact Et (DG h (rZ k) u)
 .have w:=lj q;clear q;rcases w with ⟨⟨a,b⟩,m,q⟩|⟨_,q⟩
  .obtain⟨C,rfl⟩:=Js m;obtain⟨x,s,q⟩:=ar q;obtain⟨y,u,rfl⟩:=aE q;exact Et (Ro ((g _).v x s) ((g _).v y u))
  .have w:=lj q;clear q;rcases w with ⟨a,m,q⟩|⟨_,q⟩
   .obtain⟨⟨r,F⟩,z,i⟩:=ar m;obtain⟨S,o,v⟩:=ar i;clear m i;obtain⟨A,K,rfl⟩:=j' z;cases il o;split at v
    .rename_i t;cases v;obtain⟨rfl,t⟩:=l_ t;obtain⟨x,s,rfl⟩:=aE q;exact Et (Lb (h.gl t) (h.blt ("list":Str) (by decide)) ((g _).v x s) ((iB s).st _ _))
    .cases v
   .obtain⟨x,s,rfl⟩:=aE q;exact Et (r_ h s).1
theorem Lx{j:Cn}{X:Cx}(h:XOk j X)(r:∀x,X.fn x=true){n:Nat}{t l:Expr}{L:Pos}{f:ES}(q:Ta j n t l=some f):PS X (.Assign [t] l L) (mO X.K f):=by
 have g:=rZ n j X h;have I:X.A.units+1 < cLine:=by have:=h.hu;lia
 rcases lj q with ⟨x,Q,K⟩|⟨_,K⟩
 .clear q;obtain⟨T,rfl⟩:=oY Q;split at K
  .rename_i hk;obtain⟨i,qi,q⟩:=ar K;split at q
   .rename_i hd;rw[av]at hd;obtain⟨s,I⟩:=nr.mp hd.2;obtain⟨p,rfl⟩:=Cp I;cases q;exact Es i h.nd Lj (h.get qi) (h.loc hk) rfl (.inl (r x))
   split at q
   .rename_i hd;rw[av]at hd;obtain⟨Z,m,rfl⟩:=aE q;exact Es i h.nd (r_ h m).1 (h.get qi) (h.loc hk) ((r_ h m).2 (by simpa using hd.2) _ _ _) (.inl (r x))
   .rcases lj q with ⟨M,F,q⟩|⟨_,q⟩
    .split at F
     .obtain⟨a,m,rfl⟩:=aE q;obtain⟨p,rfl⟩:=xF F;exact Es i h.nd (Kl (i9 (λe _=>g e) m).1) (h.get qi) (h.loc hk) rfl (.inl (r x))
     .cases F
    .obtain⟨Z,m,rfl⟩:=aE q;cases C:jv l with
     |false=>exact Es i h.nd ((g l).e Z m) (h.get qi) (h.loc hk) ((sk m).sw C _ _ _) (.inl (r x))
     |true=>
      have c:l.ctorIdx=8:=eq_of_beq C;clear q C K;revert m;refine Expr.ListComp.elim l c fun a gs c d m=>?_;obtain⟨k,V,iter,E,f',rfl,rfl,S,rfl⟩:=Iw m;have W:=x6 (u:=d) h (rZ k) S;have B:swapsWith (.ListComp a [⟨V,iter,E,0⟩] c d) (some (.Name x T)) L.line X.e=pure (X.e.blockKind == .function && X.e.kindOf x == some .local && T.line == (Expr.ListComp a [⟨V,iter,E,0⟩] c d).pos.line
       && !(c.names.any λ(n,k)=>n == x && (k == .local ||k == .cell))):=rfl
      revert B;generalize (X.e.blockKind == .function && X.e.kindOf x == some .local && T.line == (Expr.ListComp a [⟨V,iter,E,0⟩] c d).pos.line && !(c.names.any λ(n,k)=>n == x && (k == .local ||k == .cell)))=b;intro B;cases b with
      |true=>exact W.2 i h.nd B (h.get qi) (h.loc hk) (.inl (r x))
      |false=>exact Es i h.nd (Lg W.1) (h.get qi) (h.loc hk) B (.inl (r x))
  .cases K
 rcases lj K with ⟨⟨o,i⟩,R,P⟩|⟨_,P⟩
 .clear q K;obtain⟨p,rfl⟩:=LX R;split at P
  .cases P
  rename_i D;obtain⟨x,m,H⟩:=ar P;obtain⟨w,G,A⟩:=ar H;have B:=(iB G).sw (by simpa using D);clear P H;split at A
  .obtain⟨y,S,rfl⟩:=aE A;exact N4 (by have:=h.hu;lia) ((g o).e x m) ((g i).v y S) ((g l).v w G) (B _ _ _)
  have q0:=lj A;clear A;rcases q0 with ⟨M,et,q⟩|⟨_,q⟩
  .obtain⟨c,p,rfl⟩:=jo et;obtain⟨y,S,rfl⟩:=aE q;exact N3 I ((g o).e x m) (i9 (λe _=>g e) S).1 ((g l).v w G) (B _ _ _)
  .obtain⟨y,S,rfl⟩:=aE q;exact N6 I ((g o).e x m) ((g i).v y S) ((g l).v w G) (B _ _ _) rfl (iB S).ps
 rcases lj P with ⟨⟨o,f,ap⟩,R,H⟩|⟨_,H⟩
 .clear q K P;cases Hf R;split at H
  .rename_i hd;rw[av]at hd;obtain⟨s,I⟩:=nr.mp hd.1;obtain⟨p,rfl⟩:=Cp I;obtain⟨x,m,rfl⟩:=aE H;exact N7 h.attrs ((g o).e x m) Li rfl
  obtain⟨x,m,q⟩:=ar H;obtain⟨z,S,rfl⟩:=aE q;refine N7 h.attrs ((g o).e x m) (r_ h S).1 ?_;cases C:jv l with
  |false=>exact(r_ h S).2 C _ _ _
  |true=>have c:l.ctorIdx=8:=eq_of_beq C;clear q S H C;exact Expr.ListComp.elim (motive_1:=λv=>swapsWith v (some (.Attribute o f ap)) L.line X.e=pure false) l c λ_ _ _ _=>rfl
 .clear q K P;split at H
  .cases H
  rename_i D;obtain⟨M,F,A⟩:=ar H;clear H;obtain⟨c,p,rfl⟩:=jo F;split at A
  .cases A
  .rename_i N;obtain⟨gg,m,q⟩:=ar A;obtain⟨z,G,rfl⟩:=aE q;exact Q_ ((g l).v z G) (tg_ok h.calm h.hN h.nd (λx Q=>⟨h.loc Q,.inl (r x)⟩) m) (show swapsWith l (some (.Tuple M c p)) L.line X.e=pure false from(iB G).sw (by simpa using D) _ _ _) (FO N) rfl
theorem EJ{j:Cn}{X:Cx}(h:XOk j X)(k:∀x,X.fn x=true)(S:PassesOwn (model X.p X.w) X.A X.e X.xe):∀n (st:Stmt) (f:ES),NI j n st=some f->PS X st (mO X.K f)
 |0,st,f,q=>by cases q
 |n+1,st,f,q=>by
  have z:=EJ h k S n;have g:=rZ n j X h;cases st with
  |Assign Q v I=>obtain⟨t,d,m⟩:=ar q;clear q;cases il d;exact Lx h k m
  |Return r p=>
   obtain⟨e,d,m⟩:=ar q;cases (show r=some e from d);clear q d;split at m
   .exact Lv h m
   .obtain⟨x,s,rfl⟩:=aE m;exact Et ((g _).e x s)
  |AugAssign t P v p=>
   obtain⟨x,d,m⟩:=ar q;clear q;obtain⟨G,rfl⟩:=oY d;split at m
   .rename_i w;rw[av]at w;obtain⟨i,qi,A⟩:=ar m;obtain⟨F,s,rfl⟩:=aE A;cases P with
    |Add=>exact Rf i h.nd ((g _).v F s) (h.get qi) (h.loc w.1) (.inl (k x))
    |_=>cases aM w.2
   .cases m
  |Break p=>cases q;exact TM
  |Expr e p=>
   replace q:(if jv e=true then none else (tr j n e).e.map cf)=some f:=q;split at q
   .cases q
   .rename_i u;obtain⟨x,s,rfl⟩:=aE q;exact N8 ((g _).e x s) ((sk s).sw (by simpa using u) _ _ _)
  |If c a b p=>obtain⟨c,s,q⟩:=ar q;obtain⟨x,o,q⟩:=ar q;obtain⟨y,C,rfl⟩:=aE q;exact TL ((g _).b c s) (nN z o) (nN z C)
  |For L iter H l p=>
   cases l with
   |cons _ _=>cases q
   |nil=>obtain⟨D,B,q⟩:=ar q;obtain⟨E,s,q⟩:=ar q;obtain⟨b,o,rfl⟩:=aE q;exact Rc S h.calm (KG h g s) (tg_ok h.calm h.hN h.nd (λx K=>⟨h.loc K,.inl (k x)⟩) B) (nN z o) λx=>xD s _ x
  |_=>cases q
structure Df where
 name:Str
 short:Str
 cls:Str
 st:Stmt
 N:LS
 ps:LS
 own:LS
 deep:LS
 refs:LS
noncomputable abbrev At:=List (Str×LS)
noncomputable def aT(T:At)(c f:Str):Bool:=T.any λx=>decide (x.1=c) && x.2.contains f
noncomputable def fT(D:List Df)(h:Str->GF)(x:Str):Option GF:=if (D.any λd=>decide (d.name=x) && d.cls.cps.isEmpty)=true then some (h x) else none
noncomputable def isM(c m:Str)(d:Df):Bool:=decide (d.cls=c) && decide (d.short=m) && !d.cls.cps.isEmpty
def mT(D:List Df)(h:Str->GF)(c m:Str):Option GF:=if m=("__init__":Str) then none else (D.find? (isM c m)).map λd=>h d.name
def Sw(D:List Df)(h:Str->GF)(c:Str):Option GF:=(D.find? (isM c "__init__")).map λd=>h d.name
noncomputable abbrev P3:=(Str->GF)×(Str->Option GF)
def Sy(G:Str->Option P)(T:At)(D:List Df)(p:P3)(d:Df):Cn:=⟨d.N,d.own,d.deep,d.refs,(bv d.st).names,fT D p.1,G,aT T,mT D p.1,p.2⟩
def wI(G:Str->Option P)(T:At)(D:List Df)(p:P3)(d:Df):ES:=(yO (NI (Sy G T D p d) 60) (fY d.st)).getD LY
noncomputable def stays(n:Nat)(x:Str):Bool:=(decide (x=("ends_on":Str)) && kB 14 n) ||((decide (x=("hand_ends":Str)) ||decide (x=("flaw_ends":Str))) && kB 13 n)
def tZ(G:Str->Option P)(T:At)(D:List Df):Nat->P3
 |0=>(λ_ _ _=>none,λ_=>none)
 | n+1=>(fun x=>cond (stays n x) ((tZ G T D n).1 x) (match D.find? fun d=>decide (d.name=x) with
  |some d=>m5 d.ps.length d.N.length (wI G T D (tZ G T D n) d)
  |none=>λ_ _=>none),Sw D (tZ G T D n).1)
noncomputable def K6(G:Str->Option P)(T:At)(D:List Df)(n:Nat):Str->GF:=(tZ G T D n).1
theorem oU{G:Str->Option P}{T:At}{D:List Df}{n:Nat}{x:Str}(h:stays n x=true):K6 G T D (n+1) x=K6 G T D n x:=by show cond (stays n x) _ _=_;rw[h];rfl
theorem cond_ok{B:Type}{c:Bool}{a b:B}{p:B->Prop}(h:p b)(x:p a):p (cond c a b):=by cases c<;>assumption
def QG(d:Df):Bool:=decide ((bv d.st).kind=.function) && !(bv d.st).isCoroutine && !(bv d.st).isGenerator && decide d.N.Nodup && decide (d.N.take d.ps.length=d.ps)
 && d.ps.all (λx=>(bv d.st).names.lookup x == some .local ||(bv d.st).names.lookup x == some .cell) && (bv d.st).names.all (λy=>y.2 != .free)
theorem LW{d:Df}(h:QG d=true):FnScope d.N d.ps (bv d.st):=by
 unfold QG at h;simp only[av]at h;obtain⟨⟨⟨⟨⟨⟨a,e⟩,s⟩,n⟩,k⟩,f⟩,b⟩:=h;refine⟨aM a,by simpa using e,by simpa using s,aM n,aM k,λx c=>?_,λy m=>?_⟩
 .have:=bw.mp f x c;simpa using this
 .have:=bw.mp b y m;simpa using this
structure DOk(K:FG)(mg:SV)(d:Df)(f:Addr)(fd:FuncData):Prop where
 fn:Fun K d.short d.name d.st f fd
 bd:Binds K fd d.ps []
 pl:d.cls.cps.isEmpty=true->∃kV doc pm an cdv ct,fd=jZ d.short d.name (ja d.st) (fY d.st) (bv d.st) .none kV doc pm an cdv ct
 bn:d.short=("__init__":Str)->Hm.contains d.cls=true->Binds K fd d.ps [.none]
 gl:d.cls.cps.isEmpty=true->mg d.name=some (.ref f)
 cl:d.cls.cps.isEmpty=false->∃C,kl K d.cls C/\mg d.cls=some (.ref C)/\Cls K C/\(d.short=("__init__":Str)->Mk K C f)/\(d.short≠("__init__":Str)->Meth K C d.short f)
structure TOk(w:World)(G:Str->Option P)(T:At)(D:List Df)(K:FG)(mg:SV):Prop where
 fn:∀d ∈ D,∃f fd,DOk K mg d f fd
 sc:D.all QG=true
 un:(D.map (·.name)).Nodup
 z:∀x ∈ J_,mg x=none
 gl:∀x v,G x=some v->oI w K mg x v
 at':Q9 K (aT T)
theorem sO:∀{D:List Df}{d:Df},(D.map (·.name)).Nodup->d ∈ D->(D.find? λe=>decide (e.name=d.name))=some d
 | [],_,_,h=>by cases h
 |a::r,d,x,h=>by
  rw[aG,ci]at x;rcases aQ.mp h with h|h
  .subst h;simp
  .have n:¬a.name=d.name:=λz=>x.1 (by rw[z];exact bN.mpr ⟨d,h,rfl⟩);rw[vn (by simpa using n)];exact sO x.2 h
theorem Hg{D:List Df}{x:Str}{a:Str->GF}{g:GF}(h:fT D a x=some g):∃d ∈ D,d.name=x/\d.cls.cps.isEmpty=true/\g=a x:=by
 unfold fT at h;split at h
 .rename_i c;cases h;obtain⟨d,hd,e⟩:=lW.mp c;rw[av]at e;exact⟨d,hd,aM e.1,e.2,rfl⟩
 .cases h
theorem Gf(h:isM c m d=true):d.cls=c/\d.short=m/\d.cls.cps.isEmpty=false:=by unfold isM at h;simp only[av]at h;exact⟨aM h.1.1,aM h.1.2,by simpa using h.2⟩
theorem Hh{D:List Df}{x:Str->GF}{c m:Str}{g:GF}(h:mT D x c m=some g):m≠("__init__":Str)/\∃d ∈ D,d.cls=c/\d.short=m/\d.cls.cps.isEmpty=false/\g=x d.name:=by
 unfold mT at h;split at h
 .cases h
 .rename_i n;obtain⟨d,q,rfl⟩:=aE h;obtain⟨a,e,s⟩:=Gf (AR q);exact⟨n,d,A_ q,a,e,s,rfl⟩
theorem Hi{D:List Df}{x:Str->GF}{c:Str}{g:GF}(h:Sw D x c=some g):∃d ∈ D,d.cls=c/\d.short=("__init__":Str)/\d.cls.cps.isEmpty=false/\g=x d.name:=by unfold Sw at h;obtain⟨d,q,rfl⟩:=aE h;obtain⟨a,e,s⟩:=Gf (AR q);exact⟨d,A_ q,a,e,s,rfl⟩
theorem CC {G:Str->Option P}{T:At}{D:List Df}{Pg:Program}{w:World}{K:FG}{mg:SV}{base:Heap} (Tk:TOk w G T D K mg):∀n,(∀d ∈ D,
  ∀f fd,Fun K d.short d.name d.st f fd->FnOk Pg w K mg base tu n f fd d.ps (sh K (K6 G T D n d.name))) /\
  ∀c g,(tZ G T D n).2 c=some g->∃m,n=m+1/\∃C f fd ps,kl K c C/\mg c=some (.ref C)/\Mk K C f/\FnOk Pg w K mg base tu m f fd ps (sh K g)/\Binds K fd ps (if Hm.contains c=true then [.none] else [])
 |0=>⟨λd hd f fd hF=>GG,λc g h=>(by cases (show(none:Option GF)=some g from h))⟩
 |n+1=>by
  have ih:=CC (Pg:=Pg) (w:=w) (base:=base) Tk n;refine⟨λd hd f fd hF=>?_,λc g h=>?_⟩
  .have e:K6 G T D (n+1) d.name=cond (stays n d.name) (K6 G T D n d.name) (m5 d.ps.length d.N.length (wI G T D (tZ G T D n) d)):=by
    show cond _ _ (match D.find? λd'=>decide (d'.name=d.name) with|some d=>m5 d.ps.length d.N.length (wI G T D (tZ G T D n) d)|none=>λ_ _=>none)=_;rw[sO Tk.un hd];rfl
   rw[e];have hsc:=LW (bw.mp Tk.sc d hd);have XO:∀(cdv:Value)(A:Around)(outer:List Env)(s:Shared)(H:Hp)(E':XK),Room n (A.deeper (envOfC d.name (bv d.st) s.heap.objs.size f cdv)) ->
     XOk (Sy G T D (tZ G T D n) d) (xY tu Pg w K mg base d.N d.name (bv d.st) f cdv A outer s H E').nox:=fun cdv A outer s H E' hr=>{
    hN:=rfl
    nd:=hsc.nd
    ks:=rfl
    kd:=hsc.kind
    calm:=rfl
    hu:=by have:=hr.un;show(A.deeper (envOfC d.name (bv d.st) s.heap.objs.size f cdv)).units+64 < _;lia
    fns:=λx g hg=>by obtain⟨d',hd',hn,hc,rfl⟩:=Hg hg;obtain⟨f',fd',h1⟩:=Tk.fn d' hd';subst hn;exact⟨n,f',fd',d'.ps,(ih.1 d' hd' f' fd' h1.fn),hr,h1.gl hc,h1.fn.kp,h1.bd⟩
    blt:=Tk.z
    glb:=Tk.gl
    attrs:=Tk.at'
    meths:=λc m g hg=>by obtain⟨hm,d',hd',rfl,rfl,hc,rfl⟩:=Hh hg;obtain⟨f',fd',h1⟩:=Tk.fn d' hd';obtain⟨C,c1,c2,c3,c4,c5⟩:=h1.cl hc;exact⟨C,n,f',fd',d'.ps,c1,c3,c5 hm,(ih.1 d' hd' f' fd' h1.fn),hr,h1.bd⟩
    mks:=λc g hg=>by obtain⟨m,rfl,C,f',fd',ps,c1,c2,c3,c4,c5⟩:=ih.2 c g hg;exact⟨C,m,f',fd',ps,c1,c2,c3,c4,hr,c5⟩ }
   refine cond_ok (p:=λg=>FnOk Pg w K mg base tu (n+1) f fd d.ps (sh K g)) (M8 (N:=d.N) hF hsc λcdv A outer s H E' hr=>?_) ((ih.1 d hd f fd hF).mono (nw n));have X:=XO cdv A outer s H E' hr;unfold wI;cases q:yO (NI (Sy G T D (tZ G T D n) d) 60) (fY d.st) with
   |none=>exact C7.imp' λD J H hz=>by obtain⟨F,m,L,S,fl,L',S',r,l,q,k⟩:=hz;cases q
   |some b=>exact nN (λst f q=>EJ X (λ_=>rfl) PassesOwn.never 60 st f q) q
  .obtain⟨d,hd,rfl,hs,hc,rfl⟩:=Hi (x:=(tZ G T D n).1) h;obtain⟨f,fd,h1⟩:=Tk.fn d hd;obtain⟨C,c1,c2,c3,c4,c5⟩:=h1.cl hc;refine⟨n,rfl,C,f,fd,d.ps,c1,c2,c4 hs,(ih.1 d hd f fd h1.fn),?_⟩;by_cases hn:Hm.contains d.cls=true
   .rw [af hn];exact h1.bn hs hn
   .rw [ah hn];exact h1.bd
theorem xG:∀s:List Int,cX K F H (s.map .int) (s.map V.int)
 | []=>rfl
 |n::r=>⟨_,_,rfl,rfl,xG r⟩
theorem MN{K:FG}{H:Hp}{a:Addr}{n:List Int}{g:GF}{E:XK}(e:DN H)(S:g0 K H a (n.map V.int))(h:bU g [.ro (n.map .int)]=some (.bl true)):sh K g [.ref a] H (λv _=>v=.bl true) E:=by
 refine sg ⟨λb=>b=a/\H a≠none,[.ro (n.map .int)],.bl true,λb x=>(by rw[x.1];exact x.2),⟨_,_,rfl,⟨a,_,rfl,?_,xG n⟩,rfl⟩,h,λv F k _ r=>r⟩;rcases S with S|S
 .rcases e a with z|⟨o,f,z⟩
  .rcases S with S|⟨o,S⟩<;>rw[z]at S<;>cases S
  .rcases S with S|⟨s,S⟩
   .rw [z]at S;cases S
   .exact .inl ⟨⟨rfl,by rw[z];exact λq=>nomatch q⟩,s,S⟩
 .exact .inr (.inr S)
open PySem L2
section
variable(L:Lc)(S:aA)
@[simp] theorem CB(i:Nat):bo i L S=match L[i]? with|some (some d)=>some (d,S)|_=>none:=rfl
@[simp] theorem vH(r:EE):dq r L S=a6 (r L S) λd h=>match di d h with|some n=>some (.int (n:Int),h)|none=>none:=by
 unfold dq;cases r L S with
 |none=>rfl
 |some z=>obtain⟨d,h⟩:=z;rw[am,am];cases di d h<;>rfl
@[simp] theorem QR(i:Nat)(v:P):ai i v L=some (L.set i (some (.p v))):=rfl
end
@[simp] theorem j5(x:List B):(few x=true)=(x.length≤1000000):=by unfold few;simp
@[simp] theorem oq(n:Nat):(jb n=true)=(n≤1000000):=by unfold jb;simp
theorem bS{B:Type}{s:List B}{i:Int}{x:B}(a:0≤i)(h:s[i.toNat]? = some x):L2.atI s i=some x:=by have l:=(bO.mp h).1;unfold L2.atI L2.F6;rw[af a,af (by lia)];exact h
@[simp] theorem Hd(x:B)(s:List B):L2.atI (x::s) 0=some x:=bS (by lia) rfl
@[simp] theorem Q5(x y:B)(s:List B):L2.atI (x::y::s) 1=some y:=bS (by lia) rfl
@[simp] theorem Q4(x y z:B)(s:List B):L2.atI (x::y::z::s) 2=some z:=bS (by lia) rfl
@[simp] theorem NZ(x y z w:B)(s:List B):L2.atI (x::y::z::w::s) 3=some w:=bS (by lia) rfl
@[simp] theorem QZ(x:List P)(i:Int):sW (.tup x) (.int i)=L2.atI x i:=rfl
@[simp] theorem Q0(x:List P)(i:Int):sW (.lst x) (.int i)=L2.atI x i:=rfl
@[simp] theorem SI(x:List P)(i:Int):sW (.ro x) (.int i)=L2.atI x i:=rfl
@[simp] theorem Q1(k:List cu)(v:List P)(x:Str):sW (.dct k v) (.str x)=cO (.inr x) k v:=rfl
@[simp] theorem Qg(i j:Int):zA (.int i) (.int j)=some (.bl (decide (i=j))):=rfl
@[simp] theorem Qf(i j:Str):zA (.str i) (.str j)=some (.bl (decide (i=j))):=rfl
@[simp] theorem Q2(i j:Bool):zA (.bl i) (.bl j)=some (.bl (decide (i=j))):=rfl
@[simp] theorem QY(i j:Int):dNe (.int i) (.int j)=some (.bl (!decide (i=j))):=rfl
@[simp] theorem QX(i j:Str):dNe (.str i) (.str j)=some (.bl (!decide (i=j))):=rfl
@[simp] theorem SG(i j:Bool):dNe (.bl i) (.bl j)=some (.bl (!decide (i=j))):=rfl
@[simp] theorem Qh(i j:Int):wD (.int i) (.int j)=some (.int (i+j)):=rfl
@[simp] theorem Qd(i j:Int):wC (.int i) (.int j)=if gJ i j=true then some (.int (i * j)) else none:=rfl
@[simp] theorem NQ(x:List P)(n:Int):pO (.tup x) (.int n)=if (jb (x.length * n.toNat) && decide (n.natAbs < 1000000))=true then some (.tup (List.replicate n.toNat x).flatten) else none:=rfl
@[simp] theorem NR(x:Str)(n:Int):pO (.str x) (.int n)=wC (.str x) (.int n):=rfl
@[simp] theorem Qc(i:Int):zx (.int i)=some (.int (-i)):=rfl
theorem aw(a n:Nat)(b:ES)(s:List P):bU (m5 a n b) s=if s.length=a then match b (s.map (λp=>some (.p p))++List.replicate (n-s.length) none) [] with
 |some (.rt d,_,S)=>(toP 9 d S).map (·.1)
 |some (.nx,_,_)=>some .non
 |_=>none else none:=by
 unfold bU m5;rw[aZ,lU];by_cases h:s.length=a
 .rw [af h,af h];show (match cE (b (s.map (fun p=>some (D.p p))++List.replicate (n-s.length) none) []) with
   |some (d,S)=>(toP 9 d S).map (λ(x:P×aA)=>x.1)
   |none=>none)=_
  cases b (s.map (λp=>some (D.p p))++List.replicate (n-s.length) none) [] with
  |none=>rfl
  |some z=>obtain⟨f,L,S⟩:=z;cases f<;>simp[cE]
 .rw [ah h,ah h]
theorem bj{g:ki}{b:ES}{v:P}{r:List P}{L h L2:Lc}{S x:aA}(a:g v L=some h)(e:b h S=some (.nx,L2,x)):bc g b (v::r) L S=bc g b r L2 x:=by simp[bc,a,e]
theorem sN{g:ki}{b:ES}{v:P}{r:List P}{L h L2:Lc}{S x:aA}{d:D}(a:g v L=some h)(e:b h S=some (.rt d,L2,x)):bc g b (v::r) L S=some (.rt d,L2,x):=by simp[bc,a,e]
section
variable(L:Lc)(S:aA)
@[simp] theorem wg(a:EV):iI a L S=a6 (a L S) λx h=>match x with | .int n=>if (decide (n.natAbs < 1000000))=true then some (intsFrom 0 n.toNat,h) else none|_=>none:=by
 unfold iI;cases a L S with
 |none=>rfl
 |some z=>obtain⟨x,h⟩:=z;cases x<;>first|rfl|simp
@[simp] theorem PZ(g:List ki)(v:List P):aY g (.tup v) L=sK g v L:=rfl
@[simp] theorem PY:sK [] [] L=some L:=rfl
@[simp] theorem NO(g:ki)(s:List ki)(v:P)(h:List P):sK (g::s) (v::h) L=match g v L with|some a=>sK s h a|none=>none:=rfl
@[simp] theorem RE(v:P):Iv (.p v) S=vK v:=rfl
@[simp] theorem QC(b:Bool):vK (.bl b)=some b:=rfl
@[simp] theorem Ov(i:Int):vK (.int i)=some (i != 0):=rfl
@[simp] theorem Tu(x y:P):Cu (.p x) (.p y) S=(Cz x y).map .bl:=rfl
@[simp] theorem P0(x y:P):Hl (.p x) (.p y) S=(Dh x y).map .bl:=rfl
end
@[simp] theorem QU(i j:Int):Cz (.int i) (.int j)=some (decide (i=j)):=rfl
@[simp] theorem QT(i j:Str):Cz (.str i) (.str j)=some (decide (i=j)):=rfl
@[simp] theorem SE(i j:Bool):Cz (.bl i) (.bl j)=some (decide (i=j)):=rfl
@[simp] theorem QM(i j:Int):Dh (.int i) (.int j)=some (!decide (i=j)):=rfl
@[simp] theorem QL(i j:Str):Dh (.str i) (.str j)=some (!decide (i=j)):=rfl
@[simp] theorem Sk(i j:Bool):Dh (.bl i) (.bl j)=some (!decide (i=j)):=rfl
@[simp] theorem NW(i j:Int):pP (.int i) (.int j)=some (.int (i+j)):=rfl
@[simp] theorem NU(x y:Str):pP (.str x) (.str y)=wD (.str x) (.str y):=rfl
@[simp] theorem NV(x y:List P):pP (.lst x) (.lst y)=if jb (x.length+y.length)=true then some (.lst (x++y)) else none:=rfl
@[simp] theorem NT(i j:Int):pO (.int i) (.int j)=if gJ i j=true then some (.int (i * j)) else none:=rfl
@[simp] theorem NS(x:List P)(n:Int):pO (.lst x) (.int n)=if (jb (x.length * n.toNat) && decide (n.natAbs < 1000000))=true then some (.lst (List.replicate n.toNat x).flatten) else none:=rfl
theorem GK(h:cm 20 v=true):Cz v v=some true:=by
 unfold Cz;have e:b9 (pd v) (pd v)=true:=qw _ (eX 20 v h).1;cases q:zA v v with
 |none=>simp[h,e]
 |some z=>
  cases v with
  |int i=>cases q;simp
  |str i=>cases q;simp
  |bl i=>cases q;simp
  |non=>cases q
  |tup _=>cases q
  |lst _=>cases q
  |ro _=>cases q
  |dct _ _=>cases h
theorem xp(h:cm 20 v=true):Dh v v=some false:=by
 unfold Dh;have e:b9 (pd v) (pd v)=true:=qw _ (eX 20 v h).1;cases q:dNe v v with
 |none=>simp[h,e]
 |some z=>
  cases v with
  |int i=>cases q;simp
  |str i=>cases q;simp
  |bl i=>cases q;simp
  |non=>cases q
  |tup _=>cases q
  |lst _=>cases q
  |ro _=>cases q
  |dct _ _=>cases h
theorem wn(h:cm 20 (.lst s)=true):Cz (.lst s) (.lst [])=some s.isEmpty:=by unfold Cz;have e:cm 20 (.lst [])=true:=rfl;show(if (cm 20 (.lst s) && cm 20 (.lst []))=true then some (b9 (pd (.lst s)) (pd (.lst []))) else none)=_;rw[h,e];cases s<;>rfl
theorem nT(h:cm 20 (.lst s)=true):Dh (.lst s) (.lst [])=some (!s.isEmpty):=by unfold Dh;have e:cm 20 (.lst [])=true:=rfl;show(if (cm 20 (.lst s) && cm 20 (.lst []))=true then some (!PyData.eqv (pd (.lst s)) (pd (.lst []))) else none)=_;rw[h,e];cases s<;>rfl
section
variable{L:Lc}{S:aA}
@[simp high] theorem Uz(d:D):bo 0 (some d::L) S=some (d,S):=rfl
@[simp high] theorem Uy(a:Option D)(i:Nat):bo (i+1) (a::L) S=bo i L S:=rfl
@[simp ↓ high] theorem Uw(x y:a):(if few ([]:List B)=true then x else y)=x:=rfl
@[simp ↓ high] theorem Uv(a:B)(x y:s):(if few ([a]:List B)=true then x else y)=x:=rfl
@[simp ↓ high] theorem Uu(a h:B)(x y:s):(if few ([a,h]:List B)=true then x else y)=x:=rfl
@[simp ↓ high] theorem Ut(a h e:B)(x y:s):(if few ([a,h,e]:List B)=true then x else y)=x:=rfl
@[simp ↓ high] theorem Us(a h e s:B)(x y:k):(if few ([a,h,e,s]:List B)=true then x else y)=x:=rfl
@[simp ↓ high] theorem Ur(a h e s n:B)(x y:k):(if few ([a,h,e,s,n]:List B)=true then x else y)=x:=rfl
@[simp ↓ high] theorem Uq(a h e s n k:B)(x y:f):(if few ([a,h,e,s,n,k]:List B)=true then x else y)=x:=rfl
@[simp ↓ high] theorem Up(a h e s n k f:B)(x y:b):(if few ([a,h,e,s,n,k,f]:List B)=true then x else y)=x:=rfl
@[simp high] theorem UF(v:P)(S:aA):toP 9 (.p v) S=some (v,S):=rfl
@[simp ↓ high] theorem Tz(x:Option (B×aA))(f:B->aA->Option s):a6 x f=match x with|some (a,S)=>f a S|none=>none:=rfl
@[simp ↓ high] theorem Uj(x y:a):(if true=true then x else y)=x:=rfl
@[simp ↓ high] theorem Uk(x y:a):(if false=true then x else y)=y:=rfl
end
@[simp] theorem R9(a b:String):(Str.ofString a=Str.ofString b)=(a=b):=by rw[zN,zN];exact propext ⟨λh=>String.toList_inj.mp ((AX λ_ _=>Char.toNat_inj.mp).mp (by simpa using h)),λh=>by rw[h]⟩
end Ev
set_option tactic.hygienic false
namespace My
open PySem L2 Ev
noncomputable abbrev O(x:P):Option D:=some (.p x)
noncomputable abbrev qi(x:Int):Option D:=some (.p (.int x))
noncomputable abbrev qs(x:Str):Option D:=some (.p (.str x))
noncomputable abbrev ql(x:List P):Option D:=some (.p (.lst x))
noncomputable abbrev qt(x:List P):Option D:=some (.p (.tup x))
noncomputable abbrev qr(x:Nat):Option D:=some (.ref x)
@[simp] abbrev vv(k:Nat):EV:=vE (bo k)
@[simp] abbrev vi(i:Int):EV:=vC (.int i)
@[simp] abbrev vt(x:Str):EV:=vC (.str x)
@[simp] abbrev v1(a:EV):ko:=bt a a8
@[simp] abbrev v2(a b:EV):ko:=bt a (bt b a8)
@[simp] abbrev v3(a b c:EV):ko:=bt a (bt b (bt c a8))
@[simp] abbrev v4(a b c d:EV):ko:=bt a (bt b (bt c (bt d a8)))
@[simp] abbrev v5(a b c d e:EV):ko:=bt a (bt b (bt c (bt d (bt e a8))))
@[simp] abbrev v6(a b c d e f:EV):ko:=bt a (bt b (bt c (bt d (bt e (bt f a8)))))
@[simp] abbrev v7(a b c d e f g:EV):ko:=bt a (bt b (bt c (bt d (bt e (bt f (bt g a8))))))
@[simp] abbrev v8(a b c d e f g h:EV):ko:=bt a (bt b (bt c (bt d (bt e (bt f (bt g (bt h a8)))))))
@[simp] abbrev DO(a:EE):tm:=bY a jT
@[simp] abbrev rV(a b:EE):tm:=bY a (bY b jT)
@[simp] abbrev yI(a b c:EE):tm:=bY a (bY b (bY c jT))
@[simp] abbrev QB(a b c d:EE):tm:=bY a (bY b (bY c (bY d jT)))
@[simp] abbrev K9(a b c d e:EE):tm:=bY a (bY b (bY c (bY d (bY e jT))))
@[simp] abbrev S_(a b c d e f:EE):tm:=bY a (bY b (bY c (bY d (bY e (bY f jT)))))
@[simp] abbrev UD(k:Nat)(f:EV):ES:=aq k (U f)
@[simp] abbrev UE(f:EV):ES:=au (U f)
@[simp] abbrev aK(a b:EE):EB:=bV (cP Cu a b)
@[simp] abbrev eT(a b:EE):EB:=bV (cP Hl a b)
@[simp] abbrev nK:EV->EV->EV:=qQ SH
@[simp] abbrev Y:EV->EV->EV:=qQ sW
@[simp] abbrev aD:EV->EV->EV:=qQ zy
@[simp] abbrev BE:EV->EV->EV:=qQ SK
@[simp] abbrev Ew:EV->EV->EV:=qQ Ni
@[simp] abbrev lw:EV->EV->EV:=qQ Ng
@[simp] abbrev aB:EV->EV->EV:=qQ Nj
@[simp] abbrev cK:EV->EV->EV:=qQ pO
@[simp] abbrev ao:EV->EV->EV:=qQ pP
@[simp] abbrev rT:EV->EV->EV:=qQ SJ
@[simp] abbrev Kk:EV->EV->EV:=qQ Qe
@[simp] abbrev bL(g:GF):ko->EV:=b0 (bU g)
@[simp] abbrev bI:EV:=vE (bo 1)
@[simp] abbrev bC:EV:=vE (bo 0)
@[simp] abbrev cD:EV:=vE (bo 3)
@[simp] abbrev gB:EV:=vE (bo 4)
@[simp] abbrev g6:EV:=vE (bo 6)
@[simp] abbrev lv:EV:=vE (bo 8)
@[simp] abbrev iy:EV:=vE (bo 5)
@[simp] abbrev j0:EV:=vE (bo 7)
@[simp] abbrev jC:EV:=vE (bo 9)
@[simp] abbrev b_:EV:=vE (bo 2)
@[simp] abbrev j1:EV:=vE (bo 11)
@[simp] abbrev gp:EV:=vE (bo 10)
@[simp] abbrev mN:EV:=vE (bo 12)
@[simp] abbrev nJ:EV:=vE (bo 13)
@[simp] abbrev bZ:EV:=vC (.int 0)
@[simp] abbrev ce:EV:=vC (.int 1)
@[simp] abbrev dD:EV:=vC (.int 2)
@[simp] abbrev lx:EV:=vC (.int 4)
@[simp] abbrev yH:EV:=vC (.int 8)
@[simp] abbrev gY:EV:=vC (.int 3)
@[simp] abbrev pV:EV:=vC (.int 5)
@[simp] abbrev cC:EE:=bo 0
@[simp] abbrev nL:EE:=bo 3
@[simp] abbrev gj:EE:=bo 1
@[simp] abbrev gq:EE:=bo 2
@[simp] abbrev yg:EE:=bo 7
@[simp] abbrev CT:EE:=bo 6
@[simp] abbrev tt:EE:=bo 4
@[simp] abbrev i8:EE:=bo 10
@[simp] abbrev BF:EE:=bo 5
@[simp] abbrev wN:EE:=bo 8
noncomputable def DP(i:Nat):Stmt:=PySem.Challenge.pw_roadsall_k41_facts_without_knowing.main.body.getD i (.Pass ⟨0,0,0,0⟩)
noncomputable def Gv(x:Str):Option P:=if x=("HAND_PARTS":Str) then some (.tup [.str "some",.str "all",.str "many"]) else if x=("HIGHEST_LETTER":Str) then some (.int 999) else if x=("NOBODY":Str) then some (.int (-1)) else none
noncomputable def NK:LS:=["flaw_ends","Board.family_of","Board.hands_beside","takeable","targets_of","posted","sendings","step_ends","hand_ends","ends_on","Board.__init__","known_truths","knowing_truths","fitting_numbers","hand_truths","letter_truths","is_dry","Scene.dry_truths","truths_in","Scene.__init__"]
def So(st:Stmt):LS:=((bv st).names.filter λx=>[NameKind.local,.cell].contains x.2).map (·.1)
def Pz(x:Str)(t k:Nat)(N o d:LS):Df:=⟨x,x,"",DP t,N,N.take k,o,d,NK⟩
def gu(x:Str)(t k:Nat)(o d:LS:=[]):Df:=Pz x t k (So (DP t)) o d
def re:Df:=Pz "law" 70 1 ["_law_script","_law_plan_here","_law_web","_law_handed","_law_place","_law_fact_here","_law_due","_law_k","_law_found","_law_standing_here","_law_one"] ["_law_found"] ["_law_found","truths"]
noncomputable def Att:At:=[("Board",["families","homes","members","pairs","places"]),("Scene",["around","board","dries","standings"])]
def N0:List Df:=[gu "_law_cell_at" 45 2,gu "_law_mix" 46 2,gu "_law_roads" 51 3 ["_law_roads_here"],gu "_law_name" 47 2,gu "_law_cells" 48 3 ["_law_cells_here"],gu "_law_sum" 49 2,gu "_law_sends" 52 6 ["_law_sends_here"],gu "_law_condition" 50 2,gu "_law_step" 53 6 ["_law_changes"],Pz "_law_family" 54 6 ["_law_script","_law_k","_law_name_here","_law_crew_here","_law_wide","_law_roads_here","_law_cells_here","_law_drawn","_law_rooms","_law_whos","_law_steps","_law_j","_law_first"] ["_law_steps"] [],Pz "_law_plan" 55 2 ["_law_script","_law_most","_law_total","_law_wide","_law_many","_law_names","_law_roads_here","_law_families_here","_law_k","_law_name_here","_law_crew_here","_law_wishes","_law_drawn","_law_family_here"] ["_law_families_here","_law_wishes"] [],gu "_law_families" 56 1,gu "_law_crew" 57 2,gu "_law_pairs" 58 1 ["_law_found"],gu "_law_standing" 59 2 ["_law_cells_here","_law_hands","_law_letters","_law_roads_here","_law_whos"],gu "families_of" 8 1 ["homes"],gu "pairs_of" 9 1 ["pairs"],gu "begin" 10 1 ["hands"],gu "_law_part" 64 3,gu "_law_fact" 65 5,gu "_law_relation" 61 3,gu "_law_value" 60 2,gu "_law_true" 62 2,gu "_law_values" 63 2 ["_law_found"],gu "_law_fits" 66 5,gu "has_flaw" 25 3,gu "unlike_spots" 17 2,gu "replaced" 28 3,gu "without" 27 2,gu "flawed" 26 3,gu "flaw_ends" 24 3 ["board","ends"],gu "values_of" 15 2,gu "compared" 3 3,gu "value_of" 1 2,gu "holds" 2 2,gu "takeable" 16 4 ["board","found"],gu "cells_behind" 19 4 ["given","numbers"],gu "whos_behind" 20 4,gu "targets_of" 22 5 ["board"],gu "posted" 23 5 ["board"],gu "sendings" 21 6 ["board","further"],gu "step_ends" 18 5 ["board","ends","values"] ["values","values_of"],gu "hand_ends" 14 3 ["board","ends"],gu "ends_on" 13 2 ["board","ends"],gu "ends_from" 12 2,gu "deeds" 11 2,gu "_law_count" 67 3,gu "_law_plain" 68 3,gu "_law_held" 69 4 ["_law_known"],gu "known_truths" 43 3 ["firm","scene"],gu "joined" 35 3 ["return"],gu "knowing_truths" 42 2 ["scene"],gu "fits" 39 4,gu "fitting_numbers" 38 4 ["known","members","numbers","scene"],gu "hand_truths" 37 2 ["members","return","scene"],gu "letter_number" 41 3,gu "letter_truths" 40 2 ["return","scene"],gu "is_dry" 36 2 ["board"],gu "truths_in" 34 2 ["return","scene"] ["hand_truths","joined","knowing_truths","letter_truths"],gu "truths" 33 3 ["return"] ["truths_in"],gu "holds_at" 32 3,re]
def TC:List Df:=[⟨"Board.family_of","family_of","Board",(L2.im (DP 7) 1),["self","hand"],["self","hand"],["self"],[],NK⟩,⟨"Board.hands_beside","hands_beside","Board",(L2.im (DP 7) 2),["self","hand","name"],["self","hand","name"],["self"],[],NK⟩,⟨"Board.__init__","__init__","Board",(L2.im (DP 7) 0),["self","plan","place","pair","hand"],["self","plan"],["self"],["families_of","pairs_of","places","self"],NK⟩,⟨"Scene.dry_truths","dry_truths","Scene",(L2.im (DP 31) 1),["self"],["self"],["return","self"],[],NK⟩,⟨"Scene.__init__","__init__","Scene",(L2.im (DP 31) 0),["self","plan","standings","around"],["self","plan","standings","around"],["self"],[],NK⟩]
noncomputable def Tb:List Df:=N0++TC
noncomputable def Ph(n:Nat):Str->GF:=K6 Gv Att Tb n
abbrev EQ(x:Str)(a b:Nat)(f:(Str->GF)->ES):Prop:=∀n,Ph (n+2) x=m5 a b (f (Ph (n+1)))
def iQ (h:Str->GF):ES:=(ag (b8 (bV (nK bI (dq cC))) (au (U (Y bC bI))) cN)
  (au (U bZ)))
theorem ll:EQ "_law_cell_at" 2 2 iQ:=λ_=>by kernel_rfl
def jz(h:Str->GF):ES:=(aq 0 (U (aD bC (vi 2147483648))))
def lK (h:Str->GF):ES:=(ag (b8 (bV (BE bC (Ew (vi 10) (vi 12)))) (ag (aq 0 (U (lw (aD bC (Ew (vi 10) (vi 12))) ce)))
  (ag (bE (iI (aB bI (vi 61))) (ai 2) (jz h))
  (au (U (aB bC (vi 2147483648)))))) cN)
  (ag (aq 3 (U (aB (cK (ao (ao (aB bC (vi 1000003)) (cK (cK bI bI) (vi 7919))) bI) (vi 48271)) (vi 2147483629))))
  (ag (aq 3 (U (aB (cK cD cD) (vi 2147483587))))
  (au (U (aD (aB (cK cD (ao cD dD)) (vi 2147483579)) (vi 7)))))))
theorem pL:EQ "_law_mix" 2 4 lK:=λ_=>by kernel_rfl
def dX (h:Str->GF):ES:=(ag (aq 8 (U (bL (h "_law_mix") (v2 (bL (h "_law_cell_at") (v2 bC lx)) (ao (ao (vi 30) (cK lx gB)) g6)))))
  (b8 (jd (bV (rT (aB lv lx) bZ)) (bV (nK (dq nL) yH))) (ag (aq 9 (U (Y (aW (v2 (vt "row") (vt "heap"))) (aB (aD lv lx) dD))))
  (cf (bB nL (U (aP (v6 iy j0 jC (ao ce (aB (aD lv yH) b_)) (cP Cu (U (aB (aD lv (vi 24)) gY)) (U ce)) (cP Cu (U (aB (aD lv (vi 72)) gY)) (U ce)))))))) cN))
def hJ(h:Str->GF):ES:=(bE (q_ bI) (aY [ai 6,ai 7]) (dX h))
def mG (h:Str->GF):ES:=(ag (aq 3 (df a8))
  (ag (bE (q_ bI) (aY [ai 4,ai 5]) (hJ h))
  (au nL)))
theorem tM:EQ "_law_roads" 3 10 mG:=λ_=>by kernel_rfl
def oC (h:Str->GF):ES:=(ag (aq 2 (U (bL (h "_law_mix") (v2 (bL (h "_law_cell_at") (v2 bC ce)) bI))))
  (au (U (ao (cK (Y (vt "abcdefghijklmnop") bI) (ao ce (aB b_ lx))) (Y (vt "xyz") (aB (aD b_ lx) gY))))))
theorem ww:EQ "_law_name" 2 3 oC:=λ_=>by kernel_rfl
def hV (h:Str->GF):ES:=(ag (aq 5 (U (bL (h "_law_mix") (v2 (bL (h "_law_cell_at") (v2 bC (ao dD bI))) (ao dD gB)))))
  (ag (aq 6 (U (Y (aW (v4 bZ bZ (NG zx ce) pV)) (aB iy lx))))
  (ag (aq 7 (U (ao g6 (Y (aW (v4 ce dD bZ ce)) (aB (aD iy lx) lx)))))
  (cf (bB nL (U (aP (v4 (bL (h "_law_name") (v2 bC (ao dD gB))) g6 j0 (ao g6 (aB (aD iy (vi 16)) (ao (lw j0 g6) ce)))))))))))
def mJ (h:Str->GF):ES:=(ag (aq 3 (df a8))
  (ag (bE (iI (aB (bL (h "_law_mix") (v2 (bL (h "_law_cell_at") (v2 bC (ao dD bI))) ce)) (ao b_ ce))) (ai 4) (hV h))
  (au nL)))
theorem tR:EQ "_law_cells" 3 8 mJ:=λ_=>by kernel_rfl
def fm (h:Str->GF):ES:=(ag (b8 (tX (aK gj (U (aW a8))) (aK (U (aB bC pV)) (U bZ))) (au (U (aP (v2 (vt "number") (aB (aD bC pV) gY))))) cN)
  (ag (aq 2 (U (aP (v2 (vt "name") (Y bI (aB (aD bC pV) (dq gj)))))))
  (ag (b8 (aK (U (aB bC pV)) (U ce)) (au gq) cN)
  (ag (b8 (aK (U (aB bC pV)) (U dD)) (au (U (aP (v3 (vt "plus") b_ (aP (v2 (vt "number") (aB (aD bC (vi 20)) gY))))))) cN)
  (ag (b8 (aK (U (aB bC pV)) (U gY)) (au (U (aP (v3 (vt "minus") (aP (v3 (vt "times") b_ (aP (v2 (vt "number") (aB (aD bC (vi 20)) gY))))) (aP (v2 (vt "number") (aB (aD bC (vi 60)) dD))))))) cN)
  (au (U (aP (v3 (vt "minus") (aP (v2 (vt "number") ce)) b_)))))))))
theorem gn:EQ "_law_sum" 2 3 fm:=λ_=>by kernel_rfl
def fD (h:Str->GF):ES:=(ag (aq 9 (U (aD bC (Y (aW (v3 lx (vi 1000) (vi 100000))) lv))))
  (ag (aq 10 (U (bL (h "_law_sum") (v2 (aB (aD jC (vi 12)) (vi 300)) b_))))
  (ag (aq 11 (U (Y (aW (v2 (vt "ma") (vt "mb"))) (aB jC dD))))
  (b8 (jd (eT nL (U (aW a8))) (aK (U (aB (aD jC dD) gY)) (U ce))) (cf (bB yg (U (aP (v4 j1 gp (vt "who") (Y cD (aB (aD jC (vi 50)) (dq nL)))))))) (b8 (eT CT (U (aW a8))) (cf (bB yg (U (aP (v4 j1 gp (Y (aW (v2 (vt "all") (vt "any"))) (cK (aB (aD jC (vi 6)) dD) (b0 cW (v1 (nK lv dD))))) (Y g6 (aB (aD jC gY) (dq CT)))))))) cN)))))
def mF (h:Str->GF):ES:=(ag (aq 6 (U (aX (fK gB) [] 1 (ai 12) (aK (U (Y mN bZ)) gj) (Y mN ce))))
  (ag (aq 7 (df a8))
  (ag (bE (iI (aB bC (ao iy ce))) (ai 8) (fD h))
  (au yg))))
theorem tL:EQ "_law_sends" 6 12 mF:=λ_=>by kernel_rfl
def cU (h:Str->GF):ES:=(ag (b8 (tX (aK gj (U (aW a8))) (bV (nK (aB bC pV) dD))) (au (U (aP (v1 (vt "true"))))) cN)
  (ag (aq 2 (U (Y (aW (v6 (vt "=") (vt "!=") (vt "<") (vt "<=") (vt ">") (vt ">="))) (aB (aD bC pV) (vi 6)))))
  (ag (aq 3 (U (aP (v4 (vt "is") b_ (aP (v2 (vt "name") (Y bI (aB (aD bC (vi 30)) (dq gj))))) (bL (h "_law_sum") (v2 (aD bC (vi 90)) bI))))))
  (ag (b8 (aK (U (aB bC pV)) (U dD)) (au (U (aP (v2 (vt "not") cD)))) cN)
  (ag (b8 (aK (U (aB bC pV)) (U gY)) (au (U (aP (v3 (vt "or") cD (aP (v3 (vt "and") (aP (v1 (vt "true"))) (aP (v4 (vt "is") (vt "=") (aP (v2 (vt "number") ce)) (aP (v2 (vt "name") (Y bI bZ))))))))))) cN)
  (au nL))))))
theorem dw:EQ "_law_condition" 2 4 cU:=λ_=>by kernel_rfl
def gb (h:Str->GF):ES:=(b8 (jd (eT yg (U (aW a8))) (aK (U (aB (Y bC bZ) gY)) (U ce))) (ag (aq 11 (U (vt "")))
  (ag (b8 (jd (eT CT (U (aW a8))) (aK (U (aB (aD (Y bC bZ) gY) dD)) (U ce))) (ag (aq 11 (U (Y g6 (NG zx ce))))
  (aq 9 (U (kH g6 gH (fJ (NG zx ce)))))) cN)
  (ag (aq 12 (U (vt "")))
  (ag (b8 (jd (eT tt (U (aW a8))) (aK (U (aB (aD (Y bC bZ) (vi 6)) dD)) (U ce))) (aq 12 (U (Y gB (aB (aD (Y bC bZ) (vi 200)) (dq tt))))) cN)
  (ag (aq 8 (U (aP (v4 (Y (aW (v2 (vt "ma") (vt "mb"))) (aB (aD (Y bC bZ) (vi 12)) dD)) (Y j0 (aB (aD (Y bC bZ) (vi 24)) (dq yg))) j1 mN))))
  (aq 10 (U (aW (v1 (vt "it")))))))))) cN)
def ga(h:Str->GF):ES:=(b8 (aK (U (aB (aD (Y bC ce) (Y (aW (v3 ce (vi 1000) (vi 1000000))) (vv 14))) dD)) (U ce)) (cf (bB (bo 13) (U (aP (v2 (vv 15) (bL (h "_law_sum") (v2 (aB (aD (Y bC ce) (Y (aW (v3 dD (vi 2000) (vi 2000000))) (vv 14))) (vi 300)) (ao g6 gp)))))))) cN)
def oB (h:Str->GF):ES:=(ag (aq 6 (U (aX (fK cD) [] 1 (ai 18) dF (Y (vv 18) bZ))))
  (ag (aq 7 (U (aX (fK iy) [] 1 (ai 18) (aK (U (Y (vv 18) ce)) gj) (Y (vv 18) bZ))))
  (ag (aq 8 (U (vC (.non))))
  (ag (aq 9 (U (b0 jy (v1 g6))))
  (ag (aq 10 (U (aW a8)))
  (ag (gb h)
  (ag (aq 13 (df a8))
  (ag (bE (q_ jC) (aY [ai 14,ai 15]) (ga h))
  (ag (aq 16 (U (bL (h "_law_sends") (v6 (Y bC dD) bI (ao g6 gp) gB iy (ao dD (b0 cW (v1 (rT (dq gq) gY))))))))
  (ag (aq 17 (U (bL (h "_law_condition") (v2 (aB (Y bC gY) (vi 27000)) g6))))
  (au (U (aP (v6 (Y b_ (aB (aD (Y bC gY) (vi 27000)) (dq gq))) (vv 17) lv nJ (vv 16) (Y b_ (aB (aD (Y bC gY) (vi 216000)) (dq gq)))))))))))))))))
theorem wt:EQ "_law_step" 6 18 oB:=λ_=>by kernel_rfl
def gS (h:Str->GF):ES:=(ag (aq 12 (U (cK lx (ao (cK yH bI) j1))))
  (ag (aq 7 (U (aX (iI lx) [] 1 (ai 13) dF (bL (h "_law_mix") (v2 (bL (h "_law_cell_at") (v2 bC (ao pV (aB (ao mN nJ) (vi 24))))) (ao (ao (vi 11) mN) nJ))))))
  (cf (bB i8 (U (ao (aP (v1 (bL (h "_law_name") (v2 bC (ao yH j1))))) (bL (h "_law_step") (v6 j0 b_ lv g6 jC iy))))))))
def lL (h:Str->GF):ES:=(ag (aq 6 (U (bL (h "_law_cells") (v3 bC bI (ao dD (b0 cW (v1 gB)))))))
  (ag (aq 7 (U (bL (h "_law_mix") (v2 (bL (h "_law_cell_at") (v2 bC (ao dD bI))) (vi 9)))))
  (ag (aq 8 (U (aX (iI (ao ce (aB j0 (Y (aW (v2 gY yH)) (b0 cW (v1 gB)))))) [11] 0 (ai 11) dF (bL (h "_law_name") (v2 bC (ao lx j1))))))
  (ag (aq 7 (U (bL (h "_law_mix") (v2 (bL (h "_law_cell_at") (v2 bC (ao dD bI))) yH))))
  (ag (aq 9 (U (aX (iI (aB j0 (ao dD (b0 cW (v1 gB))))) [11] 0 (ai 11) dF (bL (h "_law_name") (v2 bC (ao (vi 10) j1))))))
  (ag (aq 10 (df a8))
  (ag (bE (iI (ao ce (aB (bL (h "_law_mix") (v2 (bL (h "_law_cell_at") (v2 bC (ao dD bI))) (vi 7))) (Y (aW (v2 gY yH)) (b0 cW (v1 gB)))))) (ai 11) (gS h))
  (au (U (aP (v6 b_ cD lv g6 jC gp)))))))))))
theorem sR:EQ "_law_family" 6 13 lL:=λ_=>by kernel_rfl
def iP (h:Str->GF):ES:=(ag (aq 10 (U (ao ce (aB (aD b_ (Y (aW (v4 lx (vi 12) (vi 16) (vi 16))) lv)) (Y (aW (v4 (ao bI (b0 cW (v1 cD))) dD ce ce)) (lw gB ce))))))
  (cf (bB yg (U (bL (h "_law_family") (v6 bC lv jC gp cD g6))))))
def iN (h:Str->GF):ES:=(ag (aq 12 (U (bL (h "_law_mix") (v2 (bL (h "_law_cell_at") (v2 bC lx)) (ao (vi 20) lv)))))
  (ag (aq 13 (oK yg (aB mN gB)))
  (cf (bB (bo 11) (U (aP (v3 (Y (aW (v2 (vt "weak") (vt "strong"))) (aB (aD mN lx) dD)) (Y nJ bZ) (Y (Y (Y nJ pV) (aB (aD mN yH) (dq (U (Y nJ pV))))) bZ))))))))
def kZ (h:Str->GF):ES:=(ag (aq 2 (U (bL (h "_law_cell_at") (v2 bC bZ))))
  (ag (aq 3 (U (cP Cu (U (aB (aD b_ (vi 64)) yH)) (U ce))))
  (ag (aq 4 (U (ao ce (aB b_ (Y (aW (v2 dD lx)) (b0 cW (v1 cD)))))))
  (ag (aq 5 (U (aX (iI gB) [8] 0 (ai 8) dF (bL (h "_law_name") (v2 bC lv)))))
  (ag (aq 6 (U (bL (h "_law_roads") (v3 bC iy (ao dD (b0 cW (v1 cD)))))))
  (ag (aq 7 (df a8))
  (ag (bE (q_ iy) (aY [ai 8,ai 9]) (iP h))
  (ag (aq 11 (df a8))
  (ag (bE (iI (ao (aB (aD b_ (vi 48)) gY) (cK lx (b0 cW (v1 (vB (jd (bV cD) (aK (U (aB b_ gY)) (U ce))))))))) (ai 8) (iN h))
  (au (U (aP (v3 j0 g6 j1)))))))))))))
theorem wu:EQ "_law_plan" 2 14 kZ:=λ_=>by kernel_rfl
def fM(h:Str->GF):ES:=(aq 1 (U (ao bI (cK (aW (v1 b_)) (Y b_ ce)))))
def kg (h:Str->GF):ES:=(ag (aq 1 (U (aW a8)))
  (ag (bE (fK (Y bC bZ)) (ai 2) (fM h))
  (au gj)))
theorem pa:EQ "_law_families" 1 3 kg:=λ_=>by kernel_rfl
def oE(h:Str->GF):ES:=(au (U (aX (q_ (bL (h "_law_families") (v1 bC))) [] 2 (aY [ai 2,ai 3]) (aK (U (Y cD bZ)) gj) b_)))
theorem wz:EQ "_law_crew" 2 2 oE:=λ_=>by kernel_rfl
def fE(h:Str->GF):ES:=(b8 (eT nL tt) (cf (bB gj (U (aP (v3 b_ cD gB))))) cN)
def kf(h:Str->GF):ES:=(bE (fK (bL (h "_law_crew") (v2 bC (Y b_ ce)))) (ai 4) (fE h))
def ke(h:Str->GF):ES:=(bE (fK (bL (h "_law_crew") (v2 bC (Y b_ bZ)))) (ai 3) (kf h))
def mH (h:Str->GF):ES:=(ag (aq 1 (df a8))
  (ag (bE (fK (Y bC ce)) (ai 2) (ke h))
  (au gj)))
theorem tN:EQ "_law_pairs" 1 5 mH:=λ_=>by kernel_rfl
def dQ(h:Str->GF):ES:=(cf (bB yg (U (ao (Y jC ce) (aB (aD g6 (Y (aW (v3 yH (vi 32) (vi 128))) lv)) (ao (lw (Y jC dD) (Y jC ce)) ce))))))
def dP(h:Str->GF):ES:=(cf (bB i8 (U (lw (aB (aD g6 (Y (aW (v2 (vi 512) (vi 4096))) lv)) (ao (dq nL) ce)) ce))))
def dO (h:Str->GF):ES:=(ag (aq 6 (U (bL (h "_law_mix") (v2 (bL (h "_law_cell_at") (v2 bC (ao (vi 29) gB))) (vi 31)))))
  (ag (aq 7 (df a8))
  (ag (bE (q_ (Y iy gY)) (aY [ai 8,ai 9]) (dQ h))
  (ag (aq 10 (df a8))
  (ag (bE (iI (dq (U (Y iy lx)))) (ai 8) (dP h))
  (cf (bB gq (U (aP (v3 (aB g6 (dq (U (Y iy dD)))) (b0 cz (v1 j0)) (b0 cz (v1 gp))))))))))))
def dM (h:Str->GF):ES:=(ag (aq 15 (U (ao (lw (aB (aD g6 (Y (aW (v3 yH (vi 800) (vi 80000))) lv)) lx) ce) (Y (aW (v4 bZ (vi 997) bZ (NG zx (vi 998)))) (aB (aD g6 (vi 8000000)) lx)))))
  (cf (bB (bo 14) (U (aP (v2 (Y (aW (v2 (vt "ma") (vt "mb"))) (aB (aD g6 (Y (aW (v3 lx (vi 400) (vi 40000))) lv)) dD)) (vv 15)))))))
def dL (h:Str->GF):ES:=(ag (aq 6 (U (bL (h "_law_mix") (v2 (bL (h "_law_cell_at") (v2 bC (ao (vi 34) (aB mN (vi 20))))) (ao (vi 33) (aD mN (vi 20)))))))
  (ag (aq 14 (df a8))
  (ag (bE (iI (aB g6 (ao (Y (Y nJ bZ) gY) ce))) (ai 8) (dM h))
  (ag (b8 (aK (U (Y (Y nJ bZ) dD)) (U (vt "heap"))) (aq 14 (U (wW (bo 14)))) cN)
  (cf (bB (bo 11) (U (b0 cz (v1 (vv 14))))))))))
def g_ (h:Str->GF):ES:=(ag (aq 2 (df a8))
  (ag (aq 3 (U (bL (h "_law_families") (v1 bI))))
  (ag (bE (q_ cD) (aY [ai 4,ai 5]) (dO h))
  (ag (aq 11 (df a8))
  (ag (bE (q_ (bL (h "_law_pairs") (v1 bI))) (aY [ai 12,ai 13]) (dL h))
  (au (U (aP (v2 (b0 cz (v1 b_)) (b0 cz (v1 j1)))))))))))
theorem o9:EQ "_law_standing" 2 16 g_:=λ_=>by kernel_rfl
def gh(h:Str->GF):ES:=(cf (gN gj (cK (aW (v1 b_)) (Y cD ce))))
def lp (h:Str->GF):ES:=(ag (aq 1 (df a8))
  (ag (bE (q_ (Y bC bZ)) (aY [ai 2,ai 3]) (gh h))
  (au gj)))
theorem p7:EQ "families_of" 1 4 lp:=λ_=>by kernel_rfl
def f_ (h:Str->GF):ES:=(b8 (aK BF (U (Y cD bZ))) (ag (aq 6 (U (aX (iI (dq gj)) [] 1 (ai 7) (jd (eT yg tt) (aK (U (Y bI j0)) (U (Y cD ce)))) j0)))
  (cf (gN gq (aX (fK g6) [] 1 (ai 7) dF (aP (v3 cD gB j0)))))) cN)
def lm(h:Str->GF):ES:=(bE (q_ bI) (aY [ai 4,ai 5]) (f_ h))
def oA (h:Str->GF):ES:=(ag (aq 1 (U (aX (fK (bL (h "families_of") (v1 bC))) [] 1 (ai 7) dF (Y (Y (Y bC bZ) j0) bZ))))
  (ag (aq 2 (df a8))
  (ag (bE (fK (Y bC ce)) (ai 3) (lm h))
  (au gq))))
theorem wr:EQ "pairs_of" 1 7 oA:=λ_=>by kernel_rfl
def lf (h:Str->GF):ES:=(ag (aq 3 (U (Y (Y (Y bC bZ) b_) gY)))
  (ag (aq 4 (U (Y (Y (Y bC bZ) b_) lx)))
  (cf (bB gj (U (aP (v3 bZ (b0 cz (v1 (aX (fK cD) [] 1 (ai 5) dF (Y iy gY)))) (cK (aP (v1 (vi (-1)))) (dq tt)))))))))
def uH (h:Str->GF):ES:=(ag (aq 1 (df a8))
  (ag (bE (fK (bL (h "families_of") (v1 bC))) (ai 2) (lf h))
  (au (U (aP (v2 (b0 cz (v1 bI)) (cK (aP (v1 (aP a8))) (dq (U (bL (h "pairs_of") (v1 bC)))))))))))
theorem DB:EQ "begin" 1 5 uH:=λ_=>by kernel_rfl
def k8 (h:Str->GF):ES:=(ag (aq 3 (U (Y (Y bI bZ) (aB bC (dq (U (Y bI bZ)))))))
  (ag (aq 4 (U (aX (fK (Y cD gY)) [] 1 (ai 11) dF (Y j1 bZ))))
  (ag (aq 5 (U (Y (ao (aW (v1 (vt ""))) (Y cD dD)) (aB (aD bC dD) (ao (dq (U (Y cD dD))) ce)))))
  (ag (aq 6 (U (bL (h "_law_condition") (v2 (aB (aD bC (vi 12)) (vi 27000)) gB))))
  (ag (aq 7 (U (Y (aW (v6 (vt "=") (vt "!=") (vt "<") (vt "<=") (vt ">") (vt ">="))) (aB (aD bC (vi 360)) (vi 6)))))
  (ag (aq 8 (U (aB (aD bC (vi 2160)) lx)))
  (ag (aq 9 (U (aB (aD bC (vi 8640)) (vi 6))))
  (ag (b8 (aK (bo 9) (U bZ)) (au (U (aP (v4 (vt "all") (Y cD bZ) iy g6)))) cN)
  (ag (b8 (aK (bo 9) (U ce)) (au (U (aP (v6 (vt "many") (Y cD bZ) iy g6 j0 lv)))) cN)
  (ag (b8 (aK (bo 9) (U dD)) (ag (aq 10 (U (Y (Y bI bZ) (aB (aD bC lx) (dq (U (Y bI bZ)))))))
  (au (U (aP (v6 (vt "letters") (Y cD bZ) (Y gp bZ) (Y (aW (v3 (vt "") (vt "ma") (vt "mb"))) (aB (aD bC (vi 24)) gY)) j0 lv))))) cN)
  (ag (b8 (aK (bo 9) (U gY)) (au (U (aP (v1 (vt "dry"))))) cN)
  (ag (b8 (aK (bo 9) (U lx)) (au (U (aP (v1 (vt "true"))))) cN)
  (au (U (aP (v4 (vt "some") (Y cD bZ) iy g6))))))))))))))))
theorem wv:EQ "_law_part" 3 11 k8:=λ_=>by kernel_rfl
def fF (h:Str->GF):ES:=(ag (aq 5 (U (bL (h "_law_mix") (v2 (bL (h "_law_cell_at") (v2 bC b_)) (ao gY cD)))))
  (ag (aq 6 (U (aB iy yH)))
  (ag (b8 (tX (bV (rT cD (vi 6))) (bV (nK g6 dD))) (au (U (bL (h "_law_part") (v3 (aD iy yH) bI gB)))) cN)
  (ag (b8 (aK CT (U dD)) (au (U (aP (v2 (vt "not") (bL (h "_law_fact") (v5 bC bI b_ (ao (cK dD cD) ce) gB)))))) cN)
  (ag (b8 (tX (bV (nK g6 pV)) (jc (bT tt))) (ag (aq 7 (U (Y (aW (v2 (vt "and") (vt "or"))) (aB (aD iy yH) dD))))
  (ag (aq 8 (U (bL (h "_law_fact") (v5 bC bI b_ (ao (cK dD cD) ce) gB))))
  (au (U (aP (v3 j0 lv (bL (h "_law_fact") (v5 bC bI b_ (ao (cK dD cD) dD) gB)))))))) cN)
  (ag (aq 9 (U (Y (Y (Y bI bZ) (aB (aD iy yH) (dq (U (Y bI bZ))))) bZ)))
  (ag (aq 7 (U (Y (aW (v2 (vt "some knows") (vt "each knows"))) (aB (aD iy (vi 16)) dD))))
  (au (U (aP (v3 j0 jC (bL (h "_law_fact") (v5 bC bI b_ (ao (cK dD cD) ce) gB)))))))))))))
theorem i':EQ "_law_fact" 5 10 fF:=λ_=>by kernel_rfl
def kc (h:Str->GF):ES:=(ag (b8 (aK cC (U (vt "="))) (au (U (cP Cu gj gq))) cN)
  (ag (b8 (aK cC (U (vt "!="))) (au (U (cP Hl gj gq))) cN)
  (ag (b8 (aK cC (U (vt "<"))) (au (U (nK bI b_))) cN)
  (ag (b8 (aK cC (U (vt "<="))) (au (U (Kk bI b_))) cN)
  (ag (b8 (aK cC (U (vt ">"))) (au (U (rT bI b_))) cN)
  (au (U (BE bI b_))))))))
theorem o_:EQ "_law_relation" 3 3 kc:=λ_=>by kernel_rfl
def eN (h:Str->GF):ES:=(ag (b8 (aK (U (Y bC bZ)) (U (vt "number"))) (au (U (Y bC ce))) cN)
  (ag (b8 (aK (U (Y bC bZ)) (U (vt "name"))) (au (U (Y bI (Y bC ce)))) cN)
  (ag (aq 2 (U (bL (h "_law_value") (v2 (Y bC ce) bI))))
  (ag (aq 3 (U (bL (h "_law_value") (v2 (Y bC dD) bI))))
  (ag (b8 (aK (U (Y bC bZ)) (U (vt "plus"))) (au (U (ao b_ cD))) cN)
  (ag (b8 (aK (U (Y bC bZ)) (U (vt "minus"))) (au (U (lw b_ cD))) cN)
  (au (U (cK b_ cD)))))))))
theorem fO:EQ "_law_value" 2 4 eN:=λ_=>by kernel_rfl
def fC (h:Str->GF):ES:=(ag (b8 (aK (U (Y bC bZ)) (U (vt "true"))) (au (U (vC (.bl true)))) cN)
  (ag (b8 (aK (U (Y bC bZ)) (U (vt "not"))) (au (U (vB (jc (bV (bL (h "_law_true") (v2 (Y bC ce) bI))))))) cN)
  (ag (b8 (aK (U (Y bC bZ)) (U (vt "is"))) (au (U (bL (h "_law_relation") (v3 (Y bC ce) (bL (h "_law_value") (v2 (Y bC dD) bI)) (bL (h "_law_value") (v2 (Y bC gY) bI)))))) cN)
  (ag (aq 2 (U (bL (h "_law_true") (v2 (Y bC ce) bI))))
  (ag (aq 3 (U (bL (h "_law_true") (v2 (Y bC dD) bI))))
  (ag (b8 (aK (U (Y bC bZ)) (U (vt "and"))) (au (U (vB (jd (bV b_) (bV cD))))) cN)
  (au (U (vB (tX (bV b_) (bV cD)))))))))))
theorem gM:EQ "_law_true" 2 4 fC:=λ_=>by kernel_rfl
def gQ(h:Str->GF):ES:=(jq gq (Y cD bZ) gB)
def lJ (h:Str->GF):ES:=(ag (aq 2 my)
  (ag (bE (JE (Y bC gY) (Y bI ce)) (aY [ai 3,ai 4]) (gQ h))
  (au gq)))
theorem sQ:EQ "_law_values" 2 5 lJ:=λ_=>by kernel_rfl
def oD (h:Str->GF):ES:=(ag (aq 5 (U (Y (bL (h "_law_families") (v1 bC)) b_)))
  (ag (aq 6 (U (Y (Y bI bZ) b_)))
  (au (U (vB (jd (bV (cP i_ nL (U (aW (v2 (vt "") (Y (Y iy dD) (Y g6 bZ))))))) (bV (bL (h "_law_true") (v2 gB (bL (h "_law_values") (v2 iy g6)))))))))))
theorem wy:EQ "_law_fits" 5 7 oD:=λ_=>by kernel_rfl
def lc (h:Str->GF):ES:=(ag (b8 (aK gj (U (vt "lose"))) (au (U (Y bC lx))) cN)
  (au (U (vB (jd (bV (Y bC pV)) (bV (nK (dq gq) (Y bC gY))))))))
theorem oe:EQ "has_flaw" 3 3 lc:=λ_=>by kernel_rfl
def g9 (h:Str->GF):ES:=(ag (aq 2 (U (Oq (dq gj))))
  (ag (b8 (aK cC (U (vt "row"))) (au gq) cN)
  (au (U (aX (fK b_) [] 1 (ai 3) (aK (U (yK bI (Y bI cD))) nL) cD)))))
theorem j9:EQ "unlike_spots" 2 3 g9:=λ_=>by kernel_rfl
def oz(h:Str->GF):ES:=(au (U (ao (ao (kH bC gH (fJ bI)) (aP (v1 b_))) (kH bC (fJ (ao bI ce)) gH))))
theorem wq:EQ "replaced" 3 3 oz:=λ_=>by kernel_rfl
def pU(h:Str->GF):ES:=(au (U (ao (kH bC gH (fJ bI)) (kH bC (fJ (ao bI ce)) gH))))
theorem xS:EQ "without" 2 2 pU:=λ_=>by kernel_rfl
def nj (h:Str->GF):ES:=(ag (b8 (aK cC (U (vt "lose"))) (au (U (bL (h "without") (v2 bI b_)))) cN)
  (au (U (ao (kH bI gH (fJ (ao b_ ce))) (kH bI (fJ b_) gH)))))
theorem sS:EQ "flawed" 3 3 nj:=λ_=>by kernel_rfl
def hY (h:Str->GF):ES:=(ag (aq 11 (U (bL (h "replaced") (v3 (Y bI ce) gB (bL (h "flawed") (v3 b_ jC gp))))))
  (cf (bB nL (U (aP (v2 (aP (v4 b_ j0 lv gp)) (aP (v2 (Y bI bZ) j1))))))))
def fH (h:Str->GF):ES:=(ag (vT (aY [ai 6,ai 7,ai 8]) iy)
  (ag (aq 9 (U (Y (Y bI ce) gB)))
  (b8 (bT (U (bL (h "has_flaw") (v3 g6 b_ jC)))) (bE (fK (bL (h "unlike_spots") (v2 (Y g6 dD) jC))) (ai 10) (hY h)) cN)))
def iw (h:Str->GF):ES:=(ag (aq 3 (df a8))
  (ag (bE (q_ (vE (cc (aT Att) cC "pairs"))) (aY [ai 4,ai 5]) (fH h))
  (au nL)))
theorem tT:Ph 13 "flaw_ends"=m5 3 12 (iw (Ph 12)):=by kernel_rfl
def mj(h:Str->GF):ES:=(au (oK (cc (aT Att) cC "families") (vE (oK (cc (aT Att) cC "homes") bI))))
theorem iV:EQ "Board.family_of" 2 2 mj:=λ_=>by kernel_rfl
def mE(h:Str->GF):ES:=(au (zr (aX (fK (Y bC gY)) [] 1 (ai 2) dF (Y b_ bZ)) bI))
theorem tK:EQ "values_of" 2 2 mE:=λ_=>by kernel_rfl
def cY (h:Str->GF):ES:=(ag (b8 (aK cC (U (vt "="))) (au (U (cP Cu gj gq))) cN)
  (ag (b8 (aK cC (U (vt "!="))) (au (U (cP Hl gj gq))) cN)
  (ag (b8 (aK cC (U (vt "<"))) (au (U (nK bI b_))) cN)
  (ag (b8 (aK cC (U (vt "<="))) (au (U (Kk bI b_))) cN)
  (ag (b8 (aK cC (U (vt ">"))) (au (U (rT bI b_))) cN)
  (au (U (BE bI b_))))))))
theorem og:EQ "compared" 3 3 cY:=λ_=>by kernel_rfl
def fB (h:Str->GF):ES:=(ag (aq 2 (U (Y bC bZ)))
  (ag (b8 (aK gq (U (vt "number"))) (au (U (Y bC ce))) cN)
  (ag (b8 (aK gq (U (vt "name"))) (au (U (Y bI (Y bC ce)))) cN)
  (ag (aq 3 (U (bL (h "value_of") (v2 (Y bC ce) bI))))
  (ag (aq 4 (U (bL (h "value_of") (v2 (Y bC dD) bI))))
  (ag (b8 (aK gq (U (vt "plus"))) (au (U (ao cD gB))) cN)
  (ag (b8 (aK gq (U (vt "minus"))) (au (U (lw cD gB))) cN)
  (au (U (cK cD gB))))))))))
theorem gL:EQ "value_of" 2 5 fB:=λ_=>by kernel_rfl
def hX (h:Str->GF):ES:=(ag (aq 2 (U (Y bC bZ)))
  (ag (b8 (aK gq (U (vt "true"))) (au (U (vC (.bl true)))) cN)
  (ag (b8 (aK gq (U (vt "not"))) (au (U (vB (jc (bV (bL (h "holds") (v2 (Y bC ce) bI))))))) cN)
  (ag (b8 (aK gq (U (vt "and"))) (au (U (vB (jd (bV (bL (h "holds") (v2 (Y bC ce) bI))) (bV (bL (h "holds") (v2 (Y bC dD) bI))))))) cN)
  (ag (b8 (aK gq (U (vt "or"))) (au (U (vB (tX (bV (bL (h "holds") (v2 (Y bC ce) bI))) (bV (bL (h "holds") (v2 (Y bC dD) bI))))))) cN)
  (au (U (bL (h "compared") (v3 (Y bC ce) (bL (h "value_of") (v2 (Y bC dD) bI)) (bL (h "value_of") (v2 (Y bC gY) bI)))))))))))
theorem jf:EQ "holds" 2 3 hX:=λ_=>by kernel_rfl
def gW(h:Str->GF):ES:=(au (U (aX (fK (vE (oK (cc (aT Att) cC "members") b_))) [] 1 (ai 3) (eT nL gj) cD)))
theorem kS:EQ "Board.hands_beside" 3 3 gW:=λ_=>by kernel_rfl
def f6 (h:Str->GF):ES:=(ag (aq 6 (xU (cc (aT Att) cC "places") (v2 iy b_)))
  (ag (aq 7 (oK (oK (oK (cc (aT Att) cC "pairs") g6) bZ) dD))
  (ag (aq 8 (U (Y bI g6)))
  (ag (aq 9 (U (Ot (aK yg (U (vt "row"))) (kH (Oq (dq wN)) gH (fJ ce)) (bL (h "unlike_spots") (v2 j0 lv)))))
  (cf (gN tt (aX (fK jC) [] 1 (ai 10) (aK (U (Y (Y lv gp) bZ)) (U (Y cD bZ))) (aP (v2 iy gp)))))))))
def kY (h:Str->GF):ES:=(ag (b8 (bV (cP tH nL (U (vC (.non))))) (au (U (aW (v1 (vC (.non)))))) cN)
  (ag (aq 4 (df a8))
  (ag (bE (fK (vE (dU (mT Tb h) cC "hands_beside" (rV gq (U (Y cD ce)))))) (ai 5) (f6 h))
  (au tt))))
theorem nZ:EQ "takeable" 4 10 kY:=λ_=>by kernel_rfl
def iW(h:Str->GF):ES:=(jq tt iy (bL (h "value_of") (v2 g6 cD)))
def br (h:Str->GF):ES:=(ag (aq 10 (U (ED gB (Y jC bZ) (Y bI lv))))
  (ag (b8 (jd (bV (cP i_ (U (Y jC bZ)) tt)) (jc (bV (oR Qe Qe (Y jC ce) gp (Y jC dD))))) (au (U (vC (.non)))) cN)
  (cf (bB yg i8))))
def hZ (h:Str->GF):ES:=(ag (aq 4 my)
  (ag (bE (fK (Y b_ lx)) (aY [ai 5,ai 6]) (iW h))
  (ag (b8 (jd (bV (cP eF (U (Y b_ gY)) (U (vC (.non))))) (eT (U (Y (Y b_ gY) dD)) (U (vt "")))) (jq tt (Y (Y b_ gY) dD) (Y cD (vt "it"))) cN)
  (ag (aq 7 (df a8))
  (ag (bE (q_ (Y bC gY)) (aY [ai 8,ai 9]) (br h))
  (au (U (b0 cz (v1 j0)))))))))
theorem j_:EQ "cells_behind" 4 11 hZ:=λ_=>by kernel_rfl
def fZ (h:Str->GF):ES:=(ag (b8 (tX (bV (cP tH gq (U (vC (.non))))) (aK (U (Y b_ gY)) (U (vt "")))) (au gj) cN)
  (au (U (bL (h "replaced") (v3 bI (yK (Y bC lx) (Y b_ gY)) (Y cD bZ))))))
theorem iJ:EQ "whos_behind" 4 4 fZ:=λ_=>by kernel_rfl
def gO (h:Str->GF):ES:=(ag (b8 (aK gq (U (vt "who"))) (au (U (aW (v1 (aP (v2 (aP a8) (aW (v1 (Y gB (yK (Y (vE (dU (mT Tb h) cC "family_of" (DO gj))) lx) cD)))))))))) cN)
  (ag (aq 5 (dU (mT Tb h) cC "hands_beside" (rV gj nL)))
  (ag (b8 (aK gq (U (vt "all"))) (au (U (aW (v1 (aP (v2 (aP a8) iy)))))) cN)
  (au (U (aX (fK iy) [] 1 (ai 6) dF (aP (v2 (aP (v1 g6)) (aW (v1 g6))))))))))
theorem jw:EQ "targets_of" 5 6 gO:=λ_=>by kernel_rfl
def ir (h:Str->GF):ES:=(ag (aq 6 (uu (cc (aT Att) cC "places") (v2 b_ iy)))
  (ag (b8 (tX (bV (cP tH CT (U (vC (.non))))) (bV (rT (b0 pT (v1 (Y gB ce))) (vi 999)))) (au (U (vC (.non)))) cN)
  (ag (aq 7 (oK (oK (cc (aT Att) cC "pairs") g6) bZ))
  (ag (b8 (bV (BE (dq (U (Y bI g6))) (Y j0 gY))) (au (U (vC (.non)))) cN)
  (ag (aq 8 (U (ao (Y bI g6) (aP (v1 gB)))))
  (ag (b8 (aK (U (Y j0 dD)) (U (vt "heap"))) (aq 8 (U (b0 cz (v1 (wW wN))))) cN)
  (aq 1 (U (bL (h "replaced") (v3 bI g6 lv))))))))))
def nc (h:Str->GF):ES:=(ag (bE (fK cD) (ai 5) (ir h))
  (au gj))
theorem sP:EQ "posted" 5 9 nc:=λ_=>by kernel_rfl
def iM (h:Str->GF):ES:=(ag (aq 17 (U (cv (h "posted") (K9 cC (bo 14) gj (bo 16) (bo 11)))))
  (b8 (bV (cP eF (bo 17) (U (vC (.non))))) (cf (bB (bo 12) (U (aP (v2 (ao nJ (vv 15)) (vv 17)))))) cN))
def f8(h:Str->GF):ES:=(bE (fK (cv (h "targets_of") (K9 cC gj (bo 9) i8 BF))) (aY [ai 15,ai 16]) (iM h))
def iL (h:Str->GF):ES:=(ag (aq 11 (U (aP (v2 j0 (bL (h "value_of") (v2 lv cD))))))
  (ag (aq 12 (df a8))
  (ag (bE (fK g6) (aY [ai 13,ai 14]) (f8 h))
  (aq 6 (bo 12)))))
def oy (h:Str->GF):ES:=(ag (aq 6 (U (aW (v1 (aP (v2 (aP a8) gB))))))
  (ag (bE (fK b_) (aY [ai 7,ai 8,ai 9,ai 10]) (iL h))
  (au CT)))
theorem wo:EQ "sendings" 6 18 oy:=λ_=>by kernel_rfl
def ka(h:Str->GF):ES:=(cf (bB (bo 13) (U (aP (v2 (aP (v5 (vt "step") b_ (Y cD bZ) gB (vv 14))) (aP (v2 mN (vv 15))))))))
def fP (h:Str->GF):ES:=(ag (aq 5 (dU (mT Tb h) cC "family_of" (DO gq)))
  (ag (vT (aY [ai 6,ai 7,ai 8]) (Y (Y bI bZ) b_))
  (ag (aq 9 (U (Y bI ce)))
  (ag (aq 10 (eI (h "values_of") (rV BF yg)))
  (ag (b8 (bV (cP eF tt (U (vC (.non))))) (ag (aq 11 (xU (cc (aT Att) cC "places") (v2 (Y gB bZ) b_)))
  (ag (jq i8 (vt "it") (Y (Y (Y jC j1) (Y gB ce)) ce))
  (aq 9 (U (bL (h "replaced") (v3 jC j1 (bL (h "without") (v2 (Y jC j1) (Y gB ce))))))))) cN)
  (ag (aq 7 (U (bL (h "cells_behind") (v4 iy j0 cD gp))))
  (ag (b8 (bV (cP tH yg (U (vC (.non))))) (au (U (aW a8))) cN)
  (ag (aq 8 (U (bL (h "whos_behind") (v4 iy lv (Y cD gY) gB))))
  (ag (aq 12 (U (bL (h "replaced") (v3 (Y bI bZ) b_ (aP (v3 (yK (Y iy dD) (Y cD (vi 6))) j0 lv))))))
  (ag (aq 13 (df a8))
  (ag (bE (fK (cv (h "sendings") (S_ cC gq (U (Y cD pV)) i8 (bo 9) wN))) (aY [ai 14,ai 15]) (ka h))
  (au (bo 13)))))))))))))
theorem mx:EQ "step_ends" 5 16 fP:=λ_=>by kernel_rfl
def kh(h:Str->GF):ES:=(cf (gN wN (cv (h "step_ends") (K9 cC gj gq (bo 9) i8))))
def fG(h:Str->GF):ES:=(b8 (jd (aK (U (Y jC ce)) (U (Y (Y cD dD) gB))) (bT (U (bL (h "holds") (v2 (Y jC dD) j0))))) (bE (fK (cv (h "takeable") (QB cC (U (Y bI ce)) gq (U (Y jC gY))))) (ai 10) (kh h)) cN)
def iu (h:Str->GF):ES:=(ag (aq 3 (dU (mT Tb h) cC "family_of" (DO gq)))
  (ag (vT (aY [ai 4,ai 5,ai 6]) (Y (Y bI bZ) b_))
  (ag (aq 7 (U (bL (h "values_of") (v2 cD iy))))
  (ag (aq 8 (df a8))
  (ag (bE (fK (Y cD pV)) (ai 9) (fG h))
  (au wN))))))
theorem tS:Ph 13 "hand_ends"=m5 3 11 (iu (Ph 12)):=by kernel_rfl
def lM(h:Str->GF):ES:=(cf (gN gq (cv (h "hand_ends") (yI cC gj nL))))
def lN (h:Str->GF):ES:=(ag (aq 2 (df a8))
  (ag (bE (iI (dq (cc (aT Att) cC "homes"))) (ai 3) (lM h))
  (ag (cf (gN gq (cv (h "flaw_ends") (yI cC gj (U (vt "lose"))))))
  (ag (cf (gN gq (cv (h "flaw_ends") (yI cC gj (U (vt "double"))))))
  (au gq)))))
theorem xT:Ph 14 "ends_on"=m5 2 4 (lN (Ph 13)):=by kernel_rfl
def cV(h:Str->GF):ES:=(cf (bB (oh (cc (aT Att) (bo 0) "members") (qQ sW (vE (dU (mT Tb h) (bo 0) "family_of" (bY (bo 4) jT))) (vi 0)) (df a8)) (bo 4)))
def gU(h:Str->GF):ES:=(E8 (cc (aT Att) cC "places") (v2 (Y cD ce) (Y cD dD)) b_)
def jB (h:Str->GF):ES:=(ag (iU (aT Att) cC "families" (U (Y bI bZ)))
  (ag (iU (aT Att) cC "homes" (eI (h "families_of") (DO gj)))
  (ag (iU (aT Att) cC "pairs" (eI (h "pairs_of") (DO gj)))
  (ag (iU (aT Att) cC "places" zt)
  (ag (bE (q_ (vE (cc (aT Att) cC "pairs"))) (aY [ai 2,ai 3]) (gU h))
  (ag (iU (aT Att) cC "members" my)
  (bE (iI (dq (cc (aT Att) cC "homes"))) (ai 4) (cV h))))))))
theorem sU:EQ "Board.__init__" 2 5 jB:=λ_=>by kernel_rfl
def mK(x h:Str->GF):ES:=(au (U (cv (x "ends_on") (rV (oj (h "Board.__init__") "Board" (DO cC)) gj))))
theorem tU(n:Nat):Ph (n+2) "ends_from"=m5 2 2 (mK (Ph (n+1)) (Ph n)):=by kernel_rfl
def uG(h:Str->GF):ES:=(au (U (aX (fK (bL (h "ends_from") (v2 bC bI))) [] 1 (ai 2) dF (Y b_ bZ))))
theorem DA:EQ "deeds" 2 2 uG:=λ_=>by kernel_rfl
def hU(h:Str->GF):ES:=(b8 (aK (U (kH (Y iy bZ) gH (fJ dD))) (U (kH b_ (fJ ce) (fJ gY)))) (aq 3 (U (ao cD (dq (U (aX (fK (Y (Y bI ce) gB)) [] 1 (ai 6) (bV (cP i_ (U (Y b_ gY)) (U (aW (v2 (vt "") (Y g6 bZ)))))) g6)))))) cN)
def mI (h:Str->GF):ES:=(ag (aq 3 (U bZ))
  (ag (bE (q_ (bL (h "_law_pairs") (v1 bC))) (aY [ai 4,ai 5]) (hU h))
  (au nL)))
theorem tP:EQ "_law_count" 3 6 mI:=λ_=>by kernel_rfl
def eO (h:Str->GF):ES:=(ag (b8 (aK (U (Y b_ bZ)) (U (vt "true"))) (au (U (vC (.bl true)))) cN)
  (ag (b8 (aK (U (Y b_ bZ)) (U (vt "dry"))) (au (U (cP Cu (U (bL (h "deeds") (v2 bC bI))) (U (aW a8))))) cN)
  (ag (b8 (aK (U (Y b_ bZ)) (U (vt "letters"))) (au (U (bL (h "_law_relation") (v3 (Y b_ lx) (bL (h "_law_count") (v3 bC bI b_)) (Y b_ pV))))) cN)
  (ag (aq 3 (U (aX (fK (bL (h "_law_crew") (v2 bC (Y b_ ce)))) [] 1 (ai 4) dF (bL (h "_law_fits") (v5 bC bI gB (Y b_ dD) (Y b_ gY))))))
  (ag (b8 (aK (U (Y b_ bZ)) (U (vt "some"))) (au (U (cP i_ (U (vC (.bl true))) nL))) cN)
  (ag (b8 (aK (U (Y b_ bZ)) (U (vt "all"))) (au (U (cP j4 (U (vC (.bl false))) nL))) cN)
  (au (U (bL (h "_law_relation") (v3 (Y b_ lx) (Lq cD (vC (.bl true))) (Y b_ pV)))))))))))
theorem ip:EQ "_law_plain" 3 4 eO:=λ_=>by kernel_rfl
def p_ (h:Str->GF):ES:=(ag (aq 6 (U (aX (fK bI) [] 1 (ai 7) (aK (U (Y (Y j0 bZ) iy)) (U (Y (Y b_ bZ) iy))) j0)))
  (cf (bB tt (U (cP j4 (U (vC (.bl false))) (U (aX (fK g6) [] 1 (ai 7) dF (bL (h "_law_held") (v4 bC bI j0 (Y cD dD))))))))))
def gR (h:Str->GF):ES:=(ag (b8 (aK (U (Y cD bZ)) (U (vt "not"))) (au (U (vB (jc (bV (bL (h "_law_held") (v4 bC bI b_ (Y cD ce)))))))) cN)
  (ag (b8 (aK (U (Y cD bZ)) (U (vt "and"))) (au (U (vB (jd (bV (bL (h "_law_held") (v4 bC bI b_ (Y cD ce)))) (bV (bL (h "_law_held") (v4 bC bI b_ (Y cD dD)))))))) cN)
  (ag (b8 (aK (U (Y cD bZ)) (U (vt "or"))) (au (U (vB (tX (bV (bL (h "_law_held") (v4 bC bI b_ (Y cD ce)))) (bV (bL (h "_law_held") (v4 bC bI b_ (Y cD dD)))))))) cN)
  (ag (b8 (bV (cP j4 (U (Y cD bZ)) (U (aW (v2 (vt "some knows") (vt "each knows")))))) (au (U (bL (h "_law_plain") (v3 bC b_ cD)))) cN)
  (ag (aq 4 (df a8))
  (ag (bE (fK (bL (h "_law_crew") (v2 bC (Y cD ce)))) (ai 5) (p_ h))
  (au (U (Y (aW (v2 (cP j4 (U (vC (.bl false))) tt) (cP i_ (U (vC (.bl true))) tt))) (b0 cW (v1 (cP Cu (U (Y cD bZ)) (U (vt "some knows"))))))))))))))
theorem kQ:EQ "_law_held" 4 7 gR:=λ_=>by kernel_rfl
def nh (h:Str->GF):ES:=(ag (b8 (aK cC (U (vt "and"))) (au (iF (aX (JE bI b_) [] 2 (aY [ai 3,ai 4]) dF (vB (jd (bV cD) (bV gB)))))) cN)
  (au (iF (aX (JE bI b_) [] 2 (aY [ai 3,ai 4]) dF (vB (tX (bV cD) (bV gB)))))))
theorem zp:EQ "joined" 3 3 nh:=λ_=>by kernel_rfl
def oG (h:Str->GF):ES:=(ag (b8 (jd (eT gq (U (vt ""))) (eT (U (Y (Y bC dD) (Y bI bZ))) gq)) (au (U (vC (.bl false)))) cN)
  (au (U (bL (h "holds") (v2 cD (bL (h "values_of") (v2 bC (Y bI ce))))))))
theorem GN:EQ "fits" 4 4 oG:=λ_=>by kernel_rfl
def eK (h:Str->GF):ES:=(ag (aq 10 (U (kH (Y (Y j0 bZ) jC) gH (fJ dD))))
  (ag (b8 (bV (cP kP i8 BF)) (w5 BF gp (bL (h "fits") (v4 gB gp b_ cD))) cN)
  (b8 (bT (JV BF gp)) (yX 8 ce) cN)))
def eJ (h:Str->GF):ES:=(ag (aq 8 (U bZ))
  (ag (bE (fK bI) (ai 9) (eK h))
  (cf (bB CT wN))))
def fN (h:Str->GF):ES:=(ag (aq 4 (dU (mT Tb h) (cc (aT Att) cC "board") "family_of" (DO (oK gj bZ))))
  (ag (aq 5 zu)
  (ag (aq 6 (df a8))
  (ag (bE (fK (vE (cc (aT Att) cC "standings"))) (ai 7) (eJ h))
  (au CT)))))
theorem mi:EQ "fitting_numbers" 4 11 fN:=λ_=>by kernel_rfl
def iR (h:Str->GF):ES:=(ag (vT (aY [ai 2,ai 3,ai 4,ai 5]) (kH bI gH (fJ lx)))
  (ag (aq 6 (oK (cc (aT Att) (cc (aT Att) cC "board") "members") cD))
  (ag (aq 7 (U (cv (h "fitting_numbers") (QB cC CT tt BF))))
  (ag (b8 (aK gq (U (vt "some"))) (au (iF (aX (fK j0) [] 1 (ai 8) dF (rT lv bZ)))) cN)
  (ag (b8 (aK gq (U (vt "all"))) (au (iF (aX (fK j0) [] 1 (ai 8) dF (cP Cu wN (U (dq CT)))))) cN)
  (au (iF (aX (fK j0) [] 1 (ai 8) dF (bL (h "compared") (v3 (Y bI lx) lv (Y bI pV)))))))))))
theorem p6:EQ "hand_truths" 2 8 iR:=λ_=>by kernel_rfl
def fj(h:Str->GF):ES:=(yX 3 (dq (U (aX (fK (Y (Y bC ce) gB)) [] 1 (ai 5) (tX (aK gq (U (vt ""))) (aK (U (Y iy bZ)) gq)) iy))))
def jW (h:Str->GF):ES:=(ag (aq 3 (U bZ))
  (ag (bE (fK bI) (ai 4) (fj h))
  (au nL)))
theorem oa:EQ "letter_number" 3 5 jW:=λ_=>by kernel_rfl
def gP (h:Str->GF):ES:=(ag (vT (aY [ai 2,ai 3,ai 4,ai 5,ai 6]) (kH bI (fJ ce) gH))
  (ag (aq 7 (U (aX (q_ (vE (cc (aT Att) (cc (aT Att) cC "board") "pairs"))) [] 2 (aY [ai 8,ai 9]) (aK (U (kH (Y jC bZ) gH (fJ dD))) (U (aP (v2 b_ cD)))) lv)))
  (au (iF (aX (fK (vE (cc (aT Att) cC "standings"))) [] 1 (ai 8) dF (bL (h "compared") (v3 iy (bL (h "letter_number") (v3 lv j0 gB)) g6)))))))
theorem n_:EQ "letter_truths" 2 8 gP:=λ_=>by kernel_rfl
def fQ(h:Str->GF):ES:=(b8 (bT (U (cv (h "hand_ends") (yI cC gj gq)))) (au (U (vC (.bl false)))) cN)
def ni (h:Str->GF):ES:=(ag (bE (iI (dq (cc (aT Att) cC "homes"))) (ai 2) (fQ h))
  (au (U (CV (cv (h "flaw_ends") (yI cC gj (U (vt "lose")))) (cv (h "flaw_ends") (yI cC gj (U (vt "double"))))))))
theorem zq:EQ "is_dry" 2 3 ni:=λ_=>by kernel_rfl
def fq (h:Str->GF):ES:=(ag (b8 (bV (cP tH (cc (aT Att) cC "dries") (U (vC (.non))))) (iU (aT Att) cC "dries" (U (aX (fK (vE (cc (aT Att) cC "standings"))) [] 1 (ai 1) dF (cv (h "is_dry") (rV (cc (aT Att) cC "board") gj))))) cN)
  (au (xV (vE (cc (aT Att) cC "dries")))))
theorem lG:EQ "Scene.dry_truths" 1 1 fq:=λ_=>by kernel_rfl
def bD (h:Str->GF):ES:=(ag (aq 2 (U (Y bI bZ)))
  (ag (b8 (aK gq (U (vt "true"))) (au (JU (aW (v1 (vC (.bl true)))) (dq (cc (aT Att) cC "standings")))) cN)
  (ag (b8 (aK gq (U (vt "not"))) (au (iF (aX (fK (cv (h "truths_in") (rV cC (U (Y bI ce))))) [] 1 (ai 3) dF (vB (jc (bV cD)))))) cN)
  (ag (b8 (bV (cP i_ gq (U (aP (v2 (vt "and") (vt "or")))))) (au (eI (h "joined") (yI gq (U (cv (h "truths_in") (rV cC (U (Y bI ce))))) (U (cv (h "truths_in") (rV cC (U (Y bI dD)))))))) cN)
  (ag (b8 (bV (cP i_ gq (U (vC (.tup [.str "some",.str "all",.str "many"]))))) (au (eI (h "hand_truths") (rV cC gj))) cN)
  (ag (b8 (aK gq (U (vt "letters"))) (au (eI (h "letter_truths") (rV cC gj))) cN)
  (ag (b8 (aK gq (U (vt "dry"))) (au (dU (mT Tb h) cC "dry_truths" jT)) cN)
  (au (eI (h "knowing_truths") (rV cC gj))))))))))
theorem eM:EQ "truths_in" 2 3 bD:=λ_=>by kernel_rfl
def jA (x h:Str->GF):ES:=(ag (iU (aT Att) cC "board" (oj (h "Board.__init__") "Board" (DO gj)))
  (ag (iU (aT Att) cC "standings" gq)
  (ag (iU (aT Att) cC "around" (QV (bV (cP tH nL (U (vC (.non))))) cC nL))
  (iU (aT Att) cC "dries" (U (vC (.non)))))))
theorem sT(n:Nat):Ph (n+2) "Scene.__init__"=m5 4 4 (jA (Ph (n+1)) (Ph n)):=by kernel_rfl
def m_(x h:Str->GF):ES:=(au (eI (x "truths_in") (rV (oj (gD (h "Scene.__init__")) "Scene" (rV cC gq)) gj)))
theorem zo(n:Nat):Ph (n+2) "truths"=m5 3 3 (m_ (Ph (n+1)) (Ph n)):=by kernel_rfl
def oF(h:Str->GF):ES:=(au (U (Y (bL (h "truths") (v3 bC bI (aW (v1 b_)))) bZ)))
theorem wA:EQ "holds_at" 3 3 oF:=λ_=>by kernel_rfl
def ng (h:Str->GF):ES:=(ag (aq 8 (U (bL (h "holds_at") (v3 (Y cD bZ) iy jC))))
  (b8 (tX (jc (bT (U (jJ "bool" wN)))) (eT wN i8)) (au (U (vC (.bl false)))) cN))
def k_ (h:Str->GF):ES:=(ag (aq 8 (eI (h "truths") (yI (U (Y cD bZ)) BF (U (Y cD ce)))))
  (ag (b8 (tX (jc (bT (U (jJ "list" wN)))) (tX (eT wN CT) (eT (U (rY wN [10] 0 (ai 10) (jc (bT (U (jJ "bool" i8)))) gp)) (U (aW a8))))) (au (U (vC (.bl false)))) cN)
  (cf (bB wN (U (vC (.bl true)))))))
def k9 (h:Str->GF):ES:=(ag (aq 5 (U (bL (h "_law_fact") (v5 bC bI gB bZ (vC (.bl false))))))
  (ag (aq 6 (U (aX (fK b_) [9] 0 (ai 9) dF (bL (h "_law_held") (v4 bI (aW a8) jC iy)))))
  (ag (bE (iI dD) (ai 7) (k_ h))
  (ag (b8 (eT (U (bL (h "truths") (v3 (Y cD bZ) (aP (v2 (vt "not") iy)) (Y cD ce)))) (U (aX (fK g6) [10] 0 (ai 10) dF (vB (jc (bV gp)))))) (au (U (vC (.bl false)))) cN)
  (bE (JE b_ g6) (aY [ai 9,ai 10]) (ng h))))))
def wJ (h:Str->GF):ES:=(ag (aq 1 (U (bL (h "_law_plan") (v2 bC gY))))
  (ag (aq 2 (U (aW (v2 (bL (h "_law_standing") (v2 bC bI)) (bL (h "begin") (v1 bI))))))
  (ag (aq 3 (U (aP (v2 (aP (v3 (b0 jy (v1 (Y bI bZ))) (b0 jy (v1 (Y bI ce))) (b0 jy (v1 (Y bI dD))))) (b0 jy (v1 b_))))))
  (ag (bE (fK (aW (v2 (vi 56) (vi 57)))) (ai 4) (k9 h))
  (au (U (cP Cu nL (U (aP (v2 bI b_))))))))))
theorem JT:EQ "law" 1 11 wJ:=λ_=>by kernel_rfl
variable{a:Type}{m:List a}{n:Nat}
theorem QN(h:m.length=n+1):∃a r,m=a::r/\r.length=n:=by
 cases m with
 |nil=>cases h
 |cons a r=>exact⟨a,r,rfl,Nat.succ.inj h⟩
theorem Tq(h:m.length=1):∃a,m=[a]:=by obtain⟨a,r,rfl,x⟩:=QN h;exact⟨a,by rw[i7 x]⟩
theorem Sr(h:m.length=2):∃a b,m=[a,b]:=by obtain⟨a,r,rfl,x⟩:=QN h;obtain⟨b,rfl⟩:=Tq x;exact⟨a,b,rfl⟩
theorem Sq(h:m.length=3):∃a b c,m=[a,b,c]:=by obtain⟨a,r,rfl,x⟩:=QN h;obtain⟨b,c,rfl⟩:=Sr x;exact⟨a,b,c,rfl⟩
theorem Uf(h:m.length=4):∃a b c d,m=[a,b,c,d]:=by obtain⟨a,r,rfl,x⟩:=QN h;obtain⟨b,c,d,rfl⟩:=Sq x;exact⟨a,b,c,d,rfl⟩
theorem wQ:∀{s:LS}{m:LV},s.Nodup->m.length=s.length->(s.filterMap λn=>((s.zip m).lookup n).map (n,·))=s.zip m/\∀n ∈ s,((s.zip m).lookup n).isNone=false
 | [],m,_,l=>by cases i7 l;simp
 |p::s,[],_,l=>by cases l
 |p::s,u::m,x,l=>by
  obtain⟨k,f⟩:=ci.mp x;obtain⟨i,t⟩:=wQ f (Nat.succ.inj l);have a:∀n ∈ s,(n == p)=false:=λn h=>uY λz=>k (z ▸ h);refine⟨?_,λn r=>?_⟩
  .have c:∀{qs:LS},(∀n ∈ qs,(n == p)=false)->(qs.filterMap λn=>(((p,u)::s.zip m).lookup n).map (n,·))=qs.filterMap λn=>((s.zip m).lookup n).map (n,·):=λ{qs} h=>by
    induction qs with
    |nil=>rfl
    |cons q qs v=>rw[nE,nE,v λn x=>h n (aH _ x)];simp[gx,h q aF]
   rw[vk,List.filterMap_cons_some (b:=(p,u)) (by simp[List.lookup_cons_self]),c a,i]
  .rw [vk];by_cases e:n=p
   .subst e;simp[gx]
   .simp only[gx,uY e];exact t n ((aQ.mp r).resolve_left e)
noncomputable def y1(a:Arguments)(p:LS):Bool:=a.posonlyargs.isEmpty && a.kwonlyargs.isEmpty && a.vararg.isNone && a.kwarg.isNone && decide (a.args.map (·.arg)=p) && decide p.Nodup
theorem G_{f:FuncData}{p:LS}(h:y1 f.params p=true)(hd:f.defaults=.none){m:LV}(l:m.length=p.length):bindArgs f ⟨m,[]⟩=pure (p.zip m):=by
 simp only[y1,av,decide_eq_true_eq,nB,Option.isNone_iff_eq_none]at h;obtain⟨⟨⟨⟨⟨x,a⟩,e⟩,s⟩,k⟩,b⟩:=h;obtain⟨t,q⟩:=wQ b l;have c:(p.filter λn=>((p.zip m).lookup n).isNone)=[]:=A2.mpr λn r=>by simp[q n r]
 have v:p.take p.length=p:=nC;have z:p.drop p.length=[]:=qE;unfold bindArgs;simp only[x,a,e,s,k,hd,eS,eB,eA,l];simp[seqItems?,c,t,z];rfl
theorem sc:Tb.all QG=true:=by decide +kernel
theorem un:(Tb.map (·.name)).Nodup:=by decide +kernel
inductive Fn(K:FG)(x:Str)(st:Stmt):Prop
 |mk (f:Addr) (oc:Value) (od:Option Addr) (kV dc pm:Value) (an:Option Addr) (cd ct:Value) (sl:Array (OV)):oN K mainGlobals x=some (some (.ref f))->K.lookup f=some ⟨oc,od,.func (jZ x x (ja st) (fY st) (bv st) .none kV dc pm an cd ct),sl⟩->rM K cd x=true->iH K (.ref f)=true->Fn K x st
def MB(d:Df):Bool:=d.cls.cps.isEmpty && decide (d.short=d.name) && !Hm.contains d.cls && y1 (ja d.st) d.ps
theorem Si:N0.all MB=true:=by decide +kernel
structure Ck(K:FG)(x:Str)(C:Addr):Prop where
 ns:oN K mainGlobals x=some (some (.ref C))
 get:rO K C Str.empty=true
 dct:vo K C=true
 ovr:yE K C=true
 set:dj K (.ref C) "__setattr__"=some (some (.builtin "object.__setattr__"))
 mak:yB K C=true
 kp:iH K (.ref C)=true
inductive Mt(K:FG)(C:Addr)(st:Stmt)(m q:Str)(dV:Value):Prop
 |mk (f:Addr) (oc:Value) (od:Option Addr) (kV dc pm:Value) (an:Option Addr) (cd ct:Value) (sl:Array (OV)):dj K (.ref C) m=some (some (.ref f))->u1 K (.ref f)=true->K.lookup f=some ⟨oc,od,.func (jZ m q (ja st) (fY st) (bv st) dV kV dc pm an cd ct),sl⟩->rM K cd q=true->iH K (.ref f)=true->Mt K C st m q dV
section
variable{K:FG}{h:Heap}{b:SV}(X:K.In h)(G:h.Ns mainGlobals b)
include X G
theorem dk{d:Df}(H:Fn K d.name d.st)(p:MB d=true):∃f s,DOk K b d f s:=by obtain⟨x,P,e,st,N,S,y,i,F⟩:=d;simp only[MB,av,qM,decide_eq_true_eq]at p;obtain⟨⟨⟨n,rfl⟩,r⟩,t⟩:=p;obtain⟨f,o,j,kV,g,z,v,w,u,A,a,l,c,k⟩:=H;exact⟨_,_,⟨GA l c k,.all λm q=>G_ t rfl q,λ_=>⟨_,_,_,_,_,_,rfl⟩,λ_ (h:Hm.contains e=true)=>absurd h (by rw[r];decide),λ_=>uX X G a,λ(h:e.cps.isEmpty=false)=>absurd h (by rw[n];decide)⟩⟩
theorem dm(c:Ck K x C)(M:Mt K C st e q r)(j:x.cps.isEmpty=false)
  (m:∀(kV o p:Value)(n:Option Addr)(d t:Value),Binds K (jZ e q (ja st) (fY st) (bv st) r kV o p n d t) u []/\(e=("__init__":Str)->Hm.contains x=true->Binds K (jZ e q (ja st) (fY st) (bv st) r kV o p n d t) u [.none])):∃f i,DOk K b ⟨q,e,x,st,N,u,A,y,B⟩ f i:=by
 obtain⟨f,H,S,kV,s,p,n,h,t,F,a,w,l,g,k⟩:=M;have v:x.cps.isEmpty=true->False:=λz=>by rw[j]at z;cases z
 exact⟨_,_,⟨GA l g k,(m kV s p n h t).1,λz=>(v z).elim,(m kV s p n h t).2,λz=>(v z).elim,λ_=>⟨C,c.ns,uX X G c.ns,⟨c.get,c.dct,c.ovr,c.set⟩,λz=>⟨c.mak,z ▸ a,w,c.kp⟩,λ_=>⟨a,w,k⟩⟩⟩⟩
end
def Gi(K:FG)(x:Str)(i:Int):Prop:=∃t,oN K mainGlobals x=some (some (.int i t))
variable{x:Str}
theorem KP(X:K.In h)(G:h.Ns mainGlobals b){i:Int}(H:Gi K x i):oI w K b x (.int i):=by obtain⟨t,a⟩:=H;exact .plain ⟨_,.int i,uX X G a,⟨_,rfl⟩,λ_ _=>rfl⟩ rfl
def Gs(K:FG):Prop:=∃(a:Addr)(n:Nat)(s:Array (OV))(t h x:Tok),oN K mainGlobals "HAND_PARTS"=some (some (.ref a))/\K.lookup a=some ⟨.type "tuple",none,.seq #[.str "some" t,.str "all" h,.str "many" x] n,s⟩
structure BoardOk(K:FG)(C:Addr):Prop where
 ck:Ck K "Board" C
 a_families:dj K (.ref C) "families"=some none
 a_homes:dj K (.ref C) "homes"=some none
 a_members:dj K (.ref C) "members"=some none
 a_pairs:dj K (.ref C) "pairs"=some none
 a_places:dj K (.ref C) "places"=some none
 m_Board_family_of:Mt K C (L2.im (DP 7) 1) "family_of" "Board.family_of" .none
 m_Board_hands_beside:Mt K C (L2.im (DP 7) 2) "hands_beside" "Board.hands_beside" .none
 m_Board_init:Mt K C (L2.im (DP 7) 0) "__init__" "Board.__init__" .none
structure SceneOk(K:FG)(C:Addr)(T:Addr):Prop where
 ck:Ck K "Scene" C
 a_around:dj K (.ref C) "around"=some none
 a_board:dj K (.ref C) "board"=some none
 a_dries:dj K (.ref C) "dries"=some none
 a_standings:dj K (.ref C) "standings"=some none
 m_Scene_dry_truths:Mt K C (L2.im (DP 31) 1) "dry_truths" "Scene.dry_truths" .none
 m_Scene_init:Mt K C (L2.im (DP 31) 0) "__init__" "Scene.__init__" (.ref T)
 dv:∃o n,K.lookup T=some o/\o.data=.seq #[.none] n
open PySem.W in
theorem Nx{w:World}{K:Frag}{h:Heap}{b:SV}(X:K.In h)(G:h.Ns mainGlobals b){C i T:Addr}(k:BoardOk K C)(r:SceneOk K i T)
  (F:∀d ∈ N0,Fn K d.name d.st)
  (H:Gs K) (j:Gi K "HIGHEST_LETTER" 999) (y:Gi K "NOBODY" (-1)) (z:∀x ∈ J_,nsIn K mainGlobals x=some none):TOk w Gv Att Tb K b:=by
 refine⟨λd hd=>?_,sc,un,λx g=>mg_none_of X G (z x g),λx v t=>?_,λc f S=>?_⟩
 .rcases cI.mp hd with hd|hd
  .exact dk X G (F d hd) (bw.mp Si d hd)
  simp only[TC,aQ,cJ,cH]at hd;rcases hd with rfl|rfl|rfl|rfl|rfl;all_goals first
   |exact dm X G k.ck k.m_Board_family_of (by decide +kernel) λ_ _ _ _ _ _=>⟨.all λm l=>by obtain⟨_,_,rfl⟩:=Sr l;rfl,λh u=>by first|exact absurd h (by decide +kernel)|exact absurd u (by decide +kernel)⟩
   |exact dm X G k.ck k.m_Board_hands_beside (by decide +kernel) λ_ _ _ _ _ _=>⟨.all λm l=>by obtain⟨_,_,_,rfl⟩:=Sq l;rfl,λh u=>by first|exact absurd h (by decide +kernel)|exact absurd u (by decide +kernel)⟩
   |exact dm X G k.ck k.m_Board_init (by decide +kernel) λ_ _ _ _ _ _=>⟨.all λm l=>by obtain⟨_,_,rfl⟩:=Sr l;rfl,λh u=>by first|exact absurd h (by decide +kernel)|exact absurd u (by decide +kernel)⟩
   |exact dm X G r.ck r.m_Scene_dry_truths (by decide +kernel) λ_ _ _ _ _ _=>⟨.all λm l=>by obtain⟨_,rfl⟩:=Tq l;rfl,λh u=>by first|exact absurd h (by decide +kernel)|exact absurd u (by decide +kernel)⟩
   | exact dm X G r.ck r.m_Scene_init (by decide +kernel) fun _ _ _ _ _ _=>⟨fun s m I l=>by
     rw[eA]at l ⊢;obtain⟨_,_,_,_,rfl⟩:=Uf l;obtain⟨o,n,q,p⟩:=r.dv;exact .of_defaults rfl (I _ _ q) p rfl rfl,λ_ _ s m I l=>by
     obtain⟨_,_,_,rfl⟩:=Sq (Nat.succ.inj ((bz (as:=m) (bs:=[Value.none])).symm.trans l));obtain⟨o,n,q,p⟩:=r.dv;exact .of_defaults rfl (I _ _ q) p rfl rfl⟩
 .unfold Gv at t;by_cases e:x=("HAND_PARTS":Str)
  .rw [af e]at t;subst e;cases t;obtain⟨a,n,P,A,B,D,q,p⟩:=H;exact .plain (Dx ["some","all","many"] (uX X G q) p (by show 3≤sizeLine;decide) (.cons ⟨_,rfl⟩ (.cons ⟨_,rfl⟩ (.cons ⟨_,rfl⟩ .nil)))) rfl
  rw[ah e]at t;clear e;by_cases e:x=("HIGHEST_LETTER":Str)
  .rw [af e]at t;subst e;cases t;exact KP X G j
  rw[ah e]at t;clear e;by_cases e:x=("NOBODY":Str)
  .rw [af e]at t;subst e;cases t;exact KP X G y
  rw[ah e]at t;clear e;cases t
 .obtain⟨x,g,e⟩:=lW.mp S;rw[av]at e;have q:=aM e.1;have p:f ∈ x.2:=by simpa using e.2
  subst q;simp only[Att,aQ,cJ,cH]at g;rcases g with rfl|rfl
  .simp only[aQ,cJ,cH]at p;rcases p with rfl|rfl|rfl|rfl|rfl
   .exact⟨_,k.ck.ns,⟨k.ck.get,k.ck.dct,k.ck.ovr,k.ck.set⟩,k.a_families⟩
   .exact⟨_,k.ck.ns,⟨k.ck.get,k.ck.dct,k.ck.ovr,k.ck.set⟩,k.a_homes⟩
   .exact⟨_,k.ck.ns,⟨k.ck.get,k.ck.dct,k.ck.ovr,k.ck.set⟩,k.a_members⟩
   .exact⟨_,k.ck.ns,⟨k.ck.get,k.ck.dct,k.ck.ovr,k.ck.set⟩,k.a_pairs⟩
   .exact⟨_,k.ck.ns,⟨k.ck.get,k.ck.dct,k.ck.ovr,k.ck.set⟩,k.a_places⟩
  .simp only[aQ,cJ,cH]at p;rcases p with rfl|rfl|rfl|rfl
   .exact⟨_,r.ck.ns,⟨r.ck.get,r.ck.dct,r.ck.ovr,r.ck.set⟩,r.a_around⟩
   .exact⟨_,r.ck.ns,⟨r.ck.get,r.ck.dct,r.ck.ovr,r.ck.set⟩,r.a_board⟩
   .exact⟨_,r.ck.ns,⟨r.ck.get,r.ck.dct,r.ck.ovr,r.ck.set⟩,r.a_dries⟩
   .exact⟨_,r.ck.ns,⟨r.ck.get,r.ck.dct,r.ck.ovr,r.ck.set⟩,r.a_standings⟩
theorem log2_small{i:Int}(h:i.natAbs < 2 ^ 60):i.natAbs.log2 < 60:=by
 by_cases e:i.natAbs=0
 .rw [e];decide
 .exact (AB e).mpr h
theorem bW{i j:Int}(h:i.natAbs < 2 ^ 60)(x:j.natAbs < 2 ^ 60):gJ i j=true:=by unfold gJ;have a:=log2_small h;have b:=log2_small x;exact fR (by lia)
theorem MC:∀(n:Nat)(v:P),cm n v=true->cm (n+1) v=true:=by
 intro n;induction n with
 |zero=>intro v h;cases v<;>first|rfl|exact h|cases h
 |succ n i=>
  intro v h;cases v with
  |tup s=>exact bw.mpr λx a=>i x (bw.mp h x a)
  |lst s=>exact bw.mpr λx a=>i x (bw.mp h x a)
  |ro s=>exact bw.mpr λx a=>i x (bw.mp h x a)
  |non=>rfl
  |bl _=>rfl
  |int _=>rfl
  |str _=>exact h
  |dct _ _=>cases h
variable{v:P}
theorem eL(h:cm n v=true)(m:n≤e):cm e v=true:=by
 obtain⟨k,rfl⟩:=Nat.exists_eq_add_of_le m;clear m;induction k with
 |zero=>exact h
 |succ k i=>exact MC _ _ i
def strOk(x:Str):Prop:=az x=true
@[simp] theorem v9(n:Nat)(i:Int):cm n (.int i)=true:=by cases n<;>rfl
@[simp] theorem Sh(n:Nat)(i:Bool):cm n (.bl i)=true:=by cases n<;>rfl
@[simp] theorem QJ(n:Nat):cm n .non=true:=by cases n<;>rfl
@[simp] theorem v0(n:Nat)(x:Str):cm n (.str x)=az x:=by cases n<;>rfl
@[simp] theorem QI(n:Nat)(s:List P):cm (n+1) (.tup s)=s.all (cm n):=rfl
@[simp] theorem QK(n:Nat)(s:List P):cm (n+1) (.lst s)=s.all (cm n):=rfl
theorem FN(h:∀x ∈ s,cm n x=true):cm (n+1) (.lst s)=true:=bw.mpr h
@[simp] theorem Cg(c:Nat):nq ⟨#[c]⟩=1:=rfl
theorem C2(h:strOk x)(a:strOk y):strOk (x++y):=by show(x.cps++y.cps).all (λc=>decide (c < 0x110000))=true;rw[Bj,av];exact⟨h,a⟩
theorem C1(e:strOk x)(n:Nat):strOk (e_ x n):=by
 have k:∀(n:Nat)(a:Array Nat),a.all (λc=>decide (c < 0x110000))=true->((List.replicate n x.cps).foldl (·++·) a).all (λc=>decide (c < 0x110000))=true:=by
  intro n;induction n with
  |zero=>intro a h;exact h
  |succ n i=>intro a h;rw[cS,gy];exact i _ (by rw[Bj,av];exact⟨h,e⟩)
 exact k n #[] (by simp)
variable{k:Int}
theorem GY(f:strOk x)(a:0≤k)(s:k < x.length)(n:x.length≤1000000):∃c,strOk ⟨#[c]⟩/\sW (.str x) (.int k)=some (.str ⟨#[c]⟩):=by
 have l:k.toNat < x.cps.toList.length:=by simp only[nI];unfold nq at s;lia
 have h:k.toNat < x.cps.size:=by simpa using l
 refine⟨x.cps.toList[k.toNat],?_,?_⟩
 .have:=Array.all_eq_true.mp f k.toNat h;show(#[x.cps.toList[k.toNat]].all λc=>decide (c < 0x110000))=true;simpa using this
 .have e:L2.atI x.cps.toList k=some (x.cps.toList[k.toNat]):=bS a (by simp[h]);show(if jb x.length=true then (L2.atI x.cps.toList k).map λc=>P.str ⟨#[c]⟩ else none)=_;rw[af (by simp only[oq];exact n),e];rfl
theorem DF(h:x.length+y.length≤1000000):wD (.str x) (.str y)=some (.str (x++y)):=by show(if jb (x.length+y.length)=true then some (P.str (x++y)) else none)=_;rw[af (by rw[oq];exact h)]
variable{s:List a}
theorem dY(h:s≠[])(a:Int):∃x ∈ s,L2.atI s (a % (s.length:Int))=some x:=by
 have l:(0:Int) < (s.length:Int):=by cases s with|nil=>exact absurd rfl h|cons _ _=>simp
 have e:=dg a (Int.ne_of_gt l);have n:=dG a l;have hk:(a % (s.length:Int)).toNat < s.length:=by lia
 exact⟨s[(a % (s.length:Int)).toNat],eC _,bS e (by simp[hk])⟩
theorem wK(h:0≤k)(a:k < (s.length:Int)):∃x ∈ s,L2.atI s k=some x:=by
 have hk:k.toNat < s.length:=by lia
 exact⟨s[k.toNat],eC _,bS h (by simp[hk])⟩
theorem He(h:s≠[]):∃x ∈ s,L2.atI s (-1)=some x:=by
 have l:0 < s.length:=AY.mpr h;refine⟨s[s.length-1],eC _,?_⟩;unfold L2.atI L2.F6;rw[ah (by lia),af (by lia)];have e:(-1+(s.length:Int)).toNat=s.length-1:=by lia
 simp[e,l]
theorem cn{g:ki}{b:ES}{Inv:Nat->Lc->aA->Prop}:∀{s:List P}{k:Nat}{L:Lc}{S:aA},(∀i v L S,s[i]? = some v->Inv (k+i) L S->∃f L2 n,g v L=some f/\b f S=some (.nx,L2,n)/\Inv (k+i+1) L2 n)->Inv k L S ->
  ∃x a,bc g b s L S=some (.nx,x,a)/\Inv (k+s.length) x a
 | [],k,L,S,_,h=>⟨L,S,rfl,h⟩
 |v::r,k,L,S,c,h=>by
  obtain⟨f,L2,n,m,t,d⟩:=c 0 v L S rfl h;obtain⟨x,a,p,u⟩:=cn (g:=g) (b:=b) (Inv:=Inv) (s:=r) (k:=k+1) (L:=L2) (S:=n) (λi w L S e q=>by have:=c (i+1) w L S (by simpa using e) (by rw[show k+(i+1)=k+1+i by lia];exact q);rwa [show k+(i+1)+1=k+1+i+1 by lia]at this) d
  exact⟨x,a,by rw[bj m t];exact p,by rw[aR,show k+(r.length+1)=k+1+r.length by lia];exact u⟩
theorem ph{g:ki}{c:EB}{e:EV}{Inv:Lc->Prop}{Q:P->Prop}{S:aA}:∀{s:List P}{L:Lc},(∀v ∈ s,∀L,Inv L->∃x k,g v L=some x/\Inv x/\c x S=some (k,S)/\(k=true->∃y,e x S=some (y,S)/\Q y))->Inv L ->
  ∃a,bG g c e s L S=some (a,S)/\(∀y ∈ a,Q y)/\a.length≤s.length
 | [],L,_,h=>⟨[],rfl,λ_ z=>(by cases z),al _⟩
 |v::r,L,t,h=>by
  obtain⟨x,k,n,i,f,d⟩:=t v aF L h;obtain⟨a,b,m,j⟩:=ph (s:=r) (L:=x) (λw hw=>t w (aH _ hw)) i;cases k with
  |false=>exact⟨a,by simp[bG,n,f,b],m,by simp;lia⟩
  |true=>obtain⟨y,p,q⟩:=d rfl;exact⟨y::a,by simp[bG,n,f,b,p],λz u=>(aQ.mp u).elim (λe=>e ▸ q) (m z),by simp;lia⟩
theorem kU{g:ki}{e:EV}{Inv:Lc->Prop}{Q:P->Prop}{S:aA}:∀{s:List P}{L:Lc},(∀v ∈ s,∀L,Inv L->∃x y,g v L=some x/\Inv x/\e x S=some (y,S)/\Q y)->Inv L ->
  ∃a,bG g dF e s L S=some (a,S)/\(∀y ∈ a,Q y)/\a.length=s.length
 | [],L,_,h=>⟨[],rfl,λ_ z=>(by cases z),rfl⟩
 |v::r,L,n,h=>by obtain⟨x,y,k,i,f,q⟩:=n v aF L h;obtain⟨a,b,c,m⟩:=kU (s:=r) (L:=x) (λw hw=>n w (aH _ hw)) i;exact⟨y::a,by simp[bG,k,f,b],λz t=>(aQ.mp t).elim (λe=>e ▸ q) (c z),by simp[m]⟩
theorem cT{g:ki}{c:EB}{e:EV}{Inv:Lc->Prop}{S:aA}{p:P->Bool}{f:P->P}:∀{s:List P}{L:Lc},(∀v ∈ s,∀L,Inv L->∃x,g v L=some x/\Inv x/\c x S=some (p v,S)/\(p v=true->e x S=some (f v,S)))->Inv L ->
  bG g c e s L S=some ((s.filter p).map f,S)
 | [],L,_,h=>rfl
 |v::r,L,m,h=>by
  obtain⟨x,n,i,a,t⟩:=m v aF L h;have b:=cT (s:=r) (L:=x) (λw hw=>m w (aH _ hw)) i;cases k:p v with
  |false=>rw[k]at a;simp[bG,n,a,b,k]
  |true=>rw[k]at a;simp[bG,n,a,b,k,t k]
theorem ints_get{lo:Int}{n i:Nat}{v:P}(h:(intsFrom lo n)[i]? = some v):v=.int (lo+i)/\i < n:=by
 unfold Ev.intsFrom at h;rw[dJ]at h;cases e:(List.range n)[i]? with
 |none=>rw[e]at h;cases h
 |some j=>
  rw[e]at h;cases h;have:=bO.mp e
  obtain⟨x,a⟩:=this;simp at x a;subst a;exact⟨rfl,x⟩
theorem iD{lo:Int}{n:Nat}{v:P}(h:v ∈ intsFrom lo n):∃i:Nat,v=.int (lo+i)/\i < n:=by obtain⟨i,x,e⟩:=lX.mp h;exact⟨i,ints_get (by rw[bA x,e])⟩
theorem cA(lo:Int)(n:Nat):(intsFrom lo n).length=n:=by simp[Ev.intsFrom]
theorem FU(n k:Str->GF)(s:List P):∀(a:Int)(p t q:Option D),∃(r:Int)(e:Option D),bc (ai 2) (jz n) s [qi a,p,t,q] []=some (.nx,[qi r,p,e,q],[]):=by
 induction s with
 |nil=>intro a p t q;exact⟨a,t,rfl⟩
 |cons x s i=>intro a p t q;obtain⟨r,e,h⟩:=i (a / 2147483648) p (O x) q;exact⟨r,e,by simpa[bc,jz] using h⟩
theorem wa(a:Int){p:Int}(s:0≤p)(k:p < 1000):∃r:Int,0≤r/\bU (Ph (n+2) "_law_mix") [.int a,.int p]=some (.int r):=by
 by_cases h:(1000000000000:Int)≤a
 .obtain⟨r,g,e⟩:=FU (Ph (n+1)) (Ph n) (intsFrom 0 (p % 61).toNat) (a / 1000000000000-1) (qi p) none none;refine⟨r % 2147483648,dg _ (by decide),?_⟩;have c:(p % 61).natAbs < 1000000:=by lia
  rw[pL,aw];simp[lK,h,c,e]
 .have m:0≤p * p/\p * p≤1000000:=⟨Int.mul_nonneg s s,Int.le_trans (Int.mul_le_mul (zP k) (zP k) s (by decide)) (by decide)⟩;have v:gJ p p=true:=bW (by lia) (by lia);have d:gJ (p * p) 7919=true:=bW (by lia) (by decide);have m3:gJ (a % 1000003+p * p * 7919+p) 48271=true:=bW (by lia) (by decide);generalize f:(a % 1000003+p * p * 7919+p) * 48271 % 2147483629=x;have t:0≤x/\x < 2147483629:=by subst f;exact⟨dg _ (by decide),dG _ (by decide)⟩
  have w:gJ x x=true:=bW (by lia) (by lia);generalize b:x * x % 2147483587=y;have q:0≤y/\y < 2147483587:=by subst b;exact⟨dg _ (by decide),dG _ (by decide)⟩
  have u:gJ y (y+2)=true:=bW (by lia) (by lia);refine⟨y * (y+2) % 2147483579 / 7,Int.ediv_nonneg (dg _ (by decide)) (by decide),?_⟩;rw[pL,aw];simp[lK,h,v,d,m3,f,w,b,u]
noncomputable def fI(n:List Int):P:=.ro (n.map .int)
theorem wE(s:List Int)(x:0≤k):∃r:Int,bU (Ph (n+2) "_law_cell_at") [fI s,.int k]=some (.int r):=by
 by_cases h:k < (s.length:Int)
 .have hk:k.toNat < s.length:=by lia
  refine⟨s[k.toNat],?_⟩;have e:L2.atI (s.map P.int) k=some (.int s[k.toNat]):=bS x (by simp[hk]);rw[ll,aw];simp[iQ,fI,di,d5,h,e]
 .refine⟨0,?_⟩;rw[ll,aw];simp[iQ,fI,di,d5,h]
inductive Drw(n:Nat)(ns:List Int)(k p:Int):Prop
 |mk (c r:Int):0≤r->bU (Ph (n+2) "_law_cell_at") [fI ns,.int k]=some (.int c)->bU (Ph (n+2) "_law_mix") [.int c,.int p]=some (.int r)->Drw n ns k p
theorem iq{n:Nat}(s:List Int){k p:Int}(x:0≤k)(a:0≤p)(f:p < 1000):Drw n s k p:=by obtain⟨c,e⟩:=wE (n:=n) s x;obtain⟨r,b,h⟩:=wa (n:=n) c a f;exact⟨c,r,b,e,h⟩
theorem Mz:strOk "xyz":=by unfold strOk;decide +kernel
theorem Cf:("xyz":Str).length=3:=by decide +kernel
theorem Qs:∀k:Nat,k < 16->sW (.str "abcdefghijklmnop") (.int (k:Int))=some (.str ⟨#[97+k]⟩):=by
 intro k hk;have e:∀k:Nat,k < 16->L2.atI ((("abcdefghijklmnop":Str)).cps.toList) (k:Int)=some (97+k):=by decide +kernel
 show(if jb (("abcdefghijklmnop":Str)).length=true then (L2.atI ((("abcdefghijklmnop":Str)).cps.toList) (k:Int)).map λc=>P.str ⟨#[c]⟩ else none)=_;rw[e k hk,af (by decide +kernel)];rfl
noncomputable def hd(x:Str):Option Nat:=x.cps[0]?
theorem L0(c n:Nat)(x:Str):hd (e_ ⟨#[c]⟩ (n+1)++x)=some c:=by
 have k:∀(n:Nat)(a:Array Nat),a[0]? = some c->((List.replicate n #[c]).foldl (·++·) a)[0]? = some c:=by
  intro n;induction n with
  |zero=>intro a h;exact h
  |succ n i=>intro a h;rw[cS,gy];refine i _ ?_;have s:0 < a.size:=(Bn.mp h).1;rw[Bm s];exact h
 have h:=k n (#[]++#[c]) (by simp);have s:0 < ((List.replicate n #[c]).foldl (·++·) (#[]++#[c])).size:=(Bn.mp h).1;show(((List.replicate (n+1) #[c]).foldl (·++·) #[])++x.cps)[0]? = some c;rw[cS,gy,Bm s];exact h
theorem qV{n:Nat}(s:List Int){k:Nat}(r:k < 16):∃x:Str,strOk x/\hd x=some (97+k)/\bU (Ph (n+3) "_law_name") [fI s,.int (k:Int)]=some (.str x):=by
 obtain⟨c,a,t,e,b⟩:=iq (n:=n) s (k:=1) (p:=(k:Int)) (by lia) (by lia) (by lia);have u:=Qs k r;obtain⟨d,h,f⟩:=GY (k:=a / 4 % 3) Mz (by lia) (by rw[Cf];lia) (by rw[Cf];lia);have hk:strOk ⟨#[97+k]⟩:=by show(#[97+k].all λc=>decide (c < 0x110000))=true;simp;lia
 have m:wC (.str ⟨#[97+k]⟩) (.int (1+a % 4))=some (.str (e_ ⟨#[97+k]⟩ ((a % 4).toNat+1))):=by show(if (jb ((1+a % 4).toNat * 1) && decide ((1+a % 4).natAbs < 1000000))=true then some (P.str (e_ ⟨#[97+k]⟩ (1+a % 4).toNat)) else none)=_;rw[af (by rw[av,oq];exact⟨by lia,fR (by lia)⟩),show(1+a % 4).toNat=(a % 4).toNat+1 by lia]
 have z:=DF (x:=e_ ⟨#[97+k]⟩ ((a % 4).toNat+1)) (y:=⟨#[d]⟩) (by rw[mq,Cg,Cg];lia);refine⟨e_ ⟨#[97+k]⟩ ((a % 4).toNat+1)++⟨#[d]⟩,C2 (C1 hk _) h,L0 _ _ _,?_⟩;rw[ww,aw];simp[oC,e,b,u,f,m,z]
theorem ak(h:f L S=some (.nx,e,c)):ag f g L S=g e c:=by rw[ag,h]
theorem ze{c:EB}{x y:ES}{L:Lc}{S:aA}(h:c L S=some (true,S)):b8 c x y L S=x L S:=by rw[b8,h];rfl
theorem Cq{c:EB}{x y:ES}{L:Lc}{S:aA}(h:c L S=some (false,S)):b8 c x y L S=y L S:=by rw[b8,h];rfl
theorem w4{A R:ES}{L:Lc}{S:aA}{p:Lc->Prop}{G:yL->Prop}(h:∃x,p x/\A L S=some (.nx,x,S))(k:∀x,p x->G (R x S)):G (ag A R L S):=by obtain⟨x,a,e⟩:=h;rw[ak e];exact k x a
theorem Sn(a:Int):∃r:Int,-1≤r/\r≤5/\L2.atI [P.int 0,.int 0,.int (-1),.int 5] (a % 4)=some (.int r):=by
 have h:a % 4=0\/a % 4=1\/a % 4=2\/a % 4=3:=by lia
 rcases h with h|h|h|h<;>rw[h]<;>simp
theorem PP(a:Int):∃r:Int,0≤r/\r≤2/\L2.atI [P.int 1,.int 2,.int 0,.int 1] (a % 4)=some (.int r):=by
 have h:a % 4=0\/a % 4=1\/a % 4=2\/a % 4=3:=by lia
 rcases h with h|h|h|h<;>rw[h]<;>simp
inductive isCel(v:P):Prop
 |mk (x:Str) (lo hi at':Int):strOk x->-1≤lo->lo≤at'->at'≤hi->hi≤7->v=.tup [.str x,.int lo,.int hi,.int at']->isCel v
noncomputable def Ls:P->List P
 | .tup s=>s
 | .lst s=>s
 |_=>[]
def xl(v:P)(k:Nat):P:=(Ls v)[k]?.getD .non
noncomputable def iv:P->Int
 | .int i=>i
 |_=>0
@[simp] theorem TX(s:List P):Ls (.tup s)=s:=rfl
@[simp] theorem TY(s:List P):Ls (.lst s)=s:=rfl
@[simp] theorem Tj(s:List P)(k:Nat):xl (.tup s) k=s[k]?.getD .non:=rfl
@[simp] theorem Ug(i:Int):iv (.int i)=i:=rfl
noncomputable def bu:P->Str
 | .tup (.str s::_)=>s
 |_=>""
def yf(v:List P):Prop:=(∀c ∈ v,isCel c)/\∀i c,v[i]? = some c->hd (bu c)=some (99+i)
@[simp] theorem EN(v:List P):toP 9 (.ref 0) [.lst (v.map .p)]=some (.lst v,[.fz (.lst v)]):=eU rfl
theorem dt(s:List P)(v:P):s.map D.p++[.p v]=(s++[v]).map .p:=by simp
theorem dZ{Q:P->Prop}{s:List P}{v:P}(h:∀x ∈ s,Q x)(e:Q v):∀x ∈ s++[v],Q x:=λx a=>(cI.mp a).elim (h x) λa=>by rw[fU.mp a];exact e
theorem xM{Q:Nat->P->Prop}{s:List P}{v:P}(h:∀i x,s[i]? = some x->Q i x)(n:Q s.length v):∀i x,(s++[v])[i]? = some x->Q i x:=λi x a=>by
 by_cases e:i < s.length
 .rw [bF e]at a;exact h i x a
 .rw [cy (by lia)]at a;have:i-s.length=0:=by
   have:=(bO.mp a).1;simp at this;lia
  rw[this]at a;cases a;rw[show i=s.length by lia];exact n
theorem G3{n:Nat}(t:List Int){f m:Int}(h0:0≤f)(h1:0≤m)(h2:m≤3):∃r:List P,r.length≤m.toNat/\yf r/\bU (Ph (n+4) "_law_cells") [fI t,.int f,.int m]=some (.lst r):=by
 obtain⟨c,a,ha,G,I⟩:=iq (n:=n+1) t (k:=2+f) (p:=1) (by lia) (by lia) (by lia);have hm:a % (m+1) < m+1:=dG _ (by lia);have W:0≤a % (m+1):=dg _ (by lia);let Inv:Nat->Lc->aA->Prop:=λi L S=>∃(r:List P)(H F K A:Option D),r.length=i/\yf r/\L=[O (fI t),qi f,qi m,qr 0,H,F,K,A]/\S=[.lst (r.map .p)]
 obtain⟨L',S',e,r,H,F,K,A,j,o,rfl,rfl⟩:=cn (g:=ai 4) (b:=hV (Ph (n+3))) (Inv:=Inv) (s:=Ev.intsFrom 0 (a % (m+1)).toNat) (k:=0)
  (L:=[O (fI t),qi f,qi m,qr 0,none,none,none,none]) (S:=[.lst []]) (fun i v L S hv R=>by
   obtain⟨rfl,hi⟩:=ints_get hv;obtain⟨r,H,F,K,A,j,o,rfl,rfl⟩:=R;obtain⟨c2,d,hd,C,E⟩:=iq (n:=n+1) t (k:=2+f) (p:=2+(i:Int)) (by lia) (by lia) (by lia);obtain⟨x,hx,y,Q⟩:=qV (n:=n) t (k:=2+i) (by lia);obtain⟨lo,l,V,M⟩:=Sn d;obtain⟨u,Z,B,N⟩:=PP (d / 4);have z:0 < lo+u-lo+1:=by lia
   have T:r.length≤1000000:=by lia
   generalize hw:d / 16 % (lo+u-lo+1)=w;have hw0:0≤w/\w < lo+u-lo+1:=by subst hw;exact⟨dg _ (by lia),dG _ z⟩
   refine⟨_,[O (fI t),qi f,qi m,qr 0,qi (i:Int),qi d,qi lo,qi (lo+u)],[.lst ((r++[P.tup [.str x,.int lo,.int (lo+u),.int (lo+w)]]).map D.p)],rfl,?_,_,_,_,_,_,by simp;lia,⟨dZ o.1 ⟨x,lo,lo+u,lo+w,hx,l,by lia,by lia,by lia,rfl⟩,xM o.2 ?_⟩,rfl,rfl⟩
   .rw [<- dt];have q:bU (Ph (n+3) "_law_name") [fI t,.int (2+(i:Int))]=some (.str x):=by rw[<- Q];rfl
    simp[hV,C,E,q,M,N,z,eZ,T,hw]
   .show My.hd x=_;rw[y,j];congr 1;lia) ⟨[],none,none,none,none,rfl,⟨λ_ h=>(by cases h),λ_ _ h=>(by cases h)⟩,rfl,rfl⟩
 refine⟨r,by rw[j,cA];lia,o,?_⟩;have X:(a % (m+1)).natAbs < 1000000:=by lia
 have z:0 < m+1:=by lia
 rw[tR,aw];simp[mJ,G,I,X,z,e]
@[simp] theorem QF:az "number"=true/\az "name"=true/\az "plus"=true/\az "minus"=true/\az "times"=true/\az "true"=true/\az "not"=true/\az "or"=true/\az "and"=true/\az "is"=true/\az "="=true/\az "!="=true/\az "<"=true/\az "<="=true/\az ">"=true/\az ">="=true/\az "row"=true/\az "heap"=true/\az "ma"=true/\az "mb"=true/\az "who"=true/\az "all"=true/\az "any"=true/\az ""=true/\az "it"=true/\az "weak"=true/\az "strong"=true/\az "step"=true/\az "lose"=true/\az "double"=true:=by decide +kernel
def km(v:P):Prop:=∃s:Str,az s=true/\v=.str s
theorem km.ok(h:km v)(n:Nat):cm n v=true:=by obtain⟨s,h,rfl⟩:=h;simpa using h
theorem gI{s:List P}(h:∀x ∈ s,km x)(n:Nat):cm (n+1) (.lst s)=true:=FN λx a=>(h x a).ok n
theorem dE(h:s≠[]):s.isEmpty=false:=by cases s with|nil=>exact absurd rfl h|cons _ _=>rfl
theorem len_pos(h:s≠[]):0 < s.length:=AY.mpr h
noncomputable abbrev mQ(k:Int):P:=.tup [.str "number",.int k]
noncomputable abbrev mR(y:P):P:=.tup [.str "name",y]
def pJ(N:List P)(v:P):Prop:=(∃k,v=mQ k)\/∃y ∈ N,v=mR y\/(∃k,v=.tup [.str "plus",mR y,mQ k])\/(∃k j:Int,0≤k/\k≤2/\v=.tup [.str "minus",.tup [.str "times",mR y,mQ k],mQ j])\/v=.tup [.str "minus",mQ 1,mR y]
variable{N:List P}
theorem pJ.ok(a:∀x ∈ N,km x)(h:pJ N v):cm 4 v=true:=by
 rcases h with ⟨k,rfl⟩|⟨y,e,h⟩
 .simp
 .have o:∀k,cm k y=true:=λk=>(a y e).ok k;rcases h with rfl|⟨k,rfl⟩|⟨k,j,_,_,rfl⟩|rfl<;>simp[o]
theorem yR{n:Nat}(d:Int){s:List P}(c:∀x ∈ s,km x):∃v,pJ s v/\bU (Ph (n+2) "_law_sum") [.int d,.lst s]=some v:=by
 have e:=wn (gI c 19);by_cases k:s=[]
 .subst k;refine⟨mQ (d / 5 % 3),.inl ⟨_,rfl⟩,?_⟩;rw[gn,aw];simp[fm,e]
 rw[dE k]at e;have l:=len_pos k;obtain⟨y,f,a⟩:=dY k (d / 5);have b:d % 5=0\/d % 5=1\/d % 5=2\/d % 5=3\/d % 5=4:=by lia
 rcases b with h|h|h|h|h
 .refine⟨mQ (d / 5 % 3),.inl ⟨_,rfl⟩,?_⟩;rw[gn,aw];simp[fm,e,h]
 .refine⟨mR y,.inr ⟨y,f,.inl rfl⟩,?_⟩;rw[gn,aw];simp[fm,e,h,di,d5,l,a]
 .refine⟨.tup [.str "plus",mR y,mQ (d / 20 % 3)],.inr ⟨y,f,.inr (.inl ⟨_,rfl⟩)⟩,?_⟩;rw[gn,aw];simp[fm,e,h,di,d5,l,a]
 .refine⟨.tup [.str "minus",.tup [.str "times",mR y,mQ (d / 20 % 3)],mQ (d / 60 % 2)],.inr ⟨y,f,.inr (.inr (.inl ⟨_,_,by lia,by lia,rfl⟩))⟩,?_⟩;rw[gn,aw];simp[fm,e,h,di,d5,l,a]
 .refine⟨.tup [.str "minus",mQ 1,mR y],.inr ⟨y,f,.inr (.inr (.inr rfl))⟩,?_⟩;rw[gn,aw];simp[fm,e,h,di,d5,l,a]
def jP(N:List P)(v:P):Prop:=∃w y s,y ∈ N/\pJ N s/\az w=true/\v=.tup [.str "is",.str w,mR y,s]
def kO(N:List P)(v:P):Prop:=v=.tup [.str "true"]\/jP N v\/(∃p,jP N p/\v=.tup [.str "not",p])\/∃p z,jP N p/\z ∈ N/\v=.tup [.str "or",p,.tup [.str "and",.tup [.str "true"],.tup [.str "is",.str "=",mQ 1,mR z]]]
theorem jP.ok(a:∀x ∈ N,km x)(h:jP N v):cm 5 v=true:=by obtain⟨w,y,s,n,e,hw,rfl⟩:=h;have o:∀k,cm k y=true:=λk=>(a y n).ok k;simp[o,e.ok a,hw]
theorem kO.ok(a:∀x ∈ N,km x)(h:kO N v):cm 7 v=true:=by
 rcases h with rfl|h|⟨p,h,rfl⟩|⟨p,z,h,e,rfl⟩
 .simp
 .exact eL (h.ok a) (by lia)
 .simp [eL (h.ok a) (show 5≤6 by lia)]
 .have o:∀k,cm k z=true:=λk=>(a z e).ok k;simp[eL (h.ok a) (show 5≤6 by lia),o]
theorem w6(a:Int):∃w:Str,az w=true/\L2.atI [P.str "=",.str "!=",.str "<",.str "<=",.str ">",.str ">="] (a % 6)=some (.str w):=by obtain⟨w,hw,e⟩:=wK (s:=[P.str "=",.str "!=",.str "<",.str "<=",.str ">",.str ">="]) (k:=a % 6) (by lia) (by simp;lia);simp only[aQ,cJ,cH]at hw;rcases hw with rfl|rfl|rfl|rfl|rfl|rfl<;>exact⟨_,by simp,e⟩
theorem cond_ok{n:Nat}(d:Int){s:List P}(m:∀x ∈ s,km x):∃v,kO s v/\bU (Ph (n+3) "_law_condition") [.int d,.lst s]=some v:=by
 have e:=wn (gI m 19);by_cases a:s=[]
 .subst a;refine⟨.tup [.str "true"],.inl rfl,?_⟩;rw[dw,aw];simp[cU,e]
 rw[dE a]at e;have l:=len_pos a;obtain⟨y,g,c⟩:=dY a (d / 30);obtain⟨z,i,r⟩:=wK (s:=s) (k:=0) (by lia) (by lia);obtain⟨w,hw,b⟩:=w6 (d / 5);obtain⟨v,u,f⟩:=yR (n:=n) (d / 90) m;have p:jP s (.tup [.str "is",.str w,mR y,v]):=⟨w,y,v,g,u,hw,rfl⟩;by_cases t:d % 5 < 2
 .refine⟨.tup [.str "true"],.inl rfl,?_⟩;rw[dw,aw];simp[cU,e,t]
 have q:d % 5=2\/d % 5=3\/d % 5=4:=by lia
 rcases q with h|h|h
 .refine⟨_,.inr (.inr (.inl ⟨_,p,rfl⟩)),?_⟩;rw[dw,aw];simp[cU,e,h,di,d5,l,c,b,f]
 .refine⟨_,.inr (.inr (.inr ⟨_,z,p,i,rfl⟩)),?_⟩;rw[dw,aw];simp[cU,e,h,di,d5,l,c,r,b,f]
 .refine⟨_,.inr (.inl p),?_⟩;rw[dw,aw];simp[cU,e,h,di,d5,l,c,b,f]
inductive isRoad(v:P):Prop
 |mk (a b k:Str) (c:Int) (d e:Bool):az a=true->az b=true->(k="row"\/k="heap")->1≤c->c≤3->v=.tup [.str a,.str b,.str k,.int c,.bl d,.bl e]->isRoad v
noncomputable def rA:P->Str
 | .tup (.str a::_)=>a
 |_=>""
noncomputable def rB:P->Str
 | .tup (_::.str b::_)=>b
 |_=>""
def RD(r h:P):Prop:=¬(rA r=rA h/\rB r=rB h)
def K5(F:List P)(v:List P):Prop:=v.length≤8/\(∀r ∈ v,isRoad r/\.str (rA r) ∈ F/\.str (rB r) ∈ F)/\v.Pairwise RD
def R3(F:List P)(v:List P)(i j:Nat):Prop:=∀r ∈ v,∃h x,F[h]? = some (.str (rA r))/\F[x]? = some (.str (rB r))/\(h < i\/(h=i/\x < j))
theorem Kv{a b:P}(d:Int):∃w,(w=a\/w=b)/\L2.atI [a,b] (d % 2)=some w:=by obtain⟨w,hw,e⟩:=wK (s:=[a,b]) (k:=d % 2) (by lia) (by simp;lia);exact⟨w,by simpa using hw,e⟩
theorem gK{s:List P}{i:Nat}{v:P}(h:(bM 0 s)[i]? = some v):∃x,s[i]? = some x/\v=.tup [.int (i:Int),x]:=by obtain⟨x,a,e⟩:=o8 h;exact⟨x,a,by rw[e];simp⟩
theorem bx{a:Type}{s:List a}{i:Nat}{x:a}(h:s[i]? = some x):i < s.length:=(bO.mp h).1
theorem Fb{n:Nat}(A:List Int){s:List P}(hx:∀x ∈ s,km x)(W:∀(i j:Nat) x,s[i]? = some x->s[j]? = some x->i=j)(hl:s.length≤4){m:Int}(h1:0 < m)(h3:m≤3):∃f:List P,K5 s f/\bU (Ph (n+3) "_law_roads") [fI A,.lst s,.int m]=some (.lst f):=by
 let I:Nat->Option D->Option D->Nat->Lc->aA->Prop:=λii k B j L S=>∃(f:List P)(M N Q C:Option D),(K5 s f/\R3 s f ii j)/\L=[O (fI A),ql s,qi m,qr 0,k,B,M,N,Q,C]/\S=[.lst (f.map .p)]
 let Inv:Nat->Lc->aA->Prop:=λi L S=>∃k B,I i k B 0 L S
 obtain⟨L',S',e,k0,one0,f,M,N,Q,C,⟨H,_⟩,rfl,rfl⟩:=cn (g:=aY [ai 4,ai 5]) (b:=hJ (Ph (n+2))) (Inv:=Inv) (s:=bM 0 s) (k:=0)
  (L:=[O (fI A),ql s,qi m,qr 0,none,none,none,none,none,none]) (S:=[.lst []]) (fun i v L S hv hI=>by
   obtain⟨x,q,rfl⟩:=gK hv;have hi:=bx q;have Z:=bq q;obtain⟨a,ha,rfl⟩:=hx x Z;obtain⟨_,_,f,M,N,Q,C,H,rfl,rfl⟩:=hI;rw[d_]at H ⊢;obtain⟨L',S',e,hI2⟩:=cn (g:=aY [ai 6,ai 7]) (b:=dX (Ph (n+2))) (Inv:=I i (qi (i:Int)) (qs a)) (s:=bM 0 s) (k:=0)
    (L:=[O (fI A),ql s,qi m,qr 0,qi (i:Int),qs a,M,N,Q,C]) (S:=[.lst (f.map .p)]) (fun j v L S hv hI=>by
     obtain⟨y,u,rfl⟩:=gK hv;have hj:=bx u;have hym:=bq u;obtain⟨b,hb,rfl⟩:=hx y hym;obtain⟨f,M,N,Q,C,⟨H,t⟩,rfl,rfl⟩:=hI;rw[d_]at t ⊢;obtain⟨c,d,hd,R,T⟩:=iq (n:=n) A (k:=4) (p:=30+4 * (i:Int)+(j:Int)) (by lia) (by lia) (by lia);have m4:gJ 4 (i:Int)=true:=bW (by decide) (by lia);by_cases hg:0 < d % 4/\f.length < 8
     .obtain⟨w,hw,ew⟩:∃w:Str,(w="row"\/w="heap")/\L2.atI [P.str "row",.str "heap"] (d / 4 % 2)=some (.str w):=by
       obtain⟨w,hw,ew⟩:=Kv (a:=.str "row") (b:=.str "heap") (d / 4);rcases hw with rfl|rfl
       .exact⟨_,.inl rfl,ew⟩
       .exact⟨_,.inr rfl,ew⟩
      have X:f.length≤1000000:=by lia
      have c0:0≤d / 8 % m:=dg _ (by lia);have c1:d / 8 % m < m:=dG _ h1;refine⟨_,[O (fI A),ql s,qi m,qr 0,qi (i:Int),qs a,qi (j:Int),qs b,qi d,qs w],[.lst ((f++[P.tup [.str a,.str b,.str w,.int (1+d / 8 % m),.bl (decide (d / 24 % 3=1)),.bl (decide (d / 72 % 3=1))]]).map D.p)],rfl,?_,_,_,_,_,_,⟨⟨by simp;lia,dZ H.2.1 ⟨⟨a,b,w,_,_,_,ha,hb,hw,by lia,by lia,rfl⟩,Z,hym⟩,List.pairwise_append.mpr ⟨H.2.2,A6 _ _,λr K z hz=>?_⟩⟩,dZ (λr K=>?_) ⟨i,j,q,u,.inr ⟨rfl,by lia⟩⟩⟩,rfl,rfl⟩;rotate_left
      .rw [fU.mp hz];rintro ⟨R,T⟩;obtain⟨E,G,l,o,g3⟩:=t r K;rw[R]at l;rw[T]at o;have:=W _ _ _ l q
       have:=W _ _ _ o u;lia
      .obtain⟨E,G,l,o,g3⟩:=t r K;exact⟨E,G,l,o,by lia⟩
      rw[<- dt];have F:(f.length:Int) < 8:=by lia
      simp[dX,R,T,m4,hg.1,di,F,ew,h1,eZ,X]
     .refine⟨_,[O (fI A),ql s,qi m,qr 0,qi (i:Int),qs a,qi (j:Int),qs b,qi d,C],[.lst (f.map D.p)],rfl,?_,f,_,_,_,_,⟨H,λr K=>?_⟩,rfl,rfl⟩;rotate_left
      .obtain⟨E,G,l,o,g3⟩:=t r K;exact⟨E,G,l,o,by lia⟩
      by_cases V:0 < d % 4
      .have F:¬(f.length:Int) < 8:=by lia
       simp[dX,R,T,m4,V,di,F]
      .simp [dX,R,T,m4,V,di]) ⟨f,M,N,Q,C,H,rfl,rfl⟩
   obtain⟨vs',z6,z7,z8,z9,⟨hi1,hi2⟩,hi3,hi4⟩:=hI2;exact⟨_,L',S',rfl,by simpa[hJ] using e,_,_,vs',z6,z7,z8,z9,⟨hi1,λr K=>by obtain⟨E,G,l,o,g3⟩:=hi2 r K;exact⟨E,G,l,o,by lia⟩⟩,hi3,hi4⟩) ⟨none,none,[],none,none,none,none,⟨⟨by simp,λ_ h=>(by cases h),List.Pairwise.nil⟩,λ_ h=>(by cases h)⟩,rfl,rfl⟩
 refine⟨f,H,?_⟩;rw[tM,aw];simp[mG,e]
end My
namespace My
open PySem L2 Ev
variable{s:Str}{l:List P}
theorem yZ(z:∀c ∈ l,isRoad c)(L:Lc)(j k:Nat)(m:j < L.length)(h:k≠j)(hk:L[k]? = some (qs s))(S:aA) :
  ∃n,bG (ai j) (aK (U (Y (vv j) bZ)) (bo k)) (Y (vv j) ce) l L S=some (n,S)/\(∀y ∈ n,km y/\∃r ∈ l,rA r=s/\y=.str (rB r))/\n.length≤l.length:=by
 refine ph (Inv:=λf=>∃d,f=L.set j d) (λv t f w=>?_) ⟨L[j],(ij m).symm⟩;obtain⟨d,rfl⟩:=w;obtain⟨a,b,kd,c,x,e,o,u,i,_,_,rfl⟩:=z v t;have g:((L.set j d).set j (qt [.str a,.str b,.str kd,.int c,.bl x,.bl e]))[j]? = some (qt [.str a,.str b,.str kd,.int c,.bl x,.bl e]):=by rw[cj (by simpa using m)]
 have p:((L.set j d).set j (qt [.str a,.str b,.str kd,.int c,.bl x,.bl e]))[k]? = some (qs s):=by rw[aO (aS h),aO (aS h)];exact hk
 exact⟨_,decide (a=s),rfl,⟨_,cR ..⟩,by simp[-cR,g,p],λq=>⟨.str b,by simp[-cR,g],⟨b,u,rfl⟩,_,t,aM q,rfl⟩⟩
theorem C5(z:∀c ∈ l,isRoad c)(L:Lc)(j k:Nat)(m:j < L.length)(h:k≠j)(hk:L[k]? = some (qs s))(S:aA) :
  ∃n,bG (ai j) (aK (U (Y (vv j) ce)) (bo k)) (Y (vv j) bZ) l L S=some (n,S)/\(∀y ∈ n,km y/\∃r ∈ l,rB r=s/\y=.str (rA r))/\n.length≤l.length:=by
 refine ph (Inv:=λf=>∃d,f=L.set j d) (λv t f w=>?_) ⟨L[j],(ij m).symm⟩;obtain⟨d,rfl⟩:=w;obtain⟨a,b,kd,c,x,e,u,o,i,_,_,rfl⟩:=z v t;have g:((L.set j d).set j (qt [.str a,.str b,.str kd,.int c,.bl x,.bl e]))[j]? = some (qt [.str a,.str b,.str kd,.int c,.bl x,.bl e]):=by rw[cj (by simpa using m)]
 have p:((L.set j d).set j (qt [.str a,.str b,.str kd,.int c,.bl x,.bl e]))[k]? = some (qs s):=by rw[aO (aS h),aO (aS h)];exact hk
 exact⟨_,decide (b=s),rfl,⟨_,cR ..⟩,by simp[-cR,g,p],λq=>⟨.str a,by simp[-cR,g],⟨a,u,rfl⟩,_,t,aM q,rfl⟩⟩
theorem xa(h:l.length≤8):l.length≤1000000:=by lia
theorem oX(d:Int):∃w:Str,(w=a\/w=b)/\L2.atI [P.str a,.str b] (d % 2)=some (.str w):=by
 obtain⟨w,hw,e⟩:=Kv (a:=.str a) (b:=.str b) d;rcases hw with rfl|rfl
 .exact⟨_,.inl rfl,e⟩
 .exact⟨_,.inr rfl,e⟩
inductive isSend(s:Str)(rs whos N:List P)(v:P):Prop
 |mk (m:Str) (t:P) (way nm:Str):az m=true->az nm=true->pJ N t->((way="who"/\P.str nm ∈ whos)\/((way="all"\/way="any")/\∃r ∈ rs,rA r=s/\nm=rB r))->v=.tup [.str m,t,.str way,.str nm]->isSend s rs whos N v
variable{u:List P}
theorem isSend.ok(a:∀x ∈ N,km x)(h:isSend s l u N v):cm 5 v=true:=by
 obtain⟨m,t,w,f,e,n,k,hw,rfl⟩:=h;have hw:az w=true:=by rcases hw with ⟨rfl,_⟩|⟨rfl|rfl,_⟩<;>simp
 simp[e,n,hw,k.ok a]
variable{n:Nat}
theorem E2(d:Int)(hnm:∀x ∈ nm,km x)(hw:∀x ∈ u,km x)(hr:∀c ∈ l,isRoad c)(hrl:l.length≤8){m:Int}(h1:0≤m)(h2:m≤3) :
  ∃f:List P,f.length≤3/\(∀c ∈ f,isSend s l u nm c)/\bU (Ph (n+3) "_law_sends") [.int d,.str s,.lst nm,.lst u,.lst l,.int m]=some (.lst f):=by
 have hm:d % (m+1) < m+1:=dG _ (by lia);have hm0:0≤d % (m+1):=dg _ (by lia);obtain⟨gs,eg,N,hgl⟩:=yZ (s:=s) hr [qi d,qs s,ql nm,ql u,ql l,qi m,none,none,none,none,none,none,none] 12 1 (by simp) (by lia) rfl [];have W:=nT (gI hw 19);have eG:=nT (gI (λx hx=>(N x hx).1) 19);let F:Option D->Option D->Option D->Option D->Lc:=λX E t q=>[qi d,qs s,ql nm,ql u,ql l,qi m,ql gs,qr 0,X,E,t,q]
 let Inv:Nat->Lc->aA->Prop:=λi L S=>∃(f:List P)(X E t q:Option D),f.length≤i/\(∀c ∈ f,isSend s l u nm c)/\L=F X E t q/\S=[.lst (f.map .p)]
 obtain⟨L',S',e,f,X,E,t,q,hc,ho,rfl,rfl⟩:=cn (g:=ai 8) (b:=fD (Ph (n+2))) (Inv:=Inv) (s:=Ev.intsFrom 0 (d % (m+1)).toNat) (k:=0)
  (L:=F none none none none) (S:=[.lst []]) (fun i v L S hv hI=>by
   obtain⟨rfl,hi⟩:=ints_get hv;obtain⟨f,X,E,t,q,hc,ho,rfl,rfl⟩:=hI;simp only[cG];obtain⟨dv,hdv,edv⟩:∃z:Int,(0 < z/\z < 1152921504606846976)/\L2.atI [P.int 4,.int 1000,.int 100000] (i:Int)=some (.int z):=by
    have:i=0\/i=1\/i=2:=by lia
    rcases this with rfl|rfl|rfl
    .exact⟨4,by decide,by simp⟩
    .exact⟨1000,by decide,by simp⟩
    .exact⟨100000,by decide,by simp⟩
   generalize hso:d / dv=o;obtain⟨tr,htr,etr⟩:=yR (n:=n) (o / 12 % 300) hnm;obtain⟨mk,hmk,emk⟩:=oX (a:="ma") (b:="mb") o;have omk:az mk=true:=by rcases hmk with rfl|rfl<;>simp
   have p:f.length≤1000000:=by lia
   let T:=F (qi (i:Int)) (qi o) (O tr) (qs mk)
   let G:yL->Prop:=λx=>∃L2 Z,x=some (.nx,L2,Z)/\Inv (0+i+1) L2 Z
   have A:∀{x:yL}(y w:Str),az w=true->((y="who"/\P.str w ∈ u)\/((y="all"\/y="any")/\∃r ∈ l,rA r=s/\w=rB r))->x=some (.nx,T,[.lst (f.map .p++[.p (.tup [.str mk,tr,.str y,.str w])])])->G x:=λy w ow h e=>⟨_,_,e,f++[.tup [.str mk,tr,.str y,.str w]],_,_,_,_,by simp;lia,dZ ho ⟨mk,tr,y,w,omk,ow,htr,h,rfl⟩,rfl,by rw[dt]⟩
   suffices h:G (fD (Ph (n+2)) (F (qi (i:Int)) E t q) [.lst (f.map .p)]) by obtain⟨L2,Z,e,h⟩:=h;exact⟨_,L2,Z,rfl,e,h⟩
   unfold fD;rw[ak (e:=F (qi (i:Int)) (qi o) t q) (c:=[.lst (f.map .p)]) (by simp[F,edv,hdv,hso]),ak (e:=F (qi (i:Int)) (qi o) (O tr) q) (c:=[.lst (f.map .p)]) (by simp[F,etr]),ak (e:=T) (c:=[.lst (f.map .p)]) (by simp[F,T,emk])];by_cases I:u≠[]/\o / 2 % 3=1
   .obtain⟨w,K,ew⟩:=dY I.1 (o / 50);obtain⟨w,j,rfl⟩:=hw w K;have hl:=len_pos I.1;rw[dE I.1]at W;rw[ze (by simp[F,T,W,I.2])];exact A "who" w j (.inl ⟨rfl,K⟩) (by simp[F,T,di,d5,hl,ew,eZ,p])
   rw [Cq (by
    cases C:u.isEmpty<;>rw[C]at W
    .have h3:¬o / 2 % 3=1:=λz=>I ⟨λz=>(by rw[z]at C;cases C),z⟩;simp[F,T,W,h3]
    .simp [F,T,W])]
   by_cases M:gs=[]
   .rw [M]at eG;exact⟨T,[.lst (f.map .p)],by rw[Cq (by simp[F,T,M,eG])];rfl,f,_,_,_,_,by lia,ho,rfl,rfl⟩
   obtain⟨w,K,ew⟩:=dY M (o / 3);obtain⟨⟨w,j,rfl⟩,r,V,R,H⟩:=N w K;have H:w=rB r:=by cases H;rfl
   have hl:=len_pos M;rw[dE M]at eG;rw[ze (by simp[F,T,eG])];by_cases Q:i < 2
   .have B:(i:Int) < 2:=by lia
    obtain⟨aa,haa,eaa⟩:=oX (a:="all") (b:="any") (o / 6);have mo:gJ (o / 6 % 2) 1=true:=bW (by lia) (by decide);exact A aa w j (.inr ⟨haa,r,V,R,H⟩) (by simp[F,T,Q,B,cW,lI,mo,eaa,di,d5,hl,ew,eZ,p])
   .have B:¬(i:Int) < 2:=by lia
    have mo:gJ (o / 6 % 2) 0=true:=bW (by lia) (by decide);exact A "all" w j (.inr ⟨.inl rfl,r,V,R,H⟩) (by simp[F,T,Q,B,cW,lI,mo,di,d5,hl,ew,eZ,p])) ⟨[],none,none,none,none,by simp,λ_ h=>(by cases h),rfl,rfl⟩
 refine⟨f,by rw[cA]at hc;lia,ho,?_⟩;have hq:(d % (m+1)).natAbs < 1000000:=by lia
 have hz:0 < m+1:=by lia
 rw[tL,aw];simp[mF,aX,xa hrl,lZ,eg,hq,hz];simp[F]at e;simp[e]
@[simp] theorem Pq(L:Lc)(S:aA):gH L S=some (none,S):=rfl
@[simp] theorem Pp(a:EV)(L:Lc)(S:aA):fJ a L S=a6 (a L S) λv h=>match v with | .int i=>some (some i,h)|_=>none:=rfl
@[simp] theorem Qb(x:List P)(lo h:Option Int):Nh (.lst x) lo h=some (.lst (cut x lo h)):=rfl
@[simp] theorem Qa(x:List P)(lo h:Option Int):Nh (.tup x) lo h=some (.tup (cut x lo h)):=rfl
theorem rf:(∀x ∈ cut h lo i,x ∈ h)/\(cut h lo i).length≤h.length:=by
 unfold cut;refine⟨λx a=>?_,?_⟩
 .first
   |exact qK (vl a)
   |exact vl (qK a)
 .simp only[ib,ve];lia
def kN(s:Str)(l u:List P)(v:P):Prop:=v=.non\/∃m a i w,az m=true/\az a=true/\az i=true/\az w=true/\(∃r ∈ l,rB r=s/\a=rA r)/\(w=""\/P.str w ∈ u)/\v=.tup [.str m,.str a,.str i,.str w]
noncomputable def more:P->List P
 | .non=>[]
 |_=>[.str "it"]
theorem kN.ok(h:kN s l u v):cm 2 v=true:=by
 rcases h with rfl|⟨m,a,i,w,x,e,n,k,_,_,rfl⟩
 .rfl
 .simp [x,e,n,k]
theorem step_if(ψ ι:Str->GF){d0:Int}(H:∀x ∈ m,km x)(hw:∀x ∈ u,km x)(hs:∀x ∈ d,km x/\∃r ∈ l,rB r=s/\x=.str (rA r)) :
  ∃v f n k,kN s l u v/\(∀x ∈ f,km x)/\f.length≤m.length /\
   gb ψ [ql (.int d0::ds),qs s,O rooms,O cells,ql u,ql l,ql m,ql d,O .non,ql m,ql [],none,none,none,none,none,none,none] []
    = some (.nx,[ql (.int d0::ds),qs s,O rooms,O cells,ql u,ql l,ql m,ql d,O v,ql f,ql (more v),n,k,none,none,none,none,none],[]):=by
 have S:=nT (gI (λx g=>(hs x g).1) 19);have N:=nT (gI H 19);have W:=nT (gI hw 19);let F:Option D->List P->List P->Option D->Option D->Lc:=λq8 l9 X n k=>[ql (.int d0::ds),qs s,O rooms,O cells,ql u,ql l,ql m,ql d,q8,ql l9,ql X,n,k,none,none,none,none,none]
 let G:yL->Prop:=λx=>∃v f n k,kN s l u v/\(∀x ∈ f,km x)/\f.length≤m.length/\x=some (.nx,F (O v) f (more v) n k,[])
 show G (gb ψ (F (O .non) m [] none none) []);unfold gb;by_cases j:d≠[]/\d0 % 3=1
 .rw [dE j.1]at S;obtain⟨s1,T,es⟩:=dY j.1 (d0 / 24);have E:=len_pos j.1;obtain⟨mk,M,A⟩:=oX (a:="ma") (b:="mb") (d0 / 12);obtain⟨⟨sn,osn,rfl⟩,r,R,Q,t⟩:=hs s1 T;have t:sn=rA r:=by cases t;rfl
  have Z:az mk=true:=by rcases M with rfl|rfl<;>simp
  rw[ze (by simp[F,S,j.2])];rw[ak (e:=F (O .non) m [] (qs "") none) (c:=[]) rfl];refine w4 (G:=G) (p:=λL=>∃i f,az i=true/\(∀x ∈ f,km x)/\f.length≤m.length/\L=F (O .non) f [] (qs i) none) ?_ λL ⟨i,f,hi,hf,C,e⟩=>?_
  .by_cases c:m≠[]/\d0 / 3 % 2=1
   .obtain⟨x,g,B⟩:=He c.1;obtain⟨x,ox,rfl⟩:=H x g;rw[dE c.1]at N;exact⟨_,⟨x,cut m none (some (-1)),ox,λy hy=>H y (rf.1 y hy),rf.2,rfl⟩,by simp[F,N,c.2,B]⟩
   .refine⟨_,⟨"",m,by simp,H,al _,rfl⟩,?_⟩;cases h:m.isEmpty<;>rw[h]at N
    .have o:¬d0 / 3 % 2=1:=λq=>c ⟨λz=>(by rw[z]at h;cases h),q⟩;simp[F,N,o]
    .simp [F,N]
  subst e;rw[ak (e:=F (O .non) f [] (qs i) (qs "")) (c:=[]) rfl];refine w4 (G:=G) (p:=λL=>∃w,az w=true/\(w=""\/P.str w ∈ u)/\L=F (O .non) f [] (qs i) (qs w)) ?_ λL ⟨w,K,V,e⟩=>?_
  .by_cases c:u≠[]/\d0 / 6 % 2=1
   .obtain⟨x,g,B⟩:=dY c.1 (d0 / 200);obtain⟨x,ox,rfl⟩:=hw x g;rw[dE c.1]at W;have I:=len_pos c.1;exact⟨_,⟨x,ox,.inr g,rfl⟩,by simp[F,W,c.2,di,d5,I,B]⟩
   .refine⟨_,⟨"",by simp,.inl rfl,rfl⟩,?_⟩;cases h:u.isEmpty<;>rw[h]at W
    .have o:¬d0 / 6 % 2=1:=λq=>c ⟨λz=>(by rw[z]at h;cases h),q⟩;simp[F,W,o]
    .simp [F,W]
  subst e;exact⟨.tup [.str mk,.str sn,.str i,.str w],f,qs i,qs w,.inr ⟨mk,sn,i,w,Z,osn,hi,K,⟨r,R,Q,t⟩,V,rfl⟩,hf,C,by simp[F,more,di,d5,E,es,A]⟩
 .refine⟨.non,m,none,none,.inl rfl,H,al _,?_⟩;cases h:d.isEmpty<;>rw[h]at S
  .have o:¬d0 % 3=1:=λq=>j ⟨λz=>(by rw[z]at h;cases h),q⟩;simp[F,more,S,o]
  .simp [F,more,S]
def qU(s:List P):List P:=s.map λc=>.str (bu c)
theorem mV(e:∀c ∈ a,isCel c):∀x ∈ qU a,km x:=λx s=>by obtain⟨c,h,rfl⟩:=bN.mp s;obtain⟨x,_,_,_,o,_,_,_,_,rfl⟩:=e c h;exact⟨x,o,rfl⟩
theorem pi(m:∀c ∈ h,isCel c)(L:Lc)(j:Nat)(n:j < L.length)(S:aA) :
  bG (ai j) dF (Y (vv j) bZ) h L S=some (qU h,S):=by
 have:=cT (g:=ai j) (c:=dF) (e:=Y (vv j) bZ) (S:=S) (p:=fun _=>true) (f:=fun c=>.str (bu c)) (s:=h) (L:=L) (Inv:=fun s=>∃d,s=L.set j d) (fun v r s b=>by
  obtain⟨d,rfl⟩:=b;obtain⟨x,lo,i,a,t,_,_,_,_,rfl⟩:=m v r;have k:((L.set j d).set j (qt [.str x,.int lo,.int i,.int a]))[j]? = some (qt [.str x,.int lo,.int i,.int a]):=by rw[cj (by simpa using n)]
  exact⟨_,rfl,⟨_,cR ..⟩,rfl,λ_=>by simp[-cR,k,bu]⟩) ⟨L[j],(ij n).symm⟩
 rw[this,qJ.mpr λ_ _=>rfl];rfl
def KI(N:List P)(c:P):Prop:=∃x t,az x=true/\pJ N t/\c=.tup [.str x,t]
structure Stp(s:Str)(rooms cells whos rs:List P)(rm when tk:P)(chg sn:List P)(rm2:P):Prop where
 h1:rm ∈ rooms
 h2:rm2 ∈ rooms
 wh:kO (qU cells) when
 htk:kN s rs whos tk
 cl:chg.length≤3
 ch:∀c ∈ chg,KI (qU cells++more tk) c
 sl:sn.length≤3
 hsn:∀c ∈ sn,isSend s rs whos (qU cells++more tk) c
theorem qW(v:P):∀x ∈ more v,km x:=λx h=>by
 cases v with
 |non=>cases h
 |_=>exact⟨"it",by simp,by simpa[more] using h⟩
theorem FS(v:P):(more v).length≤1:=by cases v<;>simp[more]
theorem IC(C K B w:Int)(hrm:∀x ∈ r,km x)(A:r≠[])(Z:∀c ∈ e,isCel c)(hcl:e.length≤3)(hw:∀x ∈ u,km x)(hr:∀c ∈ l,isRoad c)(M:l.length≤8) :
  ∃rm V o p T Q,Stp s r e u l rm V o p T Q/\bU (Ph (n+4) "_law_step") [.lst [.int C,.int K,.int B,.int w],.str s,.lst r,.lst e,.lst u,.lst l]=some (.tup [rm,V,o,.lst p,.lst T,Q]):=by
 have e1:=pi Z [ql [.int C,.int K,.int B,.int w],qs s,ql r,ql e,ql u,ql l,none,none,none,none,none,none,none,none,none,none,none,none,none] 18 (by simp) [];have d:=mV Z;have hnl:(qU e).length=e.length:=by simp[qU]
 generalize X:qU e=f at e1 d hnl;obtain⟨snd,e2,hsn,_⟩:=C5 (s:=s) hr [ql [.int C,.int K,.int B,.int w],qs s,ql r,ql e,ql u,ql l,ql f,none,none,none,none,none,none,none,none,none,none,none,none] 18 1 (by simp) (by lia) rfl [];obtain⟨o,fr,q11,q12,htk,hfr,hfl,e3⟩:=step_if (Ph (n+3)) (Ph (n+2)) (d0:=C) (ds:=[.int K,.int B,.int w]) (rooms:=.lst r) (cells:=.lst e) d hw hsn;have hml:=FS o;have I:=qW o;generalize hM:more o=R at e3 hml I;have y:∀x ∈ f++R,km x:=λx hx=>(cI.mp hx).elim (d x) (I x)
 have j:f.length+R.length≤1000000:=by lia
 have hcf:e.length≤1000000:=by lia
 let F:Option D->Option D->Lc:=λq t=>[ql [.int C,.int K,.int B,.int w],qs s,ql r,ql e,ql u,ql l,ql f,ql snd,O o,ql fr,ql R,q11,q12,qr 0,q,t,none,none]
 let Inv:Nat->Lc->aA->Prop:=λi L S=>∃(H:List P)(q t:Option D),H.length≤i/\(∀c ∈ H,KI (f++R) c)/\L=F q t/\S=[.lst (H.map .p)]
 obtain⟨L',S',e4,p,q,t,E,hch,rfl,rfl⟩:=cn (g:=aY [ai 14,ai 15]) (b:=ga (Ph (n+3))) (Inv:=Inv) (s:=bM 0 fr) (k:=0) (L:=F none none) (S:=[.lst []]) (fun i v L S hv hI=>by
   obtain⟨x,N,rfl⟩:=gK hv;have hi:=bx N;obtain⟨x,ox,rfl⟩:=hfr x (bq N);obtain⟨H,q,t,Z,ho,rfl,rfl⟩:=hI;have G:H.length≤1000000:=by lia
   obtain⟨a,b,ha,hb,ea,eb⟩:∃a b:Int,(0 < a/\a < 1152921504606846976)/\(0 < b/\b < 1152921504606846976)/\L2.atI [P.int 1,.int 1000,.int 1000000] (i:Int)=some (.int a)/\L2.atI [P.int 2,.int 2000,.int 2000000] (i:Int)=some (.int b):=by
    have:i=0\/i=1\/i=2:=by lia
    rcases this with rfl|rfl|rfl
    .exact⟨1,2,by decide,by decide,by simp,by simp⟩
    .exact⟨1000,2000,by decide,by decide,by simp,by simp⟩
    .exact⟨1000000,2000000,by decide,by decide,by simp,by simp⟩
   by_cases h:K / a % 2=1
   .obtain⟨tr,htr,W⟩:=yR (n:=n+1) (K / b % 300) y;refine⟨_,F (qi (i:Int)) (qs x),[.lst ((H++[P.tup [.str x,tr]]).map D.p)],rfl,?_,_,_,_,by simp;lia,dZ ho ⟨x,tr,ox,htr,rfl⟩,rfl,rfl⟩;rw[<- dt];simp[ga,F,ea,eb,ha,hb,h,j,W,eZ,G]
   .refine⟨_,F (qi (i:Int)) (qs x),[.lst (H.map D.p)],rfl,?_,H,_,_,by lia,ho,rfl,rfl⟩;simp[ga,F,ea,ha,h]) ⟨[],none,none,by simp,λ_ h=>(by cases h),rfl,rfl⟩
 rw[dS]at E;obtain⟨z,hz0,hz1,hz2⟩:∃z:Int,0≤z/\z≤1/\cW [.bl (decide (3 < (r.length:Int)))]=some (.int z):=by
  by_cases h:3 < (r.length:Int)
  .exact⟨1,by decide,by decide,by simp[h,cW,lI]⟩
  .exact⟨0,by decide,by decide,by simp[h,cW,lI]⟩
 obtain⟨T,hsl,hsd,e5⟩:=E2 (n:=n) B (s:=s) y hw hr M (m:=2+z) (by lia) (by lia);obtain⟨V,hwh,e6⟩:=cond_ok (n:=n) (w % 27000) d;obtain⟨r1,hr1,e7⟩:=dY A (w / 27000);obtain⟨r2,hr2,e8⟩:=dY A (w / 216000);have hl:=len_pos A;refine⟨r1,V,o,p,T,r2,⟨hr1,hr2,X ▸ hwh,htk,by lia,X ▸ hM ▸ hch,hsl,X ▸ hM ▸ hsd⟩,?_⟩;rw[wt,aw];simp only[F]at e4;simp[oB,aX,hcf,xa M,lZ,e1,e2,jy,e3,e4,j,di,d5,hz2,e5,e6,hl,e7,e8,eU]
inductive isStep(s:Str)(rooms cells whos rs:List P)(v:P):Prop
 |mk (x:Str) (rm wh tk:P) (chg sn:List P) (rm2:P):az x=true->Stp s rooms cells whos rs rm wh tk chg sn rm2->v=.tup [.str x,rm,wh,tk,.lst chg,.lst sn,rm2]->isStep s rooms cells whos rs v
structure Fam(rs:List P)(nm:Str)(crew:Nat)(rooms cells whos steps:List P):Prop where
 hnm:az nm=true
 hcr:1≤crew/\crew≤4
 hro:∀x ∈ rooms,km x
 r0:rooms≠[]
 rl:rooms.length≤8
 hce:yf cells
 cl:cells.length≤3
 hwh:∀x ∈ whos,km x
 wl:whos.length≤2
 s0:steps≠[]
 sl:steps.length≤8
 hst:∀x ∈ steps,isStep nm rooms cells whos rs x
 sd:steps.Pairwise λa b=>bu a≠bu b
inductive isFam(rs:List P)(v:P):Prop
 |mk (nm:Str) (crew:Nat) (rooms cells whos steps:List P):Fam rs nm crew rooms cells whos steps->v=.tup [.str nm,.int (crew:Int),.lst rooms,.lst cells,.lst whos,.lst steps]->isFam rs v
theorem sB(s:List Int)(j:Nat)(o:Nat)(L:Lc)(c:j < L.length)(r:L[0]? = some (O (fI s)))(h:0≠j)(u:o+m≤16)(S:aA) :
  ∃a,bG (ai j) dF (bL (Ph (n+3) "_law_name") (v2 bC (ao (vi (o:Int)) (vv j)))) (Ev.intsFrom 0 m) L S=some (a,S)/\(∀y ∈ a,km y)/\a.length=(Ev.intsFrom 0 m).length:=by
 refine kU (Inv:=λf=>∃d,f=L.set j d) (λv p f t=>?_) ⟨L[j],(ij c).symm⟩;obtain⟨d,rfl⟩:=t;obtain⟨i,rfl,w⟩:=iD p;obtain⟨x,q,_,e⟩:=qV (n:=n) s (k:=o+i) (by lia);have e:bU (Ph (n+3) "_law_name") [fI s,.int ((o:Int)+(i:Int))]=some (.str x):=by rw[<- e];rfl
 have g:((L.set j d).set j (qi (0+(i:Int))))[j]? = some (qi (0+(i:Int))):=by rw[cj (by simpa using c)]
 have b:((L.set j d).set j (qi (0+(i:Int))))[0]? = some (O (fI s)):=by rw[aO (aS h),aO (aS h)];exact r
 simp only[cG]at g b ⊢;exact⟨_,.str x,rfl,⟨_,cR ..⟩,by simp[-cR,g,b,e],x,q,rfl⟩
theorem Nb(s:List Int)(f:Int)(C:0≤f)(D:f < 900)(L:Lc)(P:L.length=14)(F:L[0]? = some (O (fI s)))(x:L[12]? = some (qi f))(S:aA) :
  ∃l z o H:Int,bG (ai 13) dF (bL (Ph (n+2) "_law_mix") (v2 (bL (Ph (n+2) "_law_cell_at") (v2 bC (ao pV (aB (ao mN nJ) (vi 24))))) (ao (ao (vi 11) mN) nJ))) (Ev.intsFrom 0 4) L S=some ([.int l,.int z,.int o,.int H],S):=by
 obtain⟨B,e,y,h⟩:=kU (Q:=fun v=>∃d:Int,v=.int d) (g:=ai 13) (e:=bL (Ph (n+2) "_law_mix") (v2 (bL (Ph (n+2) "_law_cell_at") (v2 bC (ao pV (aB (ao mN nJ) (vi 24))))) (ao (ao (vi 11) mN) nJ))) (S:=S) (s:=Ev.intsFrom 0 4) (Inv:=fun m=>∃d,m=L.set 13 d) (L:=L) (fun v A m K=>by
  obtain⟨d,rfl⟩:=K;obtain⟨i,rfl,E⟩:=iD A;obtain⟨c,r,G,t,q⟩:=iq (n:=n) s (k:=5+(f+(0+(i:Int))) % 24) (p:=11+f+(0+(i:Int))) (by lia) (by lia) (by lia);have w:((L.set 13 d).set 13 (qi (0+(i:Int))))[13]? = some (qi (0+(i:Int))):=by rw[cj (by simp[P])]
  have u:((L.set 13 d).set 13 (qi (0+(i:Int))))[0]? = some (O (fI s)):=by rw[aO (by decide),aO (by decide)];exact F
  have j:((L.set 13 d).set 13 (qi (0+(i:Int))))[12]? = some (qi f):=by rw[aO (by decide),aO (by decide)];exact x
  simp only[cG]at w u j t q ⊢;exact⟨_,.int r,rfl,⟨_,cR ..⟩,by simp[-cR,w,u,j,t,q],r,rfl⟩) ⟨L[13]'(by lia),(ij (by lia)).symm⟩
 rw[cA]at h;match B,h with
 | [a,b,c,d],_=>obtain⟨a,rfl⟩:=y a (by simp);obtain⟨b,rfl⟩:=y b (by simp);obtain⟨c,rfl⟩:=y c (by simp);obtain⟨d,rfl⟩:=y d (by simp);exact⟨a,b,c,d,e⟩
theorem Dz(B:List Int)(k:Nat)(hk:k≤3)(hnm:az N=true)(w:Nat)(hcr:1≤w/\w≤4)(wide:Bool)(hr:∀c ∈ l,isRoad c)(hrl:l.length≤8) :
  ∃v,isFam l v/\(∃tl,v=.tup (.str N::.int (w:Int)::tl))/\bU (Ph (n+5) "_law_family") [fI B,.int (k:Int),.str N,.int (w:Int),.bl wide,.lst l]=some v:=by
 obtain⟨z,t,hz0,hz1,I,ht1,ez,et⟩:∃z t:Int,0≤z/\z≤1/\0 < t/\t≤8/\cW [.bl wide]=some (.int z)/\L2.atI [P.int 3,.int 8] z=some (.int t):=by
  cases wide
  .exact⟨0,3,by decide,by decide,by decide,by decide,by simp[cW,lI],by simp⟩
  .exact⟨1,8,by decide,by decide,by decide,by decide,by simp[cW,lI],by simp⟩
 obtain⟨e,hcl,hc,ec⟩:=G3 (n:=n) B (f:=(k:Int)) (m:=2+z) (by lia) (by lia) (by lia);obtain⟨c9,e91⟩:=wE (n:=n+2) B (k:=2+(k:Int)) (by lia);obtain⟨M,ha9,e92⟩:=wa (n:=n+2) c9 (p:=9) (by lia) (by lia);obtain⟨E,ha8,e82⟩:=wa (n:=n+2) c9 (p:=8) (by lia) (by lia);obtain⟨Z,ha7,e72⟩:=wa (n:=n+2) c9 (p:=7) (by lia) (by lia);have h9a:0≤M % t:=dg _ (by lia);have h9b:M % t < t:=dG _ I;have h7a:0≤Z % t:=dg _ (by lia);have h7b:Z % t < t:=dG _ I;have h8a:0≤E % (2+z):=dg _ (by lia);have h8b:E % (2+z) < 2+z:=dG _ (by lia);let A:List (Option D):=[O (fI B),qi (k:Int),qs N,qi (w:Int),O (.bl wide),ql l]
 obtain⟨r,er,W,o⟩:=sB (n:=n+1) B 11 4 (A++[ql e,qi M,none,none,none,none,none]) (by simp[A]) rfl (by decide) (m:=(1+M % t).toNat) (by lia) [];obtain⟨u,ew,hw,hwl⟩:=sB (n:=n+1) B 11 10 (A++[ql e,qi E,ql r,none,none,none,none]) (by simp[A]) rfl (by decide) (m:=(E % (2+z)).toNat) (by lia) [];rw[cA]at o hwl;have V:r≠[]:=λq=>by rw[q]at o;simp at o;lia
 let F:Option D->Option D->Option D->Lc:=λQ a d=>A++[ql e,Q,ql r,ql u,qr 0,a,d]
 let Inv:Nat->Lc->aA->Prop:=λi L S=>∃(y:List P)(Q a d:Option D),y.length=i/\((∀c ∈ y,isStep N r e u l c)/\∀k v,y[k]? = some v->hd (bu v)=some (105+k))/\L=F Q a d/\S=[.lst (y.map .p)]
 obtain⟨L',S',e4,stp,Q,a,d,G,⟨hst,X⟩,rfl,rfl⟩:=cn (g:=ai 11) (b:=gS (Ph (n+4))) (Inv:=Inv) (s:=Ev.intsFrom 0 (1+Z % t).toNat) (k:=0) (L:=F (qi E) none none) (S:=[.lst []]) (fun i v L S K hI=>by
   obtain⟨rfl,hi⟩:=ints_get K;obtain⟨y,Q,a,d,hc1,⟨ho,hon⟩,rfl,rfl⟩:=hI;simp only[cG];have m1:gJ 8 (k:Int)=true:=bW (by decide) (by lia);have m2:gJ 4 (8 * (k:Int)+(i:Int))=true:=bW (by decide) (by lia);obtain⟨d0,d1,d2,d3,ed⟩:=Nb (n:=n+2) B (4 * (8 * (k:Int)+(i:Int))) (by lia) (by lia) (F Q (qi (i:Int)) (qi (4 * (8 * (k:Int)+(i:Int))))++[none]) rfl rfl rfl [.lst (y.map .p)];obtain⟨x,hx,hxh,ex⟩:=qV (n:=n+1) B (k:=8+i) (by lia);have ex:bU (Ph (n+4) "_law_name") [fI B,.int (8+(i:Int))]=some (.str x):=by rw[<- ex];rfl
   obtain⟨rm,wh,tk,H,sn,C,hys,es⟩:=IC (n:=n) d0 d1 d2 d3 (s:=N) W V hc.1 (by lia) hw hr hrl;have T:y.length≤1000000:=by lia
   have R:pP (.tup [.str x]) (.tup [rm,wh,tk,.lst H,.lst sn,C])=some (.tup [.str x,rm,wh,tk,.lst H,.lst sn,C]):=rfl;refine⟨_,F (ql [.int d0,.int d1,.int d2,.int d3]) (qi (i:Int)) (qi (4 * (8 * (k:Int)+(i:Int)))),[.lst ((y++[P.tup [.str x,rm,wh,tk,.lst H,.lst sn,C]]).map D.p)],rfl,?_,_,_,_,_,by simp;lia,⟨dZ ho ⟨x,rm,wh,tk,H,sn,C,hx,hys,rfl⟩,fun k v K=>by
    rcases AC k y.length with hk|hk
    .rw [bF hk]at K;exact hon k v K
    .rw [cy hk]at K;have hk0:k-y.length=0:=by
      rcases AJ (k-y.length) with h|h
      .exact h
      .rw [qL (by simp;lia)]at K;cases K
     rw[hk0]at K;cases K;show hd x=_;rw[hxh];congr 1;lia⟩,rfl,rfl⟩
   rw[<- dt];simp only[F,A,nz,eB]at ed;simp[gS,F,A,m1,m2,aX,cA,lZ,ed,ex,es,R,eZ,T]) ⟨[],_,none,none,rfl,⟨λ_ h=>(by cases h),λ_ _ h=>(by simp at h)⟩,rfl,rfl⟩
 rw [cA] at G;refine⟨_,⟨N,w,r,e,u,stp,⟨hnm,hcr,W,V,by lia,hc,by lia,hw,by lia,fun q=>by rw [q] at G;simp at G;lia,by lia,hst,Ba.mpr fun i j hi hj hij q=>by
  have h1:=X i _ (bA hi);have h2:=X j _ (bA hj);rw[q,h2]at h1;have:=dH h1
  lia⟩,rfl⟩,⟨_,rfl⟩,?_⟩
 have hz2:0 < 2+z:=by lia
 have q1:(1+M % t).natAbs < 1000000:=by lia
 have q2:(1+Z % t).natAbs < 1000000:=by lia
 have q3:(E % (2+z)).natAbs < 1000000:=by lia
 have q4:(1+M % t).toNat≤1000000:=by lia
 have q5:(E % (2+z)).toNat≤1000000:=by lia
 rw[sR,aw];simp only[F,A,nz,eB]at e4 er ew;simp only[show((4:Nat):Int)=4 from rfl]at er;simp only[show((10:Nat):Int)=10 from rfl]at ew;simp[lL,ez,et,ec,e91,e92,e82,e72,I,hz2,q1,q2,q3,q4,q5,aX,cA,lZ,er,ew,e4]
theorem xq(c:List Int)(j:Nat)(L:Lc)(o:j < L.length)(H:L[0]? = some (O (fI c)))(b:0≠j)(K:m≤16)(S:aA) :
  ∃q,bG (ai j) dF (bL (Ph (n+3) "_law_name") (v2 bC (vv j))) (Ev.intsFrom 0 m) L S=some (q,S)/\(∀y ∈ q,km y)/\(∀(i:Nat) y,q[i]? = some y->∃x,y=.str x/\hd x=some (97+i))/\q.length=(Ev.intsFrom 0 m).length:=by
 let f:P->P:=λv=>(bU (Ph (n+3) "_law_name") [fI c,v]).getD .non
 have w:∀i,i < m->∃x,az x=true/\hd x=some (97+i)/\bU (Ph (n+3) "_law_name") [fI c,.int (i:Int)]=some (.str x)/\f (.int (i:Int))=.str x:=λi e=>by obtain⟨x,t,u,r⟩:=qV (n:=n) c (k:=i) (by lia);exact⟨x,t,u,r,by simp[f,r]⟩
 refine⟨(Ev.intsFrom 0 m).map f,?_,λy a=>?_,λi y a=>?_,by simp⟩
 .rw [cT (p:=λ_=>true) (f:=f) (Inv:=λg=>∃d,g=L.set j d) (λv h g F=>?_) ⟨L[j],(ij o).symm⟩,qJ.mpr λ_ _=>rfl];obtain⟨d,rfl⟩:=F;obtain⟨i,rfl,e⟩:=iD h;obtain⟨x,t,_,r,s⟩:=w i e;have l:((L.set j d).set j (qi (0+(i:Int))))[j]? = some (qi (0+(i:Int))):=by
   rw[cj (by simpa using o)]
  have z:((L.set j d).set j (qi (0+(i:Int))))[0]? = some (O (fI c)):=by rw[aO (aS b),aO (aS b)];exact H
  simp only[cG]at l z ⊢;exact⟨_,rfl,⟨_,cR ..⟩,rfl,λ_=>by rw[s];simp[-cR,l,z,r]⟩
 .obtain⟨v,h,rfl⟩:=bN.mp a;obtain⟨i,rfl,e⟩:=iD h;obtain⟨x,t,_,_,s⟩:=w i e;rw[cG,s];exact⟨x,t,rfl⟩
 .rw [dJ]at a;cases h:(Ev.intsFrom 0 m)[i]? with
  |none=>rw[h]at a;cases a
  |some v=>rw[h]at a;cases a;obtain⟨rfl,e⟩:=ints_get h;obtain⟨x,_,u,_,s⟩:=w i e;exact⟨x,by rw[cG,s],u⟩
noncomputable def iK:P->Nat
 | .tup (_::.int c::_)=>c.toNat
 |_=>0
def Ge(v:P):Prop:=∃(k f s:Str),(k="weak"\/k="strong")/\az f=true/\az s=true/\v=.tup [.str k,.str f,.str s]
structure Pln(fams roads wishes:List P):Prop where
 hf:∀f ∈ fams,isFam roads f
 cr:∃c,(∀f ∈ fams,iK f≤c)/\fams.length * c≤4
 f0:1≤fams.length/\fams.length≤4
 hr:∀r ∈ roads,isRoad r
 ra:∀r ∈ roads,(∃f ∈ fams,bu f=rA r)/\∃f ∈ fams,bu f=rB r
 rl:roads.length≤8
 hw:∀w ∈ wishes,Ge w
 wl:wishes.length≤6
 rd:roads.Pairwise RD
 fd:∀f ∈ fams,∀g ∈ fams,bu f=bu g->f=g
theorem CM(f:h->a)(x:List h)(i:Int):L2.atI (x.map f) i=(L2.atI x i).map f:=by
 unfold L2.atI;rw[aZ];cases L2.F6 x.length i with
 |none=>rfl
 |some j=>simp
theorem Jc(ns:List Int):∃o A H,Pln o A H/\bU (Ph (n+6) "_law_plan") [fI ns,.int 3]=some (.tup [.lst o,.lst A,.lst H]):=by
 obtain⟨K,e0⟩:=wE (n:=n+3) ns (k:=0) (by lia);generalize hwd:decide (K / 64 % 8=1)=wide;obtain⟨z,t,hz0,hz1,ht0,ht1,ez,et⟩:∃z t:Int,0≤z/\z≤1/\0 < t/\t≤4/\cW [.bl wide]=some (.int z)/\L2.atI [P.int 2,.int 4] z=some (.int t):=by
  cases wide
  .exact⟨0,2,by decide,by decide,by decide,by decide,by simp[cW,lI],by simp⟩
  .exact⟨1,4,by decide,by decide,by decide,by decide,by simp[cW,lI],by simp⟩
 have hm0:0≤K % t:=dg _ (by lia);have hm1:K % t < t:=dG _ ht0;obtain⟨m,hm⟩:∃m:Nat,1+K % t=(m:Int):=⟨(1+K % t).toNat,by lia⟩;have hm2:1≤m/\m≤4:=by lia
 obtain⟨B,en,hnm,hnh,hnl⟩:=xq (n:=n+2) ns 8 [O (fI ns),qi 3,qi K,O (.bl wide),qi (m:Int),none,none,none,none,none,none,none,none,none] (by simp) rfl (by decide) (m:=m) (by lia) [];rw [cA] at hnl;obtain⟨A,⟨hrl,hr,hrd⟩,er⟩:=Fb (n:=n+2) ns hnm (fun i j x h1 h2=>by
  obtain⟨a,rfl,ha⟩:=hnh i _ h1;obtain⟨b,e,hb⟩:=hnh j _ h2;cases e;rw[ha]at hb;have:=dH hb
  lia) (by lia) (m:=2+z) (by lia) (by lia)
 obtain⟨b,hb0,hb1,hbm,eb⟩:∃b:Int,0 < b/\b≤4/\m * b.toNat≤4/\L2.atI [P.int (3+z),.int 2,.int 1,.int 1] ((m:Int)-1)=some (.int b):=by
  have:m=1\/m=2\/m=3\/m=4:=by lia
  rcases this with rfl|rfl|rfl|rfl
  .exact⟨3+z,by lia,by lia,by lia,by simp⟩
  .exact⟨2,by decide,by decide,by decide,by simp⟩
  .exact⟨1,by decide,by decide,by decide,by simp⟩
  .exact⟨1,by decide,by decide,by decide,by simp⟩
 let F:Option D->Option D->Option D->Option D->Option D->Option D->Lc:=λZ q9 E q11 V W=>[O (fI ns),qi 3,qi K,O (.bl wide),qi (m:Int),ql B,ql A,qr 0,Z,q9,E,q11,V,W]
 let Inv:Nat->Lc->aA->Prop:=λi L S=>∃(Q:List P)(Z q9 E:Option D),Q.length=i/\(∀c ∈ Q,isFam A c/\iK c≤b.toNat)/\(∀j x,B[j]? = some x->j < i->∃f,Q[j]? = some f/\x=.str (bu f))/\L=F Z q9 E none none none/\S=[.lst (Q.map .p)]
 obtain⟨L',S',e1,o,Z,q9,E,hfl,hfa,hfn,rfl,rfl⟩:=cn (g:=aY [ai 8,ai 9]) (b:=iP (Ph (n+5))) (Inv:=Inv) (s:=bM 0 B) (k:=0) (L:=F none none none none none none) (S:=[.lst []]) (fun i v L S hv hI=>by
   obtain⟨x,hx1,rfl⟩:=gK hv;have hi:=bx hx1;obtain⟨nm,hnm1,rfl⟩:=hnm x (bq hx1);obtain⟨Q,Z,q9,E,hc,ho,hon,rfl,rfl⟩:=hI;obtain⟨a,ha,ea⟩:∃a:Int,(0 < a/\a < 1152921504606846976)/\L2.atI [P.int 4,.int 12,.int 16,.int 16] (i:Int)=some (.int a):=by
    have:i=0\/i=1\/i=2\/i=3:=by lia
    rcases this with rfl|rfl|rfl|rfl
    .exact⟨4,by decide,by simp⟩
    .exact⟨12,by decide,by simp⟩
    .exact⟨16,by decide,by simp⟩
    .exact⟨16,by decide,by simp⟩
   have hb2:0≤K / a % b:=dg _ (by lia);have hb3:K / a % b < b:=dG _ hb0;obtain⟨cr,hcr⟩:∃cr:Nat,1+K / a % b=(cr:Int):=⟨(1+K / a % b).toNat,by lia⟩;obtain⟨v,hv2,⟨tl,hv3⟩,ev⟩:=Dz (n:=n) ns i (by lia) hnm1 cr (by lia) wide (λr h=>(hr r h).1) hrl;have T:Q.length≤1000000:=by lia
   refine⟨_,F (qi (i:Int)) (qs nm) (qi (cr:Int)) none none none,[.lst ((Q++[v]).map D.p)],rfl,?_,_,_,_,_,by simp;lia,dZ ho ⟨hv2,?_⟩,λj x hj hji=>?_,rfl,rfl⟩
   .rw [<- dt];simp[iP,F,ea,ha,ez,eb,hb0,hcr,ev,eZ,T]
   .rw [hv3];simp[iK];lia
   .by_cases hjj:j < i
    .obtain⟨f,M,e⟩:=hon j x hj (by lia);exact⟨f,by rw[bF (bx M)];exact M,e⟩
    .have:j=i:=by lia
     subst this;rw[hx1]at hj;cases hj;exact⟨v,by rw[cy (by lia),hc];simp,by rw[hv3];rfl⟩) ⟨[],none,none,none,rfl,λ_ h=>(by cases h),λ_ _ _ h=>(by lia),rfl,rfl⟩
 have X:o.length=m:=by rw[hfl,dS,hnl];lia
 have hf0:o≠[]:=λq=>by rw[q]at X;simp at X;lia
 have hfn':∀x ∈ B,∃f ∈ o,x=.str (bu f):=λx hx=>by obtain⟨j,hj,e⟩:=lX.mp hx;obtain⟨f,M,e⟩:=hfn j x (by rw[bA hj,e]) (by rw[dS];lia);exact⟨f,bq M,e⟩
 have hfd:∀f ∈ o,∃a:Nat,o[a]? = some f/\hd (bu f)=some (97+a):=λf M=>by obtain⟨a,ha,e⟩:=lX.mp M;have h1:=bA ha;rw[e]at h1;have h2:=bA (l:=B) (i:=a) (by lia);obtain⟨g,hg,e2⟩:=hfn a _ h2 (by rw[dS];lia);rw[h1]at hg;cases hg;obtain⟨y,e3,hy⟩:=hnh a _ h2;rw[e2]at e3;cases e3;exact⟨a,h1,hy⟩
 let Inv3:Nat->Lc->aA->Prop:=λi L S=>∃(Q:List P)(Z V W:Option D),Q.length=i/\(∀c ∈ Q,Ge c)/\L=F Z q9 E (qr 1) V W/\S=[.lst (o.map .p),.lst (Q.map .p)]
 obtain⟨w,hw0,hw1,ew⟩:∃w:Int,0≤w/\w≤1/\cW [.bl (wide && decide (K % 3=1))]=some (.int w):=by
  cases (wide && decide (K % 3=1))
  .exact⟨0,by decide,by decide,rfl⟩
  .exact⟨1,by decide,by decide,rfl⟩
 obtain⟨L',S',e2,H,q8',V,W,hwl,hwi,rfl,rfl⟩:=cn (g:=ai 8) (b:=iN (Ph (n+5))) (Inv:=Inv3) (s:=Ev.intsFrom 0 (K / 48 % 3+4 * w).toNat) (k:=0) (L:=F Z q9 E (qr 1) none none) (S:=[.lst (o.map .p),.lst []]) (fun i v L S hv hI=>by
   obtain⟨rfl,hi⟩:=ints_get hv;obtain⟨Q,Z,V,W,hc,ho,rfl,rfl⟩:=hI;simp only[cG];obtain⟨c,d,hd,e3,e4⟩:=iq (n:=n+3) ns (k:=4) (p:=20+(i:Int)) (by lia) (by lia) (by lia);obtain⟨f,M,ef⟩:=dY hf0 d;rw[X]at ef;obtain⟨nm,R,I,G,u,C,N,rfl⟩:=(hfa f M).1;obtain⟨s,hs,es⟩:=dY N.s0 (d / 8);have hls:=len_pos N.s0;obtain⟨x,rm,wh,tk,chg,sn,rm2,hx,hys,rfl⟩:=N.hst s hs;obtain⟨mk,hmk,emk⟩:=oX (a:="weak") (b:="strong") (d / 4);have T:Q.length≤1000000:=by lia
   have ef2:L2.atI (o.map D.p) (d % (m:Int))=qt [.str nm,.int (R:Int),.lst I,.lst G,.lst u,.lst C]:=by rw[CM,ef];rfl
   have hmp:(0:Int) < (m:Int):=by lia
   have hmp2:0 < m:=by lia
   refine⟨_,F (qi (i:Int)) q9 E (qr 1) (qi d) (qt [.str nm,.int (R:Int),.lst I,.lst G,.lst u,.lst C]),[.lst (o.map .p),.lst ((Q++[P.tup [.str mk,.str nm,.str x]]).map D.p)],rfl,?_,_,_,_,_,by simp;lia,dZ ho ⟨mk,nm,x,hmk,N.hnm,hx,rfl⟩,rfl,rfl⟩;rw[<- dt];have e5:L2.atI [P.str nm,.int (R:Int),.lst I,.lst G,.lst u,.lst C] 5=some (.lst C):=bS (by decide) rfl;simp[iN,F,e3,e4,hmp,hmp2,ef2,e5,emk,di,d5,hls,es,eZ,T]) ⟨[],_,none,none,rfl,λ_ h=>(by cases h),rfl,rfl⟩
 rw[cA]at hwl;refine⟨o,A,H,⟨λf h=>(hfa f h).1,⟨b.toNat,λf h=>(hfa f h).2,by rw[X];exact hbm⟩,by lia,λr h=>(hr r h).1,λr h=>⟨?_,?_⟩,hrl,hwi,by lia,hrd,λf M g hg q=>?_⟩,?_⟩
 .obtain⟨f,M,e⟩:=hfn' _ (hr r h).2.1;exact⟨f,M,(P.str.inj e).symm⟩
 .obtain⟨f,M,e⟩:=hfn' _ (hr r h).2.2;exact⟨f,M,(P.str.inj e).symm⟩
 .obtain⟨a,h1,h2⟩:=hfd f M;obtain⟨a',h3,h4⟩:=hfd g hg;rw[q,h4]at h2;have:=dH h2
  rw[show a=a' by lia,h3]at h1;exact(dH h1).symm
 have q1:(K / 48 % 3+4 * w).natAbs < 1000000:=by lia
 have q2:gJ 4 w=true:=bW (by decide) (by lia);have q3:m < 1000000:=by lia
 have q4:m≤1000000:=by lia
 have t0:toP 9 (.ref 0) [.lst (o.map .p),.lst (H.map .p)]=some (.lst o,[.fz (.lst o),.lst (H.map .p)]):=eU rfl;have t1:toP 9 (.ref 1) [.fz (.lst o),.lst (H.map .p)]=some (.lst H,[.fz (.lst o),.fz (.lst H)]):=eU rfl;rw[wu,aw];simp only[F]at e1 e2;cases wide
 .simp only[Bf]at ew;have hzw:z=w:=by rw[ez]at ew;cases ew;rfl
  subst hzw;simp[kZ,e0,hwd,ez,et,ht0,hm,q1,q2,q3,q4,aX,cA,lZ,en,er,e1,ew,e2,t0,t1]
 .simp only[Be]at ew;simp[kZ,e0,hwd,ez,et,ht0,hm,q1,q2,q3,q4,aX,cA,lZ,en,er,e1,ew,e2,t0,t1]
end My
namespace My
open PySem L2 Ev
section
variable{m:List P}
def hw:Nat->List P->List (Nat×P)
 |_,[]=>[]
 |k,f::r=>List.replicate (iK f) (k,f)++hw (k+1) r
theorem isFam.crew(h:isFam m f):iK f≤4:=by obtain⟨n,c,r,a,w,s,x,rfl⟩:=h;simpa[iK] using x.hcr.2
theorem zf:∀{a:List P}(k:Nat),(∀f ∈ a,isFam m f)->(hw k a).length≤4 * a.length
 | [],k,_=>by simp[hw]
 |f::r,k,h=>by have:=zf (a:=r) (k+1) λx e=>h x (aH _ e);have c:=(h f aF).crew;simp[hw];lia
theorem o5:∀{a:List P}{k:Nat}{x:Nat×P},x ∈ hw k a->∃j,x.1=k+j/\a[j]? = some x.2
 | [],k,x,h=>by simp[hw]at h
 |f::r,k,x,h=>by
  unfold hw at h;rcases cI.mp h with h|h
  .obtain⟨_,rfl⟩:=qI.mp h;exact⟨0,by simp,by simp⟩
  .obtain⟨j,s,e⟩:=o5 h;exact⟨j+1,by lia,by simpa using e⟩
def homes(f:List P):List P:=(hw 0 f).map λx=>.int (x.1:Int)
def aU(f:List P):List P:=(hw 0 f).map (·.2)
theorem dR(S:aA)(x:SO):(S++[x])[S.length]? = some x:=by simp
theorem jj(k:Nat):((k+1:Nat):Int)=(k:Int)+1:=by lia
theorem Cw(y K:Str->GF)(S:aA)(l:P):∀(b:List P)(k:Nat)(n:List P)(g i:Option D),(∀f ∈ b,isFam m f)->n.length+4 * b.length≤1000 ->
  ∃q v,bc (aY [ai 2,ai 3]) (gh y) (bM (k:Int) b) [O l,qr S.length,g,i] (S++[.lst (n.map .p)])=some (.nx,[O l,qr S.length,q,v],S++[.lst ((n++(hw k b).map λx=>P.int (x.1:Int)).map .p)])
 | [],k,n,g,i,_,_=>⟨g,i,by simp[bM,bc,hw]⟩
 |f::r,k,n,g,i,h,H=>by
  obtain⟨u,c,o,a,w,s,z,rfl⟩:=h f aF;have A:=z.hcr.2;simp only[aR]at H;obtain⟨q,v,e⟩:=Cw y K S l r (k+1) (n++List.replicate c (P.int (k:Int))) (qi (k:Int)) (qt [.str u,.int (c:Int),.lst o,.lst a,.lst w,.lst s]) (λx F=>h x (aH _ F)) (by simp;lia);refine⟨q,v,?_⟩;have j:(hw k (.tup [.str u,.int (c:Int),.lst o,.lst a,.lst w,.lst s]::r)).map (λx=>P.int (x.1:Int))=List.replicate c (P.int (k:Int))++(hw (k+1) r).map (λx=>P.int (x.1:Int)):=by simp[hw,iK]
  rw[j,<- eD];unfold bM;rw[jj]at e;refine(bj (h:=[O l,qr S.length,qi (k:Int),qt [.str u,.int (c:Int),.lst o,.lst a,.lst w,.lst s]]) (L2:=[O l,qr S.length,qi (k:Int),qt [.str u,.int (c:Int),.lst o,.lst a,.lst w,.lst s]]) (x:=S++[.lst ((n++List.replicate c (P.int (k:Int))).map .p)]) rfl ?_).trans e;have d:c≤1000000:=by lia
  have p:c < 1000000:=by lia
  have t:n.length+c≤1000000:=by lia
  simp[gh,eZ,d,p,t]
theorem KS(h:∀f ∈ s,isFam m f)(l:s.length≤4)(r w:P)(S:aA):Ph (n+2) "families_of" [.p (.tup [.lst s,r,w])] S=some (.ref S.length,S++[.lst ((homes s).map .p)]):=by obtain⟨q,a,e⟩:=Cw (Ph (n+1)) (Ph n) S (.tup [.lst s,r,w]) s 0 [] none none h (by simp;lia);rw[p7];simp only[eB,eS]at e;have x:=e;rw[show((0:Nat):Int)=0 from rfl]at x;simp[m5,lp,x,homes]
theorem Cv(h:∀f ∈ s,isFam m f)(l:s.length≤4)(r w:P):bU (Ph (n+2) "families_of") [.tup [.lst s,r,w]]=some (.lst (homes s)):=by unfold bU;rw[aG,eS,KS (n:=n) h l r w []];simp
def aL(f:List P):LS:=(aU f).map bu
theorem j8(h:∀f ∈ s,isFam m f)(a:f ∈ aU s):isFam m f:=by unfold aU at a;obtain⟨x,n,rfl⟩:=bN.mp a;obtain⟨j,_,e⟩:=o5 n;exact h _ (bq e)
noncomputable def a_(N:LS)(s:Str):List Nat:=(List.range N.length).filter λi=>decide (N[i]? = some s)
theorem CA:∀(xs:List P)(k:Nat),bM (k:Int) xs=(AN k xs.length).map λi=>.tup [.int (i:Int),(xs[i-k]?).getD .non]
 | [],k=>rfl
 |x::r,k=>by
  unfold bM;have h:=CA r (k+1);rw[jj]at h;rw[h,aR,vh,aG];simp only[Nat.sub_self];congr 1;refine AZ λi a=>?_
  have:=(List.mem_range'_1.mp a).1;rw[show i-k=(i-(k+1))+1 by lia,List.getElem?_cons_succ]
theorem xR(xs:List P):bM 0 xs=(List.range xs.length).map λi=>.tup [.int (i:Int),(xs[i]?).getD .non]:=by have:=CA xs 0;rw[List.range_eq_range'];simpa using this
noncomputable def pr(road:P)(n o:Nat):P:=.tup [road,.int (n:Int),.int (o:Int)]
def y0(N:LS)(road:P):List P:=(a_ N (rA road)).flatMap λn=>((a_ N (rB road)).filter λo=>!decide (n=o)).map λo=>pr road n o
def bQ(N:LS)(r:List P):List P:=r.flatMap (y0 N)
noncomputable def bJ(s:List Nat):List P:=s.map λ(i:Nat)=>P.int (i:Int)
theorem dW(N:LS)(s:Str):(a_ N s).length≤N.length:=by unfold a_;exact aI (ig _ _) (by simp)
theorem vO(n:Nat)(road:P)(os:List Nat):((os.filter λo=>!decide (n=o)).map λo=>pr road n o).length≤os.length:=by rw[aZ];exact ig _ _
theorem vU(N:LS)(road:P)(os:List Nat)(h:os.length≤16):∀(s:List Nat),(s.flatMap λn=>(os.filter λo=>!decide (n=o)).map λo=>pr road n o).length≤16 * s.length
 | []=>by simp
 |i::s=>by
  have:=vU N road os h s;have:=vO i road os
  simp only[ie,bz,aR];lia
theorem Cr:∀{a:List P}(k:Nat),(∀f ∈ a,iK f≤e)->(hw k a).length≤a.length * e
 | [],k,_=>by simp[hw]
 |f::r,k,h=>by have:=Cr (a:=r) (k+1) λx s=>h x (aH _ s);have c:=h f aF;simp[hw,Nat.add_mul];lia
theorem je(h:Pln f e s):(aU f).length≤4:=by
 obtain⟨c,x,a⟩:=h.cr;have:=Cr 0 x
 unfold aU;simp;lia
theorem lD(h:Pln f e s):(aL f).length≤4:=by unfold aL;rw[aZ];exact je h
end
section
variable{m:List P}
theorem Gu(h:e ∈ homes s):∃p f,e=.int ((p:Nat):Int)/\s[p]? = some f/\f ∈ aU s:=by unfold homes at h;obtain⟨x,a,rfl⟩:=bN.mp h;obtain⟨j,n,k⟩:=o5 a;exact⟨x.1,x.2,rfl,by rw[n,d_];exact k,bN.mpr ⟨x,a,rfl⟩⟩
theorem Dq(h:∀p x,s[p]? = some x->g (.int ((p:Nat):Int))=f x):(homes s).map g=(aU s).map f:=by
 unfold homes aU;rw[lU,lU];refine AZ λx n=>?_
 obtain⟨j,e,a⟩:=o5 n;exact h x.1 x.2 (by rw[e,d_];exact a)
theorem jS(xs:List e):xs.filter (λ_=>true)=xs:=qJ.mpr λ_ _=>rfl
theorem o6:(homes f).length=(aU f).length:=by simp[homes,aU]
theorem bH(h:xs[e]? = some s):L2.atI xs ((e:Nat):Int)=some s:=bS (by lia) (by simpa using h)
theorem Fk(q:∀f ∈ s,isFam m f)(r w:P)(S:aA):bG (ai 7) dF (Y (Y (Y bC bZ) j0) bZ) (homes s) [qt [.lst s,r,w],none,none,none,none,none,none,none] S=some ((aL s).map .str,S):=by
 rw[cT (p:=λ_=>true) (f:=λv=>match v with | .int i=>(match s[i.toNat]? with|some f=>.str (bu f)|none=>.non)|_=>.non) (Inv:=λL=>∃d,L=[qt [.lst s,r,w],none,none,none,none,none,none,d]) (λv g L b=>?_) ⟨none,rfl⟩]
 .rw [jS,Dq (f:=λf=>.str (bu f)) λp x j=>by simp[j]];simp[aL]
 .obtain⟨d,rfl⟩:=b;obtain⟨p,f,rfl,n,h⟩:=Gu g;obtain⟨l,c,o,a,k,t,u,rfl⟩:=j8 q h;have e:=bH n;exact⟨[qt [.lst s,r,w],none,none,none,none,none,none,qi (p:Int)],rfl,⟨_,rfl⟩,rfl,λ_=>by simp[e,n,bu]⟩
def oth(N:LS)(s:Str)(n:Nat):List Nat:=(a_ N s).filter λo=>!decide (n=o)
theorem C9(N:LS)(a b:Str)(kd:P)(c:Int)(x s:Bool)(l r:D)(o:Nat)(q n:Option D)(S:aA):bG (ai 7) (jd (eT yg tt) (aK (U (Y bI j0)) (U (Y cD ce)))) j0 (Ev.intsFrom 0 N.length)
  [some l,ql (N.map .str),some r,qt [.str a,.str b,kd,.int c,.bl x,.bl s],qi (o:Int),q,n,none] S=some (bJ (oth N b o),S):=by
 rw[cT (p:=λv=>match v with | .int i=>(!decide (o=i.toNat)) && decide (N[i.toNat]? = some b)|_=>false) (f:=id) (Inv:=λL=>∃d,L=[some l,ql (N.map .str),some r,qt [.str a,.str b,kd,.int c,.bl x,.bl s],qi (o:Int),q,n,d]) (λv u L t=>?_) ⟨none,rfl⟩]
 .congr 2;unfold Ev.intsFrom bJ oth a_;rw[qD,i5,List.filter_filter];simp only[cG];congr 1
 .obtain⟨d,rfl⟩:=t;obtain⟨i,rfl,w⟩:=iD u;simp only[cG];have g:N[i]? = some N[i]:=bA w;have e:L2.atI (N.map P.str) (i:Int)=some (.str N[i]):=bH (by rw[dJ,g];rfl);refine⟨[some l,ql (N.map .str),some r,qt [.str a,.str b,kd,.int c,.bl x,.bl s],qi (o:Int),q,n,qi (i:Int)],rfl,⟨_,rfl⟩,?_,λ_=>by simp⟩;by_cases h:o=i
  .simp [h]
  .have k:¬(i:Int)=(o:Int):=by lia
   have m:¬i=o:=λz=>h z.symm;simp[h,k,m,e,g];first|done|exact uZ.mpr Iff.rfl
theorem IZ(road:P)(n:Nat)(L:Lc)(l:L.length=8)(g:L[3]? = some (O road))(x:L[4]? = some (qi (n:Int)))(os:List Nat)(S:aA):bG (ai 7) dF (aP (v3 cD gB j0)) (bJ os) L S=some (os.map λo=>pr road n o,S):=by
 rw[cT (p:=λ_=>true) (f:=λv=>.tup [road,.int (n:Int),v]) (Inv:=λh=>∃d,h=L.set 7 d) (λv b h a=>?_) ⟨L[7],(ij (by lia)).symm⟩]
 .rw [jS];unfold bJ pr;rw[lU];rfl
 .obtain⟨d,rfl⟩:=a;have k:((L.set 7 d).set 7 (O v))[7]? = some (O v):=by rw[cj (by simp[l])]
  have e:((L.set 7 d).set 7 (O v))[3]? = some (O road):=by rw[aO (by decide),aO (by decide)];exact g
  have s:((L.set 7 d).set 7 (O v))[4]? = some (qi (n:Int)):=by rw[aO (by decide),aO (by decide)];exact x
  exact⟨_,rfl,⟨_,cR ..⟩,rfl,λ_=>by simp[-cR,k,e,s]⟩
def pD(N:LS)(road:P)(n:Nat):List P:=if decide (N[n]? = some (rA road))=true then (oth N (rB road) n).map λo=>pr road n o else []
theorem Dd(N:LS)(road:P)(o:Nat)(h:N.length≤16):(pD N road o).length≤16:=by
 unfold pD;split
 .have x:=vO o road (a_ N (rB road));have a:=dW N (rB road);unfold oth;lia
 .simp
theorem R8(E M:Str->GF)(S:aA)(l:D)(N:LS)(y:N.length≤16)(v:isRoad road):∀(r:List Nat)(x:List P)(d w k:Option D),(∀i ∈ r,i < N.length)->x.length+16 * r.length≤50000 ->
  ∃q s n,bc (aY [ai 4,ai 5]) (f_ E) (r.map λ(i:Nat)=>P.tup [.int (i:Int),((N.map P.str)[i]?).getD .non]) [some l,ql (N.map .str),qr S.length,O road,d,w,k] (S++[.lst (x.map .p)]) =
   some (.nx,[some l,ql (N.map .str),qr S.length,O road,q,s,n],S++[.lst ((x++r.flatMap (pD N road)).map .p)])
 | [],x,d,w,k,_,_=>⟨d,w,k,by simp[bc]⟩
 |i::r,x,d,w,k,F,T=>by
  simp only[aR]at T;have t:=Dd N road i y;have K:=F i aF;have z:N[i]? = some N[i]:=bA K;have H:((N.map P.str)[i]?).getD .non=.str N[i]:=by rw[dJ,z];rfl
  rw[ie,<- eD,aG,H];by_cases h:N[i]=rA road
  .have g:pD N road i=(oth N (rB road) i).map λo=>pr road i o:=by unfold pD;rw[z,h];simp
   rw[g]at t ⊢;obtain⟨q,s,n,e⟩:=R8 E M S l N y v r (x++(oth N (rB road) i).map λo=>pr road i o) (qi (i:Int)) (qs (N[i])) (ql (bJ (oth N (rB road) i))) (λj A=>F j (aH _ A)) (by rw[bz];lia);refine⟨q,s,n,?_⟩;refine(bj (h:=[some l,ql (N.map .str),qr S.length,O road,qi (i:Int),qs (N[i]),k]) rfl ?_).trans e;have p:x.length+(oth N (rB road) i).length≤1000000:=by rw[aZ]at t;lia
   have f:(oth N (rB road) i).length≤1000000:=by lia
   have m:(bJ (oth N (rB road) i)).length=(oth N (rB road) i).length:=by simp[bJ]
   have V:N.length < 1000000:=by lia
   have C:N.length≤1000000:=by lia
   have u:=IZ road i [some l,ql (N.map .str),qr S.length,O road,qi (i:Int),qs (N[i]),ql (bJ (oth N (rB road) i)),none] rfl rfl rfl (oth N (rB road) i) (S++[.lst (x.map .p)]);obtain⟨a,b,kd,c,G,I,Q,R,B,_,_,rfl⟩:=v;have L:=C9 N a b (.str kd) c G I l (.ref S.length) i (qs (N[i])) k (S++[.lst (x.map .p)]);simp only[rA,rB]at h p f m u ⊢;simp[f_,h,aX,di,d5,V,C,cA,lZ,eZ,m,f,p];simp[h]at L u;simp[L,u,m,f,p]
  .have g:pD N road i=[]:=by unfold pD;rw[z];simp[h]
   rw[g,eA];obtain⟨q,s,n,e⟩:=R8 E M S l N y v r x (qi (i:Int)) (qs (N[i])) k (λj A=>F j (aH _ A)) (by lia);refine⟨q,s,n,?_⟩;refine(bj (h:=[some l,ql (N.map .str),qr S.length,O road,qi (i:Int),qs (N[i]),k]) rfl ?_).trans e;obtain⟨a,b,kd,c,G,I,Q,R,B,_,_,rfl⟩:=v;simp only[rA]at h;simp[f_,h]
end
section
variable{m:List P}
theorem lF(p:e->Bool)(f:e->List s):∀xs:List e,(xs.filter p).flatMap f=xs.flatMap λx=>if p x=true then f x else []
 | []=>rfl
 |x::r=>by
  by_cases h:p x=true
  .rw [vq h,ie,ie,lF p f r,af h]
  .rw [vp h,ie,lF p f r,ah h,eB]
theorem Mc(N:LS)(road:P):(List.range N.length).flatMap (pD N road)=y0 N road:=by unfold y0;rw[show a_ N (rA road)=(List.range N.length).filter (λi=>decide (N[i]? = some (rA road))) from rfl,lF];rfl
theorem oV(N:LS)(road:P)(h:N.length≤16):(y0 N road).length≤256:=by
 have x:=dW N (rA road);have a:=dW N (rB road);have:=vU N road (a_ N (rB road)) (by lia) (a_ N (rA road))
 unfold y0;lia
theorem Ti(u l:Str->GF)(S:aA)(p:D)(N:LS)(d:N.length≤16):∀(o:List P)(a:List P)(t q e n:Option D),(∀r ∈ o,isRoad r)->a.length+256 * o.length≤10000 ->
  ∃w x s k,bc (ai 3) (lm u) o [some p,ql (N.map .str),qr S.length,t,q,e,n] (S++[.lst (a.map .p)]) =
   some (.nx,[some p,ql (N.map .str),qr S.length,w,x,s,k],S++[.lst ((a++bQ N o).map .p)])
 | [],a,t,q,e,n,_,_=>⟨t,q,e,n,by simp[bc,bQ]⟩
 |road::o,a,t,q,e,n,j,H=>by simp only[aR]at H;obtain⟨x,s,k,v⟩:=R8 u l S p N d (j road aF) (List.range N.length) a q e n (λi z=>by simpa using z) (by simp;lia);have F:=oV N road d;obtain⟨f,b,c,m,y⟩:=Ti u l S p N d o (a++y0 N road) (O road) x s k (λr h=>j r (aH _ h)) (by rw[bz];lia);refine⟨f,b,c,m,?_⟩;rw[show bQ N (road::o)=y0 N road++bQ N o by simp[bQ],<- eD];refine(bj (h:=[some p,ql (N.map .str),qr S.length,O road,q,e,n]) rfl ?_).trans y;rw[Mc]at v;have g:=xR (N.map P.str);rw[aZ]at g;rw[<- g]at v;show bE _ _ _ _ _=_;simp only[bE];rw[show q_ bI [some p,ql (N.map .str),qr S.length,O road,q,e,n] (S++[.lst (a.map .p)])=some (bM 0 (N.map P.str),S++[.lst (a.map .p)]) by simp];exact v
theorem Ku(h:Pln y s f)(S:aA):Ph (n+3) "pairs_of" [.p (.tup [.lst y,.lst s,.lst f])] S=some (.ref S.length,S++[.lst ((bQ (aL y) s).map .p)]):=by
 have:=h.rl;have x:=Cv (n:=n) h.hf h.f0.2 (.lst s) (.lst f);have a:=Fk h.hf (.lst s) (.lst f) S;obtain⟨q,k,b,c,e⟩:=Ti (Ph (n+2)) (Ph (n+1)) S (.p (.tup [.lst y,.lst s,.lst f])) (aL y) (aI (lD h) (by decide)) s [] none none none none h.hr (by simp;lia);have l:(homes y).length≤1000000:=by rw[o6];have:=je h;lia
 rw[wr];simp only[eB,eS]at e;simp[m5,oA,x,aX,l,lZ,a,e]
theorem I_(h:Pln f s e):bU (Ph (n+3) "pairs_of") [.tup [.lst f,.lst s,.lst e]]=some (.lst (bQ (aL f) s)):=by unfold bU;rw[aG,eS,Ku (n:=n) h []];simp
def sM(v:P):P:=xl v 3
def jR(f:P):P:=.tup [.int 0,.tup ((Ls (xl f 3)).map sM),.tup (List.replicate (Ls (xl f 4)).length (.int (-1)))]
theorem JN(n:∀c ∈ a,isCel c)(L:Lc)(j:Nat)(e:j < L.length)(S:aA):bG (ai j) dF (Y (vv j) gY) a L S=some (a.map sM,S):=by
 rw[cT (p:=λ_=>true) (f:=sM) (Inv:=λh=>∃d,h=L.set j d) (λv k h s=>?_) ⟨L[j],(ij e).symm⟩]
 .rw [jS]
 .obtain⟨d,rfl⟩:=s;obtain⟨x,lo,i,t,b,_,_,_,_,rfl⟩:=n v k;have g:((L.set j d).set j (qt [.str x,.int lo,.int i,.int t]))[j]? = some (qt [.str x,.int lo,.int i,.int t]):=by
   rw[cj (by simpa using e)]
  exact⟨_,rfl,⟨_,cR ..⟩,rfl,λ_=>by simp[-cR,g,sM]⟩
theorem Kb(a b c d e f:P):L2.atI [a,b,c,d,e,f] 3=some d:=bS (by decide) rfl
theorem Nw(a b c d e f:P):L2.atI [a,b,c,d,e,f] 4=some e:=bS (by decide) rfl
theorem CL(A I:Str->GF)(S:∀f ∈ s,isFam m f)(o i:P):∀(n:List (Nat×P))(h:List P)(g d u:Option D),(∀x ∈ n,s[x.1]? = some x.2)->h.length+n.length≤1000 ->
  ∃q b v,bc (ai 2) (lf A) (n.map λx=>P.int (x.1:Int)) [qt [.lst s,o,i],qr 0,g,d,u] [.lst (h.map .p)] =
   some (.nx,[qt [.lst s,o,i],qr 0,q,b,v],[.lst ((h++n.map λx=>jR x.2).map .p)])
 | [],h,g,d,u,_,_=>⟨g,d,u,by simp[bc]⟩
 |x::n,h,g,d,u,K,E=>by
  simp only[aR]at E;obtain⟨p,f⟩:=x;have F:s[p]? = some f:=K (p,f) aF;obtain⟨H,c,r,a,w,t,k,rfl⟩:=S f (bq F);have C:=bH F;obtain⟨q,b,v,e⟩:=CL A I S o i n (h++[jR (.tup [.str H,.int (c:Int),.lst r,.lst a,.lst w,.lst t])]) (qi (p:Int)) (ql a) (ql w) (λy G=>K y (aH _ G)) (by simp;lia);refine⟨q,b,v,?_⟩;rw[aG,aG,show h++jR (.tup [.str H,.int (c:Int),.lst r,.lst a,.lst w,.lst t])::n.map (λx=>jR x.2)=h++[jR (.tup [.str H,.int (c:Int),.lst r,.lst a,.lst w,.lst t])]++n.map (λx=>jR x.2) by simp];refine(bj (h:=[qt [.lst s,o,i],qr 0,qi (p:Int),d,u]) rfl ?_).trans e;have B:=JN k.hce.1 [qt [.lst s,o,i],qr 0,qi (p:Int),ql a,ql w,none] 5 (by simp) [.lst (h.map .p)];have j:a.length≤1000000:=by have:=k.cl;lia
  have z:w.length≤1000000/\w.length < 1000000:=by have:=k.wl;lia
  have l:h.length≤1000000:=by lia
  rw[<- dt];simp[lf,C,Kb,Nw,aX,j,lZ,B,cz,di,d5,z,eZ,l,jR]
theorem Hb(h:Pln f s y):bU (Ph (n+4) "begin") [.tup [.lst f,.lst s,.lst y]]=some (.tup [.tup ((aU f).map jR),.tup (List.replicate (bQ (aL f) s).length (.tup []))]):=by
 have c:=Cv (n:=n+1) h.hf h.f0.2 (.lst s) (.lst y);have a:=I_ (n:=n) h;have q:=zf 0 h.hf;have l:=h.f0.2;obtain⟨g,z,o,e⟩:=CL (Ph (n+3)) (Ph (n+2)) h.hf (.lst s) (.lst y) (hw 0 f) [] none none none (λx d=>by obtain⟨j,a,t⟩:=o5 d;rw[a,d_];exact t) (by simp;lia);have v:(bQ (aL f) s).length≤2048:=by
  have N:(aL f).length≤16:=aI (lD h) (by decide);have b:∀m:List P,(bQ (aL f) m).length≤256 * m.length:=by
   intro m;induction m with
   |nil=>simp[bQ]
   |cons r m u=>have:=oV (aL f) r N;rw[show bQ (aL f) (r::m)=y0 (aL f) r++bQ (aL f) m by simp[bQ],bz,aR];lia
  have:=b s;have:=h.rl
  lia
 have p:(bQ (aL f) s).length≤1000000:=by lia
 have k:(bQ (aL f) s).length < 1000000:=by lia
 rw[DB,aw];simp only[eB,eS]at e;rw[show(hw 0 f).map (λx=>P.int (x.1:Int))=homes f from rfl,show(hw 0 f).map (λx=>jR x.2)=(aU f).map jR by simp[aU]]at e;have i:∀vs:List P,toP 9 (.ref 0) [.lst (vs.map .p)]=some (.lst vs,[.fz (.lst vs)]):=EN;generalize (aU f).map jR=w at e ⊢;simp[uH,c,a,e,cz,di,d5,p,k]
end
def kj(S:aA)(j:Nat)(xs:List P):Prop:=S[j]? = some (.lst (xs.map .p))\/S[j]? = some (.fz (.lst xs))
variable{xs:List P}{c:List P}
theorem FV(h:xs.map D.p=c.map D.p):xs=c:=(AX (f:=D.p) λ_ _ h=>D.p.inj h).mp h
variable{S:aA}{j:Nat}
theorem kj.lt(h:kj S j xs):j < S.length:=by rcases h with h|h<;>exact(bO.mp h).1
theorem kj.frz(h:kj S j xs):toP 9 (.ref j) S=some (.lst xs,S.set j (.fz (.lst xs))):=by
 rcases h with h|h
 .exact eU h
 .have:S.set j (.fz (.lst xs))=S:=by
   obtain⟨a,x⟩:=bO.mp h;rw[<- x,ij]
  rw[this];simp[toP,h]
variable{L:Lc}
theorem kj.ix(h:kj S j xs){i:Int}(r:s L S=some (.ref j,S))(hk:k L S=some (.int i,S))(e:L2.atI xs i=some f):oK s k L S=some (.p f,S):=by
 rw[oK,r,am,hk,am];rcases h with h|h
 .simp only[h];rw[CM,e];rfl
 .simp only[h];show(L2.atI xs i).map _=_;rw[e];rfl
theorem kj.len(h:kj S j xs):di (.ref j) S=some xs.length:=by rcases h with h|h<;>simp[di,h,d5]
structure Fr(b:Nat)(S S':aA):Prop where
 len:S.length≤S'.length
 low:∀k o,k < b->S[k]? = some o->S'[k]? = some o\/∃xs,o=.lst (xs.map .p)/\S'[k]? = some (.fz (.lst xs))
 hi:∀k o,b≤k->S[k]? = some o->S'[k]? = some o
theorem Fr.refl(b:Nat)(S:aA):Fr b S S:=⟨al _,λ_ _ _ h=>.inl h,λ_ _ _ h=>h⟩
variable{b:Nat}{x:aA}
theorem Fr.trans(h:Fr b S x)(g:Fr b x s):Fr b S s:=by
 refine⟨aI h.len g.len,λk o hk e=>?_,λk o hk e=>g.hi k o hk (h.hi k o hk e)⟩;rcases h.low k o hk e with a|⟨xs,rfl,a⟩
 .exact g.low k o hk a
 .rcases g.low k _ hk a with a|⟨c,q,_⟩
  .exact .inr ⟨xs,rfl,a⟩
  .cases q
theorem Fr.app(b:Nat)(S T:aA):Fr b S (S++T):=by
 have y:∀k o,S[k]? = some o->(S++T)[k]? = some o:=λk o e=>by rw[bF (bx e)];exact e
 exact⟨by simp,λk o _ e=>.inl (y k o e),λk o _ e=>y k o e⟩
variable{k:Nat}
theorem Fr.set(h:Fr b S x)(s:b≤S.length)(hk:S.length≤k)(o:SO):Fr b S (x.set k o):=by
 refine⟨by rw[dn];exact h.len,λj u a e=>?_,λj u a e=>?_⟩
 .rw [aO (by lia)];exact h.low j u a e
 .have:=bx e;rw[aO (by lia)];exact h.hi j u a e
theorem Fr.frz(x:j < b)(h:kj S j xs):Fr b S (S.set j (.fz (.lst xs))):=by
 refine⟨by simp,λk o hk e=>?_,λk o hk e=>?_⟩
 .by_cases q:j=k
  .subst q;rw[cj h.lt];rcases h with h|h<;>(rw[h]at e;cases e)
   .exact .inr ⟨xs,rfl,rfl⟩
   .exact .inl rfl
  .rw [aO q];exact .inl e
 .rw [aO (by lia)];exact e
theorem Fr.trunc(h:Fr b S x):Fr b S (trunc S.length x):=by
 unfold Ev.trunc;split
 .refine⟨by rw[ib];have:=h.len;lia,λk o hk e=>?_,λk o hk e=>?_⟩
  .rw [ik (bx e)];exact h.low k o hk e
  .rw [ik (bx e)];exact h.hi k o hk e
 .exact h
theorem kj.fr(h:Fr b S x)(g:kj S j xs):kj x j xs:=by
 by_cases a:j < b
 .rcases g with g|g
  .rcases h.low j _ a g with e|⟨c,q,e⟩
   .exact .inl e
   .have:xs=c:=FV (SO.lst.inj q);subst this;exact .inr e
  .rcases h.low j _ a g with e|⟨c,q,e⟩
   .exact .inr e
   .cases q
 .rcases g with g|g
  .exact .inl (h.hi j _ (by lia) g)
  .exact .inr (h.hi j _ (by lia) g)
def oJ(S x:aA)(d:D)(c:List P):Prop:=d=.p (.lst c)\/∃k,S.length≤k/\d=.ref k/\kj x k c
variable{d:D}
theorem oJ.toP(h:oJ S x d c)(f:Fr b S x)(e:b≤S.length):∃a,toP 9 d x=some (.lst c,a)/\Fr b S a:=by
 rcases h with rfl|⟨k,hk,rfl,h⟩
 .exact⟨x,by simp,f⟩
 .exact⟨_,h.frz,f.set e hk _⟩
variable{g:GF}{q:tm}{l:List D}
theorem mD(s:q L S=some (l,S))(k:g l S=some (d,x))(r:Fr b S x)(n:b≤S.length)(h:oJ S x d c):∃a,cv g q L S=some (.lst c,a)/\Fr b S a:=by obtain⟨m,e,f⟩:=h.toP r n;exact⟨_,by rw[cv,s,am,k,am,e,am],f.trunc⟩
theorem CK(a:q L S=some (l,S))(s:g l S=some (.p e,x))(f:Fr b S x):∃h,cv g q L S=some (e,h)/\Fr b S h:=
 ⟨_,by rw[cv,a,am,s,am];rfl,f.trunc⟩
structure BD where
 fams:List P
 roads:List P
 wishes:List P
 ks:List (List cu)
 vs:List D
abbrev BP(B:BD):Prop:=Pln B.fams B.roads B.wishes
def BD.N(B:BD):LS:=aL B.fams
def BD.PR(B:BD):List P:=bQ B.N B.roads
def fields:LS:=["families","homes","pairs","places","members"]
structure Bat(B:BD)(b i jh jp jl jm:Nat)(mk:List cu)(mv:List D)(S:aA):Prop where
 ins:S[i]? = some (.ins "Board" fields [.p (.lst B.fams),.ref jh,.ref jp,.ref jl,.ref jm])
 ho:kj S jh (homes B.fams)
 pr:kj S jp B.PR
 pl:S[jl]? = some (.dtt B.ks B.vs)
 me:S[jm]? = some (.dct mk mv)
 mm:∀s ∈ B.N,∃j,j < b/\cO (.inr s) mk mv=qr j/\kj S j (bJ (a_ B.N s))
 bi:i < b
 bh:jh < b
 bp:jp < b
 bl:jl < b
 bm:jm < b
 bs:b≤S.length
inductive Bd(B:BD)(b i:Nat)(S:aA):Prop
 |mk (jh jp jl jm:Nat) (mk:List cu) (mv:List D):Bat B b i jh jp jl jm mk mv S->Bd B b i S
theorem Bat.fr{B:BD}{b i p v r t:Nat}{w:List cu}{u:List D}{S x:aA}(h:Bat B b i p v r t w u S)(f:Fr b S x):Bat B b i p v r t w u x where
 ins:=by rcases f.low i _ h.bi h.ins with e|⟨_,q,_⟩;exact e;cases q
 ho:=h.ho.fr f
 pr:=h.pr.fr f
 pl:=by rcases f.low r _ h.bl h.pl with e|⟨_,q,_⟩;exact e;cases q
 me:=by rcases f.low t _ h.bm h.me with e|⟨_,q,_⟩;exact e;cases q
 mm:=λs c=>by obtain⟨j,a,n,k⟩:=h.mm s c;exact⟨j,a,n,k.fr f⟩
 bi:=h.bi
 bh:=h.bh
 bp:=h.bp
 bl:=h.bl
 bm:=h.bm
 bs:=aI h.bs f.len
theorem Bd.fr{B:BD}{b i:Nat}{S x:aA}(h:Bd B b i S)(f:Fr b S x):Bd B b i x:=by obtain⟨p,v,r,t,w,u,h⟩:=h;exact⟨p,v,r,t,w,u,h.fr f⟩
theorem Bd.le{B:BD}{b i:Nat}{S:aA}(h:Bd B b i S):b≤S.length:=by obtain⟨p,v,r,t,w,u,h⟩:=h;exact h.bs
section
variable{B:BD}{b i p v r t:Nat}{w:List cu}{u:List D}{S:aA}{L:Lc}{o:EE}
theorem Bat.fld(h:Bat B b i p v r t w u S)(ho:o L S=some (.ref i,S))(a:aT Att "Board" f=true)(x:gZ f fields [.p (.lst B.fams),.ref p,.ref v,.ref r,.ref t]=some d):cc (aT Att) o f L S=some (d,S):=by rw[cc,ho,am];simp only[h.ins];rw[af a,x];rfl
end
theorem ml:aT Att "Board" "families"=true/\aT Att "Board" "homes"=true/\aT Att "Board" "pairs"=true/\aT Att "Board" "places"=true/\aT Att "Board" "members"=true:=by decide +kernel
theorem Jw{a b c d e:D}:gZ "families" fields [a,b,c,d,e]=some a/\gZ "homes" fields [a,b,c,d,e]=some b/\gZ "pairs" fields [a,b,c,d,e]=some c/\gZ "places" fields [a,b,c,d,e]=some d/\gZ "members" fields [a,b,c,d,e]=some e:=by simp[fields,gZ]
section
variable{B:BD}{b i p v r t:Nat}{w:List cu}{u:List D}{S:aA}(h:Bat B b i p v r t w u S){L:Lc}{o:EE}(ho:o L S=some (.ref i,S))
include h ho
theorem Bat.families:cc (aT Att) o "families" L S=some (.p (.lst B.fams),S):=h.fld ho ml.1 Jw.1
theorem Bat.homes:cc (aT Att) o "homes" L S=some (.ref p,S):=h.fld ho ml.2.1 Jw.2.1
theorem Bat.pairs:cc (aT Att) o "pairs" L S=some (.ref v,S):=h.fld ho ml.2.2.1 Jw.2.2.1
theorem Bat.places:cc (aT Att) o "places" L S=some (.ref r,S):=h.fld ho ml.2.2.2.1 Jw.2.2.2.1
theorem Bat.members:cc (aT Att) o "members" L S=some (.ref t,S):=h.fld ho ml.2.2.2.2 Jw.2.2.2.2
theorem Bat.meth(m:M "Board" e=some g)(n:fields.contains e=false)(a:q L S=some (l,S)):dU M o e q L S=g (.ref i::l) S:=by rw[dU,ho,am];simp only[h.ins,m,n,a,am];rfl
end
theorem jg(h:xs.length+c.length≤1000000):pP (.tup xs) (.tup c)=some (.tup (xs++c)):=by
 cases xs with
 |nil=>rfl
 |cons x r=>show(if (!(x::r).isEmpty && jb ((x::r).length+c.length))=true then some (P.tup ((x::r)++c)) else none)=_;rw[af (by rw[av,oq];exact⟨rfl,h⟩)]
theorem lH(k:Nat):cut xs none (some (k:Int))=xs.take k:=by
 unfold cut;rw[HT.w9,HT.BS,qC,AE];by_cases h:k≤xs.length
 .rw [u6 h]
 .rw [AG (by lia),nC,A4 (by lia)]
theorem xZ(k:Nat):cut xs (some (k:Int)) none=xs.drop k:=by
 unfold cut;rw[HT.w9,HT.BS];by_cases h:k≤xs.length
 .rw [u6 h,A4 (by simp)]
 .rw [AG (by lia),qE,List.drop_of_length_le (by lia)];simp
theorem uA(k:Nat):cut xs (some ((k:Int)+1)) none=xs.drop (k+1):=xZ (k+1)
theorem JX(k:Nat):cut xs none (some ((k:Int)+1))=xs.take (k+1):=lH (k+1)
variable{n:Nat}
theorem sj(hk:k < xs.length)(l:xs.length≤900000)(v:P):bU (Ph (n+2) "replaced") [.tup xs,.int (k:Int),v]=some (.tup (xs.set k v)):=by have e:=jg (xs:=xs.take k) (c:=[v]) (by simp;lia);have h:=jg (xs:=xs.take k++[v]) (c:=xs.drop (k+1)) (by simp;lia);rw[wq,aw];simp[oz,lH,uA,e,-eD];rw[h];simp[List.set_eq_take_append_cons_drop,hk]
theorem Km(h:xs.length≤900000):bU (Ph (n+2) "without") [.tup xs,.int (k:Int)]=some (.tup (xs.eraseIdx k)):=by have e:=jg (xs:=xs.take k) (c:=xs.drop (k+1)) (by simp;lia);rw[xS,aw];simp[pU,lH,uA,e,List.eraseIdx_eq_take_drop_succ]
def pK(l:P):Prop:=∃m i,az m=true/\i.natAbs≤999/\l=.tup [.str m,.int i]
theorem pK.ok(h:pK e):cm 1 e=true:=by obtain⟨m,i,x,_,rfl⟩:=h;simp[x]
def mn(s:List P):Prop:=s.length≤3/\∀l ∈ s,pK l
noncomputable def P7(w:Str)(xs:List P)(k:Nat):List P:=if w="lose" then xs.eraseIdx k else xs.take (k+1)++xs.drop k
theorem P8{n:Nat}{w:Str}(hw:w="lose"\/w="double"){xs:List P}{k:Nat}(x:mn xs)(a:w="double"->xs.length≤2)(hk:k < xs.length):mn (P7 w xs k)/\bU (Ph (n+3) "flawed") [.str w,.tup xs,.int (k:Int)]=some (.tup (P7 w xs k)):=by
 have:=x.1;unfold P7;rcases hw with rfl|rfl
 .refine⟨⟨aI (A5 ..) this,λl h=>x.2 l (A7 h)⟩,?_⟩;have e:=Km (n:=n) (xs:=xs) (k:=k) (by lia);rw[sS,aw];simp[nj,e]
 .have s:=a rfl;rw[ah (by decide +kernel)];refine⟨⟨by simp;lia,λl h=>?_⟩,?_⟩
  .rcases cI.mp h with h|h
   .exact x.2 l (qK h)
   .exact x.2 l (vl h)
  .have e:=jg (xs:=xs.take (k+1)) (c:=xs.drop k) (by simp;lia);rw[sS,aw];simp[nj,JX,xZ,e]
noncomputable def JK(w:Str)(r:P)(xs:List P):Bool:=match r with
 | .tup [_,_,_,.int c,.bl d,.bl h]=>if w="lose" then d else h && decide ((xs.length:Int) < c)
 |_=>false
theorem PQ{n:Nat}{w:Str}(hw:w="lose"\/w="double"){r:P}(p:isRoad r)(xs:List P):(w="double"->JK w r xs=true->xs.length≤2)/\bU (Ph (n+2) "has_flaw") [r,.str w,.tup xs]=some (.bl (JK w r xs)):=by
 obtain⟨a,b,kd,c,x,d,q,v,t,f,m,rfl⟩:=p;have e:L2.atI [P.str a,.str b,.str kd,.int c,.bl x,.bl d] 3=some (.int c):=bS (by decide) rfl;have s:L2.atI [P.str a,.str b,.str kd,.int c,.bl x,.bl d] 4=some (.bl x):=bS (by decide) rfl;have k:L2.atI [P.str a,.str b,.str kd,.int c,.bl x,.bl d] 5=some (.bl d):=bS (by decide) rfl;unfold JK;rcases hw with rfl|rfl
 .refine⟨λh=>?_,?_⟩
  .have:¬("lose":Str)="double":=by decide +kernel
   exact absurd h this
  .rw [oe,aw];simp[lc,s]
 .dsimp only;rw[ah (by decide +kernel)];refine⟨λ_ h=>?_,?_⟩
  .have:=(av _ _ ▸ h).2;have:=aM this
   lia
  .rw [oe,aw];cases d<;>simp[lc,e,k,di,d5]
theorem sI(h:∀y ∈ xs,cm 19 y=true)(x:s ∈ xs):∃i:Nat,i < xs.length/\mY xs s=some i:=by
 unfold mY;have a:(xs.all (cm 19) && cm 19 s)=true:=by rw[av];exact⟨bw.mpr h,h s x⟩
 rw[af a];have m:pd s ∈ jD xs:=by
  clear a h;induction xs with
  |nil=>cases x
  |cons y r n=>
   rcases aQ.mp x with rfl|x
   .exact aF
   .exact aH _ (n x)
 have e:b9 (pd s) (pd s)=true:=qw _ (eX 20 s (eL (h s x) (by lia))).1;cases q:(jD xs).findIdx? λz=>b9 z (pd s) with
 |none=>have:=List.findIdx?_eq_none_iff.mp q (pd s) m;rw[e]at this;cases this
 |some i=>
  refine⟨i,?_,rfl⟩;have:=(Bb.mp q).1
  rwa [vX]at this
def PH(n:Nat)(y:P):Prop:=∃i:Nat,i < n/\y=.int (i:Int)
theorem Gm(n:Nat):intsFrom 0 n=bJ (List.range n):=by unfold Ev.intsFrom bJ;simp only[cG]
def BL(k:Str)(xs:List P):List Nat:=(List.range xs.length).filter λi=>decide (k="row") ||decide (mY xs (xs[i]?.getD .non)=some i)
theorem Kn(k:Str)(m:mn xs):bU (Ph (n+2) "unlike_spots") [.str k,.tup xs]=some (.lst (bJ (BL k xs))):=by
 have l:=m.1;have c:xs.length < 1000000:=by lia
 have s:xs.length≤1000000:=by lia
 by_cases hk:k="row"
 .have e:BL k xs=List.range xs.length:=by unfold BL;rw[qJ.mpr λ_ _=>by simp[hk]]
  rw[e,<- Gm,j9,aw];simp[g9,hk,di,d5,c]
 .have e:bG (ai 3) (aK (U (yK bI (Y bI cD))) nL) cD (intsFrom 0 xs.length) [qs k,qt xs,ql (intsFrom 0 xs.length),none] []=some (bJ (BL k xs),[]):=by
   rw[cT (p:=λv=>match v with | .int z=>decide (mY xs (xs[z.toNat]?.getD .non)=some z.toNat)|_=>false) (f:=id) (Inv:=λL=>∃d,L=[qs k,qt xs,ql (intsFrom 0 xs.length),d]) (λv t L r=>?_) ⟨none,rfl⟩,i5]
   .rw [Gm];unfold bJ BL;rw[qD];congr 3;refine AW λi _=>?_;simp[hk]
   obtain⟨d,rfl⟩:=r;obtain⟨i,rfl,a⟩:=iD t;simp only[cG];have g:xs[i]? = some xs[i]:=bA a;have b:=bH g;obtain⟨j,o,h⟩:=sI (xs:=xs) (s:=xs[i]) (λy w=>eL (m.2 y w).ok (by lia)) (eC _);refine⟨[qs k,qt xs,ql (intsFrom 0 xs.length),qi (i:Int)],rfl,⟨_,rfl⟩,?_,λ_=>by simp⟩;by_cases q:j=i
   .rw [q]at h;simp[b,h,g]
   .have u:¬(j:Int)=(i:Int):=by lia
    simp[b,h,g,q,u]
  rw[j9,aw];simp[g9,hk,di,d5,c,s,aX,cA,lZ,e]
def lO(N:List P)(ks:List cu)(vs:List P):Prop:=∀x:Str,P.str x ∈ N->∃i:Int,i.natAbs≤999/\cO (.inr x) ks vs=some (.int i)
section
variable{N:List P}{ks:List cu}{vs:List P}
theorem li(k:Int):bU (Ph (n+2) "value_of") [mQ k,.dct ks vs]=some (.int k):=by rw[gL,aw];simp[fB]
theorem ly{i:Int}(h:cO (.inr e) ks vs=some (.int i)):bU (Ph (n+2) "value_of") [mR (.str e),.dct ks vs]=some (.int i):=by rw[gL,aw];simp[fB,h]
theorem EC{n:Nat}{a b:P}{i j:Int}(h:bU (Ph (n+2) "value_of") [a,.dct ks vs]=some (.int i))(x:bU (Ph (n+2) "value_of") [b,.dct ks vs]=some (.int j)):bU (Ph (n+3) "value_of") [.tup [.str "plus",a,b],.dct ks vs]=some (.int (i+j)):=by rw[gL,aw];simp[fB,h,x]
theorem qP{n:Nat}{a b:P}{i j:Int}(h:bU (Ph (n+2) "value_of") [a,.dct ks vs]=some (.int i))(x:bU (Ph (n+2) "value_of") [b,.dct ks vs]=some (.int j)):bU (Ph (n+3) "value_of") [.tup [.str "minus",a,b],.dct ks vs]=some (.int (i-j)):=by rw[gL,aw];simp[fB,h,x]
theorem BJ{n:Nat}{a b:P}{i j:Int}(m:gJ i j=true)(h:bU (Ph (n+2) "value_of") [a,.dct ks vs]=some (.int i))(x:bU (Ph (n+2) "value_of") [b,.dct ks vs]=some (.int j)):bU (Ph (n+3) "value_of") [.tup [.str "times",a,b],.dct ks vs]=some (.int (i * j)):=by rw[gL,aw];simp[fB,h,x,m]
theorem rW(s:∀x ∈ N,km x)(f:lO N ks vs){t:P}(h:pJ N t){n:Nat}:∃r:Int,bU (Ph (n+4) "value_of") [t,.dct ks vs]=some (.int r):=by
 rcases h with ⟨k,rfl⟩|⟨y,a,h⟩
 .exact⟨k,li k⟩
 obtain⟨x,_,rfl⟩:=s y a;obtain⟨i,m,e⟩:=f x a;rcases h with rfl|⟨k,rfl⟩|⟨k,j,b,c,rfl⟩|rfl
 .exact⟨i,ly e⟩
 .exact⟨_,EC (ly e) (li k)⟩
 .exact⟨_,qP (BJ (bW (i:=i) (j:=k) (by lia) (by lia)) (ly e) (li k)) (li j)⟩
 .exact⟨_,qP (li 1) (ly e)⟩
theorem KZ(w:Str)(i j:Int):∃b,∀h,bU (m5 3 3 (cY h)) [.str w,.int i,.int j]=some (.bl b):=by
 by_cases x:w="="
 .exact⟨decide (i=j),λh=>by rw[aw];simp[cY,x]⟩
 by_cases a:w="!="
 .exact⟨!decide (i=j),λh=>by rw[aw];simp[cY,x,eq_true a]⟩
 by_cases e:w="<"
 .exact⟨decide (i < j),λh=>by rw[aw];simp[cY,x,a,eq_true e]⟩
 by_cases s:w="<="
 .exact⟨decide (i≤j),λh=>by rw[aw];simp[cY,x,a,e,eq_true s]⟩
 by_cases n:w=">"
 .exact⟨decide (j < i),λh=>by rw[aw];simp[cY,x,a,e,s,eq_true n]⟩
 exact⟨decide (j≤i),λh=>by rw[aw];simp[cY,x,a,e,s,n]⟩
theorem Nn(w:Str)(i j:Int):∃b,bU (Ph (n+2) "compared") [.str w,.int i,.int j]=some (.bl b):=by obtain⟨b,e⟩:=KZ w i j;exact⟨b,by rw[og];exact e _⟩
theorem zi:bU (Ph (n+2) "holds") [.tup [.str "true"],.dct ks vs]=some (.bl true):=by rw[jf,aw];simp[hX]
theorem PX{n:Nat}(w:Str){a b:P}{i j:Int}(h:bU (Ph (n+5) "value_of") [a,.dct ks vs]=some (.int i))(x:bU (Ph (n+5) "value_of") [b,.dct ks vs]=some (.int j)):∃r,bU (Ph (n+6) "holds") [.tup [.str "is",.str w,a,b],.dct ks vs]=some (.bl r):=by obtain⟨r,e⟩:=Nn (n:=n+3) w i j;refine⟨r,?_⟩;rw[jf,aw];simp[hX,h,x,e]
theorem KJ(h:bU (Ph (n+2) "holds") [e,.dct ks vs]=some (.bl s)):bU (Ph (n+3) "holds") [.tup [.str "not",e],.dct ks vs]=some (.bl !s):=by rw[jf,aw];simp[hX,h]
theorem KL{n:Nat}{a b:P}{r s:Bool}(h:bU (Ph (n+2) "holds") [a,.dct ks vs]=some (.bl r))(x:bU (Ph (n+2) "holds") [b,.dct ks vs]=some (.bl s)):bU (Ph (n+3) "holds") [.tup [.str "and",a,b],.dct ks vs]=some (.bl (r && s)):=by rw[jf,aw];cases r<;>simp[hX,h,x]
theorem PV{n:Nat}{a b:P}{r s:Bool}(h:bU (Ph (n+2) "holds") [a,.dct ks vs]=some (.bl r))(x:bU (Ph (n+2) "holds") [b,.dct ks vs]=some (.bl s)):bU (Ph (n+3) "holds") [.tup [.str "or",a,b],.dct ks vs]=some (.bl (r ||s)):=by rw[jf,aw];cases r<;>simp[hX,h,x]
theorem Gw(k:∀x ∈ N,km x)(f:lO N ks vs){t:P}(h:kO N t){n:Nat}:∃r,bU (Ph (n+9) "holds") [t,.dct ks vs]=some (.bl r):=by
 have l:∀{t:P},jP N t->∀{n:Nat},∃r,bU (Ph (n+6) "holds") [t,.dct ks vs]=some (.bl r):=λ{t} h {n}=>by obtain⟨w,y,s,b,v,_,rfl⟩:=h;obtain⟨x,_,rfl⟩:=k y b;obtain⟨i,_,a⟩:=f x b;obtain⟨j,q⟩:=rW k f v (n:=n+1);exact PX w (ly a) q
 rcases h with rfl|h|⟨p,h,rfl⟩|⟨p,z,h,c,rfl⟩
 .exact⟨_,zi⟩
 .exact l h
 .obtain⟨r,e⟩:=l h (n:=n+2);exact⟨_,KJ e⟩
 .obtain⟨r,e⟩:=l h (n:=n+2);obtain⟨x,_,rfl⟩:=k z c;obtain⟨i,_,a⟩:=f x c;obtain⟨s,m⟩:=PX (n:=n+1) (ks:=ks) (vs:=vs) "=" (li 1) (ly a);exact⟨_,PV e (KL (zi) m)⟩
end
def cF(a:List P):List cu:=a.map λc=>.inr (bu c)
def CellsOk(a s:List P):Prop:=s.length=a.length/\∀c ∈ s,∃i:Int,i.natAbs≤999/\c=.int i
variable{a:List P}
theorem jO(h:yf a):(cF a).Nodup:=by
 unfold cF;refine Ba.mpr λi j e s k q=>?_
 rw[aZ]at e s;rw[AU,AU]at q;have x:=h.2 i _ (bA e);have n:=h.2 j _ (bA s);rw[jE q,n]at x;simp at x;lia
theorem y'(a:List P):eE (qU a)=some (cF a):=by
 unfold qU cF;induction a with
 |nil=>rfl
 |cons c r i=>simp[eE,db,i]
theorem qX:∀{a k:List P},CellsOk a k->lO (qU a) (cF a) k
 | [],_,_=>λx h=>by cases h
 |c::r,[],h=>by have:=h.1;simp at this
 |c::r,d::s,h=>λx p=>by
  obtain⟨i,m,rfl⟩:=h.2 d aF;show ∃i:Int,_/\(if (Sum.inr (bu c):cu)=.inr x then some _ else cO (.inr x) (cF r) s)=_;by_cases e:bu c=x
  .exact⟨i,m,by rw[af (by rw[e])]⟩
  .have n:P.str x ∈ qU r:=by
    rcases aQ.mp p with q|q
    .exact absurd (P.str.inj q).symm e
    .exact q
   obtain⟨j,t,f⟩:=qX (a:=r) (k:=s) ⟨by have:=h.1;simpa using this,λc b=>h.2 c (aH _ b)⟩ x n;exact⟨j,t,by rw[ah λq=>e (jE q)];exact f⟩
theorem BG(h:Fam m H f s a y e)(c:CellsOk a z)(S:aA) :
  Ph (n+2) "values_of" [.p (.tup [.str H,.int (f:Int),.lst s,.lst a,.lst y,.lst e]),.p (.tup z)] S=some (.ref S.length,S++[.dct (cF a) (z.map .p)]):=by
 have r:=h.cl;have q:a.length≤1000000:=by lia
 have x:(qU a).length≤1000000:=by simp[qU];lia
 have b:=pi h.hce.1 [qt [.str H,.int (f:Int),.lst s,.lst a,.lst y,.lst e],qt z,none] 2 (by simp) S;have hk:=jO h.hce;have k:(cF a).length=z.length:=by rw[c.1];simp[cF]
 have l:(cF a).length≤z.length:=qx k;have t:z.take (cF a).length=z:=by rw[k,nC]
 rw[tK];simp[m5,mE,Kb,aX,q,lZ,b,y',hk,x,l,t,u9];first|done|(rw[<- u9,t])
theorem t8(x:Fam m H y s a z e)(h:CellsOk a f) :
  bU (Ph (n+2) "values_of") [.tup [.str H,.int (y:Int),.lst s,.lst a,.lst z,.lst e],.tup f]=some (.dct (cF a) f):=by
 unfold bU;rw[aG,aG,eS,BG (n:=n) x h []];have:tF (toP 8) (f.map .p) [SO.dct (cF a) (f.map .p)]=some (f,[SO.dct (cF a) (f.map .p)]):=l8 ..;simp[toP,this]
end My
namespace My
open PySem L2 Ev
variable{L:Lc}{S:aA}
theorem vS(h:a L S=some (.rt d,e,b)):ag a g L S=some (.rt d,e,b):=by rw[ag,h]
noncomputable def Oz(a b:Bool):Nat->Nat->Option Bool
 |0,0=>some false
 |0,1=>some a
 |1,0=>some b
 |1,1=>some false
 |_,_=>none
noncomputable def Oy(a b c d e f:Bool):Nat->Nat->Option Bool
 |0,0=>some false
 |0,1=>some a
 |0,2=>some b
 |1,0=>some c
 |1,1=>some false
 |1,2=>some d
 |2,0=>some e
 |2,1=>some f
 |2,2=>some false
 |_,_=>none
noncomputable def xL(n:Nat)(o:Option (Array Nat)):Bool:=match o with
 |some p=>decide (p.size=n) && p.all λi=>decide (i < n)
 |none=>false
theorem OO:∀a b,xL 2 (JS (Oz a b) (vg 2))=true:=by decide +kernel
theorem ON:∀a b c d e f,xL 3 (JS (Oy a b c d e f) (vg 3))=true:=by decide +kernel
variable{x:P}
theorem jN(h:pK x)(a:pK y):∃b,Sl x y=some b:=by obtain⟨m,i,_,_,rfl⟩:=h;obtain⟨s,e,_,_,rfl⟩:=a;exact⟨_,rfl⟩
theorem nU(h:pK x):Sl x x=some false:=by obtain⟨m,i,_,_,rfl⟩:=h;show some (if m=m then decide (i < i) else _)=_;rw[af rfl,be (zQ _)]
variable{n:Nat}
theorem Dw(h:xL n o=true):∃p,o=some p/\p.size=n/\∀i ∈ p.toList,i < n:=by
 cases o with
 |none=>cases h
 |some p=>
  unfold xL at h;rw[av]at h;refine⟨p,rfl,aM h.1,λi x=>?_⟩;have:=Array.all_eq_true'.mp h.2 i (by simpa using x)
  exact aM this
theorem ue(h:mn r):∃t,mn t/\ou r=some (.lst t):=by
 have E:sortable r=true:=by refine bw.mpr λx k=>?_;obtain⟨m,i,_,_,rfl⟩:=h.2 x k;rfl
 have o:∃t,mn t/\pC r=some t:=by
  unfold pC;by_cases q:r.length < 2
  .exact⟨r,h,by rw[af q]⟩
  .rw [ah q,af (by have:=h.1;lia)];have s:∀n,r.length=n->n≤3->xL n (JS (nV r) (vg n))=true->∃t,mn t/\((JS (nV r) (vg r.length)).bind λp=>if p.size < 64 then some (p.toList.map λi=>r.getD i .non) else none)=some t:=λn C D P=>by
    obtain⟨p,e,G,q⟩:=Dw P;refine⟨p.toList.map λi=>r.getD i .non,⟨by simp;lia,λl B=>?_⟩,by rw[C,e];simp[show p.size < 64 by lia]⟩;obtain⟨i,A,rfl⟩:=bN.mp B;have:=q i A
    rw[kD,bA (by lia)];exact h.2 _ (eC _)
   match r,h,q,s with
   | [x,y],h,_,s=>
    refine s 2 rfl (by lia) ?_;have k:=h.2 x (by simp);have v:=h.2 y (by simp);obtain⟨a,u⟩:=jN k v;obtain⟨b,g⟩:=jN v k;have:nV [x,y]=Oz a b:=by
     funext i j;match i,j with
     |0,0=>exact nU k
     |0,1=>exact u
     |1,0=>exact g
     |1,1=>exact nU v
     |0,j+2=>rfl
     |1,j+2=>rfl
     |i+2,0=>rfl
     |i+2,1=>rfl
     |i+2,j+2=>rfl
    rw[this];exact OO a b
   | [x,y,z],h,_,s=>
    refine s 3 rfl (by lia) ?_;have k:=h.2 x (by simp);have v:=h.2 y (by simp);have w:=h.2 z (by simp);obtain⟨a,u⟩:=jN k v;obtain⟨b,g⟩:=jN k w;obtain⟨c,H⟩:=jN v k;obtain⟨d,S⟩:=jN v w;obtain⟨e,F⟩:=jN w k;obtain⟨f,K⟩:=jN w v;have:nV [x,y,z]=Oy a b c d e f:=by
     funext i j;match i,j with
     |0,0=>exact nU k
     |0,1=>exact u
     |0,2=>exact g
     |1,0=>exact H
     |1,1=>exact nU v
     |1,2=>exact S
     |2,0=>exact F
     |2,1=>exact K
     |2,2=>exact nU w
     |0,j+3=>rfl
     |1,j+3=>rfl
     |2,j+3=>rfl
     |i+3,0=>rfl
     |i+3,1=>rfl
     |i+3,2=>rfl
     |i+3,j+3=>rfl
    rw[this];exact ON a b c d e f
   | [],_,q,_=>simp at q
   | [_],_,q,_=>simp at q
   |_::_::_::_::_,h,_,_=>have:=h.1;simp at this
 obtain⟨t,w,e⟩:=o;exact⟨t,w,by unfold ou;rw[af E,e];rfl⟩
theorem ji:i ∈ a_ N a↔N[i]? = some a:=by
 unfold a_;rw[gA];constructor
 .exact λh=>aM h.2
 .exact λh=>⟨i6.mpr (bx h),fR h⟩
variable{B:BD}
theorem tf(h:x ∈ B.PR):∃r ∈ B.roads,∃a b:Nat,x=pr r a b:=by unfold BD.PR bQ at h;obtain⟨r,e,h⟩:=fy.mp h;unfold y0 at h;obtain⟨a,_,h⟩:=fy.mp h;obtain⟨b,_,rfl⟩:=bN.mp h;exact⟨r,e,a,b,rfl⟩
theorem Qu{B:BD}{r:P}{a b:Nat}(s:r ∈ B.roads)(x:B.N[a]? = some (rA r))(e:B.N[b]? = some (rB r))(h:a≠b):pr r a b ∈ B.PR:=by unfold BD.PR bQ;refine fy.mpr ⟨r,s,?_⟩;unfold y0;refine fy.mpr ⟨a,ji.mpr x,bN.mpr ⟨b,?_,rfl⟩⟩;rw[gA];exact⟨ji.mpr e,by simpa using h⟩
structure Places(B:BD):Prop where
 get:∀(r:P)(a b:Nat),pr r a b ∈ B.PR->∃d,cZ [.inl (a:Int),.inl (b:Int)] B.ks B.vs=some d
 ok:∀(x y:Int)(d:D),cZ [.inl x,.inl y] B.ks B.vs=some d->∃(k:Nat)(r:P)(a b:Nat),r ∈ B.roads/\d=.p (.int (k:Int))/\B.PR[k]? = some (pr r a b)
def bR(B:BD)(rds:List P):Prop:=rds.length=B.PR.length/\∀r ∈ rds,∃ls,mn ls/\r=.tup ls
theorem bR.at{B:BD}{u:List P}(h:bR B u){k:Nat}{x:P}(hk:B.PR[k]? = some x):k < u.length/\∃l,mn l/\u[k]? = some (.tup l):=by
 have a:k < u.length:=by rw[h.1];exact bx hk
 obtain⟨l,e,s⟩:=h.2 u[k] (eC _);exact⟨a,l,e,by rw[bA a,s]⟩
variable{u:List P}
theorem bR.set(h:bR B u)(k:Nat)(a:mn l):bR B (u.set k (.tup l)):=by
 refine⟨by rw[dn];exact h.1,λr x=>?_⟩;rcases A' x with x|rfl
 .exact h.2 r x
 .exact⟨l,a,rfl⟩
theorem pu(h:BP B):B.PR.length≤2048:=by
 have N:B.N.length≤16:=aI (lD h) (by decide);have k:∀s:List P,(bQ B.N s).length≤256 * s.length:=by
  intro s;induction s with
  |nil=>simp[bQ]
  |cons r s i=>have:=oV B.N r N;rw[show bQ B.N (r::s)=y0 B.N r++bQ B.N s by simp[bQ],bz,aR];lia
 have:=k B.roads;have:=h.rl
 unfold BD.PR;lia
theorem Px(h:Str->GF):mT Tb h "Board" "family_of"=some (h "Board.family_of"):=by kernel_rfl
theorem Tn(h:Str->GF):mT Tb h "Board" "hands_beside"=some (h "Board.hands_beside"):=by kernel_rfl
theorem P5:fields.contains "family_of"=false:=by decide +kernel
theorem Tv:fields.contains "hands_beside"=false:=by decide +kernel
theorem o7{a:List P}{h:Nat}{f:P}(s:(aU a)[h]? = some f):∃p:Nat,(homes a)[h]? = some (.int (p:Int))/\a[p]? = some f:=by
 unfold aU at s;unfold homes;rw[dJ]at s ⊢;cases e:(hw 0 a)[h]? with
 |none=>rw[e]at s;cases s
 |some x=>rw[e]at s;cases s;obtain⟨j,n,k⟩:=o5 (bq e);exact⟨x.1,rfl,by rw[n,d_];exact k⟩
theorem wm{n:Nat}{B:BD}{b i:Nat}{S:aA}(h:Bd B b i S){k:Nat}{f:P}(c:(aU B.fams)[k]? = some f):Ph (n+2) "Board.family_of" [.ref i,.p (.int (k:Int))] S=some (.p f,S):=by obtain⟨j,r,l,m,mk,v,h⟩:=h;obtain⟨p,e,x⟩:=o7 c;have a:oK (cc (aT Att) cC "homes") bI [qr i,qi (k:Int)] S=some (.p (.int (p:Int)),S):=h.ho.ix (h.homes rfl) rfl (bH e);have s:cc (aT Att) cC "families" [qr i,qi (k:Int)] S=some (.p (.lst B.fams),S):=h.families rfl;rw[iV];show cE (au _ [qr i,qi (k:Int)] S)=_;rw[au,oK,s,am,vE,a];simp[bH x]
theorem G'{n:Nat}{B:BD}(P:BP B){b i:Nat}{S:aA}(h:Bd B b i S)(k:Nat){s:Str}(g:s ∈ B.N):∃a,Ph (n+2) "Board.hands_beside" [.ref i,.p (.int (k:Int)),.p (.str s)] S=some (.p (.lst (bJ (oth B.N s k))),a)/\Fr b S a:=by
 obtain⟨K,E,A,C,mk,G,h⟩:=h;obtain⟨j,u,m,e⟩:=h.mm s g;refine⟨_,?_,Fr.frz u e⟩;have r:oK (cc (aT Att) cC "members") b_ [qr i,qi (k:Int),qs s] S=some (.ref j,S):=by rw[oK,h.members rfl];simp[h.me,db,m]
 have l:(bJ (a_ B.N s)).length≤1000000:=by have:=dW B.N s;have:B.N.length≤4:=lD P;simp[bJ];lia
 have t:bG (ai 3) (eT nL gj) cD (bJ (a_ B.N s)) [qr i,qi (k:Int),qs s,none] (S.set j (.fz (.lst (bJ (a_ B.N s)))))=some (bJ (oth B.N s k),S.set j (.fz (.lst (bJ (a_ B.N s))))):=by
  rw[cT (p:=λv=>match v with | .int x=>!decide (k=x.toNat)|_=>false) (f:=id) (Inv:=λL=>∃d,L=[qr i,qi (k:Int),qs s,d]) (λv c L w=>?_) ⟨none,rfl⟩]
  .congr 2;unfold bJ oth;rw[qD,i5];rfl
  .obtain⟨d,rfl⟩:=w;unfold bJ at c;obtain⟨o,F,rfl⟩:=bN.mp c;refine⟨[qr i,qi (k:Int),qs s,qi (o:Int)],rfl,⟨_,rfl⟩,?_,λ_=>by simp⟩;by_cases q:k=o
   .simp [q]
   .have y:¬(o:Int)=(k:Int):=by lia
    have H:¬o=k:=λz=>q z.symm;simp[q,y,H]
 rw[kS];show cE (au _ [qr i,qi (k:Int),qs s] S)=_;simp only[gW,au,U,aX,fK,vE,r,am,e.frz];rw[af (by rw[j5];exact l)];rw[show lZ [] 1 [some (D.ref i),qi (k:Int),qs s]=[qr i,qi (k:Int),qs s,none] from rfl,t];rfl
structure GC(B:BD) where
 b:Nat
 i:Nat
 S0:aA
 r:Nat
 bd:Bd B b i S0
 hr:S0.length≤r
theorem GC.le(G:GC B):G.b≤G.S0.length:=G.bd.le
theorem mZ{i:Type}{g:ki}{b:ES}{p:i->Lc->Prop}{Sp:i->aA->Prop}{r:i->Nat}{c M:Nat}{f:P->List P}:∀{s:List P},
  (∀x ∈ s,(f x).length≤c/\∀G L S w,p G L->Sp G S->S[r G]? = some (.lst (w.map .p))->w.length+c≤M->∃k L2 e,g x L=some k/\b k S=some (.nx,L2,e)/\p G L2/\Sp G e/\e[r G]? = some (.lst ((w++f x).map .p))) ->
  (s.flatMap f).length≤c * s.length/\∀G L S w,p G L->Sp G S->S[r G]? = some (.lst (w.map .p))->w.length+c * s.length≤M->∃n a,bc g b s L S=some (.nx,n,a)/\p G n/\Sp G a/\a[r G]? = some (.lst ((w++s.flatMap f).map .p))
 | [],_=>⟨by simp,λG L S w m v h _=>⟨L,S,rfl,m,v,by rw[List.flatMap_nil,eA];exact h⟩⟩
 |x::s,j=>by
  obtain⟨D,H⟩:=j x aF;obtain⟨I,C⟩:=mZ (s:=s) λy B=>j y (aH _ B);have A:c * (x::s).length=c+c * s.length:=by rw[aR,AD,u3]
  refine⟨by rw[A,ie,bz];lia,λG L S w m v h E=>?_⟩;obtain⟨k,L2,e,l,z,q,u,F⟩:=H G L S w m v h (by lia);obtain⟨n,a,o,t,d,K⟩:=C G L2 e (w++f x) q u F (by rw[bz];lia);exact⟨n,a,by rw[bj l z];exact o,t,d,by rw[ie,<- eD];exact K⟩
theorem fh{m:Type}{g:ki}{b:ES}{p:m->Lc->Prop}{Sp:m->aA->Prop}{r:m->Nat}{R:P->List P->Prop}{c M:Nat}{s:List P}
  (h:∀x ∈ s,∃y:List P,y.length≤c/\R x y/\∀G L S w,p G L->Sp G S->S[r G]? = some (.lst (w.map .p))->w.length+c≤M->∃q L2 n,g x L=some q/\b q S=some (.nx,L2,n)/\p G L2/\Sp G n/\n[r G]? = some (.lst ((w++y).map .p))) :
  ∃f:P->List P,(s.flatMap f).length≤c * s.length/\(∀x ∈ s,R x (f x))/\∀G L S w,p G L->Sp G S->S[r G]? = some (.lst (w.map .p))->w.length+c * s.length≤M->∃t e,bc g b s L S=some (.nx,t,e)/\p G t/\Sp G e/\e[r G]? = some (.lst ((w++s.flatMap f).map .p)):=by
 let f:P->List P:=λx=>@dite _ (x ∈ s) (El _) (λa=>Classical.choose (h x a)) λ_=>[]
 have v:∀x a,f x=Classical.choose (h x a):=λx a=>dif_pos a;have k:=λx a=>rQ (h x a);obtain⟨d,u⟩:=mZ (f:=f) λx a=>by rw[v x a];exact⟨(k x a).1,(k x a).2.2⟩
 exact⟨f,d,λx a=>by rw[v x a];exact(k x a).2.1,u⟩
theorem qT{l:List Nat}(h:l.Pairwise (·≠·)):(bJ l).Pairwise (·≠·):=qG.mpr (h.imp λ{a b} h q=>h (by have:=P.int.inj q;lia))
theorem CH(N:LS)(s:Str):(a_ N s).Pairwise (·≠·):=(vf (n:=N.length)).filter _
theorem gc{S:aA}{r:Nat}{o x:SO}(h:S[r]? = some o):(S.set r x)[r]? = some x:=by rw[cj (bx h)]
variable{k:Nat}{w:List P}
theorem nY(n:r L S=some (.ref k,S))(h:S[k]? = some (.lst (w.map .p)))(s:a L S=some (.lst y,e))(x:e[k]? = some (.lst (w.map .p)))(l:w.length+y.length≤1000000):cf (gN r a) L S=some (.nx,L,e.set k (.lst ((w++y).map .p))):=by rw[cf,gN,n,am];simp only[eZ,h,s,am,x,aZ];rw[af (by rw[oq];exact l),lV];rfl
theorem jX(n:r L S=some (.ref k,S))(h:S[k]? = some (.lst (w.map .p)))(s:a L S=some (.p y,e))(x:e[k]? = some (.lst (w.map .p)))(l:w.length≤1000000):cf (bB r a) L S=some (.nx,L,e.set k (.lst ((w++[y]).map .p))):=by rw[cf,bB,n,am];simp only[eZ,h,s,am,x];rw[af (by rw[j5,aZ];exact l),lV];rfl
theorem CO{B:BD}(m:BP B){f:P}(n:f ∈ B.fams):bu f ∈ B.N:=by
 have p:1≤iK f:=by
  obtain⟨q,c,o,e,w,t,h,rfl⟩:=m.hf f n;have:=h.hcr.1
  simp[iK];lia
 have y:∀(a:List P)(k:Nat),f ∈ a->∃x ∈ hw k a,x.2=f:=by
  intro a;induction a with
  |nil=>intro k h;cases h
  |cons g r i=>
   intro k h;rcases aQ.mp h with rfl|h
   .exact⟨(k,f),by unfold hw;exact nG _ (qI.mpr ⟨by lia,rfl⟩),rfl⟩
   .obtain⟨x,s,b⟩:=i (k+1) h;exact⟨x,by unfold hw;exact fV _ s,b⟩
 obtain⟨x,s,rfl⟩:=y B.fams 0 n;unfold BD.N aL aU;exact bN.mpr ⟨x.2,bN.mpr ⟨x,s,rfl⟩,rfl⟩
theorem Qx{B:BD}{k:Nat}{f:P}(h:(aU B.fams)[k]? = some f):B.N[k]? = some (bu f):=by unfold BD.N aL;rw[dJ,h];rfl
inductive LetOk(B:BD)(rds:List P)(hd:Nat)(y:P):Prop
 |mk (s sp k:Nat) (ls:List P):y=.tup [.int (s:Int),.int (sp:Int)]->cZ [.inl (s:Int),.inl (hd:Int)] B.ks B.vs=qi (k:Int)->k < rds.length->rds[k]? = some (.tup ls)->mn ls->sp < ls.length->LetOk B rds hd y
theorem LA{B:BD}(hP:BP B)(M:Places B){n:Nat}{u:List P}(hr:bR B u){hd s:Nat}{d:D}(j:cZ [.inl (s:Int),.inl (hd:Int)] B.ks B.vs=some d){t:Str}{g:List P} :
  ∃A:List P,A.length≤3/\((∀y ∈ A,LetOk B u hd y)/\A.Pairwise (·≠·)/\∀y ∈ A,∃v,y=.tup [.int (s:Int),v])/\∀(b i:Nat)(S:aA)(r:Nat)(w:List P)(q6 q7 C E:Option D),Bd B b i S->S[r]? = some (.lst (w.map .p))->w.length+3≤1000000 ->
   ∃q6' q7' q8' q9',f6 (Ph (n+2)) [qr i,qt u,qi (hd:Int),qt (.str t::g),qr r,qi (s:Int),q6,q7,C,E] S=some (.nx,[qr i,qt u,qi (hd:Int),qt (.str t::g),qr r,qi (s:Int),q6',q7',q8',q9'],S.set r (.lst ((w++A).map .p))):=by
 obtain⟨k,road,a,b',T,rfl,hk⟩:=M.ok _ _ _ j;obtain⟨R,l,f,F⟩:=hr.at hk;obtain⟨ra,rb,kd,c,d1,d2,ha,hb,hkd,hc1,hc2,rfl⟩:=hP.hr road T;have h3:=f.1;have e:∃e:List P,e.length≤l.length/\(∀y ∈ e,PH l.length y)/\e.Pairwise (·≠·)/\∀(L:Lc)(S:aA),L[7]? = some (qs kd)->L[8]? = some (qt l)->Ot (aK yg (U (vt "row"))) (kH (Oq (dq wN)) gH (fJ ce)) (bL (Ph (n+2) "unlike_spots") (v2 j0 lv)) L S=some (.lst e,S):=by
  have eu:=Kn (n:=n) kd f;have Z:(bJ (BL kd l)).length≤l.length:=by unfold bJ BL;rw[aZ];exact aI (ig ..) (by simp)
  have hu2:∀y ∈ bJ (BL kd l),PH l.length y:=λy H=>by obtain⟨i,N,rfl⟩:=bN.mp H;exact⟨i,i6.mp (gA.mp N).1,rfl⟩
  have hu3:(bJ (BL kd l)).Pairwise (·≠·):=qT ((vf (n:=l.length)).filter _);have Q:(intsFrom 0 l.length).Pairwise (·≠·):=by rw[Gm];exact qT (vf (n:=l.length))
  have hq:l.length < 1000000:=by lia
  by_cases o:kd="row"
  .refine⟨cut (intsFrom 0 l.length) none (some 1),by have:=(rf (h:=intsFrom 0 l.length) (lo:=none) (i:=some 1)).2;rwa [cA]at this,λy H=>?_,(by rw[show(1:Int)=((1:Nat):Int) from rfl,lH];exact Q.sublist (vj ..)),λL S G I=>?_⟩
   .obtain⟨i,rfl,N⟩:=iD (rf.1 y H);exact⟨i,N,by simp⟩
   .simp [G,I,o,di,d5,hq]
  .exact⟨_,Z,hu2,hu3,λL S G I=>by simp[G,I,o,eu]⟩
 obtain⟨e,V,K,W,es⟩:=e;let p:P->Bool:=λv=>match v with | .int x=>decide (bu (l.getD x.toNat .non)=t)|_=>false
 refine⟨(e.filter p).map λv=>.tup [.int (s:Int),v],by rw[aZ];exact aI (ig ..) (aI V h3),⟨λy H=>?_,qG.mpr ((W.filter p).imp λ{a b} h q=>h (by simpa using q)),λy H=>by obtain⟨v,_,rfl⟩:=bN.mp H;exact⟨v,rfl⟩⟩,λb i S r w q6 q7 C E hB hS hM=>?_⟩
 .obtain⟨v,hv,rfl⟩:=bN.mp H;obtain⟨x,hx,rfl⟩:=K v (gA.mp hv).1;exact⟨s,x,k,l,rfl,j,R,F,f,hx⟩
 .obtain⟨jh,jp,jl,jm,mk,mv,h⟩:=hB;have e2:bG (ai 10) (aK (U (Y (Y lv gp) bZ)) (U (Y cD bZ))) (aP (v2 iy gp)) e [qr i,qt u,qi (hd:Int),qt (.str t::g),qr r,qi (s:Int),qi (k:Int),qs kd,qt l,ql e,none] S=some ((e.filter p).map λv=>.tup [.int (s:Int),v],S):=
   cT (Inv:=λL=>∃d,L=[qr i,qt u,qi (hd:Int),qt (.str t::g),qr r,qi (s:Int),qi (k:Int),qs kd,qt l,ql e,d]) (λv hv L M=>by obtain⟨d,rfl⟩:=M;obtain⟨x,hx,rfl⟩:=K v hv;have j:l[x]? = some l[x]:=bA hx;obtain⟨m,z,_,_,hz⟩:=f.2 l[x] (eC _);rw[hz]at j;refine⟨[qr i,qt u,qi (hd:Int),qt (.str t::g),qr r,qi (s:Int),qi (k:Int),qs kd,qt l,ql e,qi (x:Int)],rfl,⟨_,rfl⟩,?_,λ_=>by simp⟩;simp[bH j,p,j,bu]) ⟨none,rfl⟩
  refine⟨qi (k:Int),qs kd,qt l,ql e,?_⟩;have X:e.length≤1000000:=by lia
  unfold f6;refine(ak (e:=[qr i,qt u,qi (hd:Int),qt (.str t::g),qr r,qi (s:Int),qi (k:Int),q7,C,E]) (c:=S) ?_).trans ?_
  .rw [aq,xU,h.places rfl];simp[mS,h.pl,eE,db,j]
  refine(ak (e:=[qr i,qt u,qi (hd:Int),qt (.str t::g),qr r,qi (s:Int),qi (k:Int),qs kd,C,E]) (c:=S) ?_).trans ?_
  .rw [aq,oK,oK,h.pr.ix (h.pairs rfl) (i:=(k:Int)) rfl (bH hk)];simp[pr]
  rw[ak (by simp[bH F];exact⟨rfl,rfl⟩)];refine(ak (e:=[qr i,qt u,qi (hd:Int),qt (.str t::g),qr r,qi (s:Int),qi (k:Int),qs kd,qt l,ql e]) (c:=S) ?_).trans ?_
  .rw [aq,U,es _ S rfl rfl];rfl
  refine nY rfl hS ?_ hS (by rw[aZ];have:=ig p e;lia);simp only[aX,fK,vE];simp[X,lZ,e2]
theorem IA{B:BD}(C:BP B)(hL:Places B){n:Nat}{hd:Nat}{f:P}(hf:(aU B.fams)[hd]? = some f){u E:List P}(hr:bR B u){V:P}(ht:kN (bu f) B.roads E V) :
  ∃k:List P,k.length≤12/\((∀y ∈ k,(V=.non/\y=.non)\/(V≠.non/\LetOk B u hd y))/\k.Pairwise (·≠·))/\∀(b i:Nat)(S:aA),Bd B b i S->∃d F,Ph (n+4) "takeable" [.ref i,.p (.tup u),.p (.int (hd:Int)),.p V] S=some (d,F)/\Fr b S F/\oJ S F d k:=by
 rcases ht with rfl|⟨m,a,t,p,_,_,_,_,⟨r,D,hrb,rfl⟩,_,rfl⟩
 .refine⟨[.non],by simp,⟨λy l=>.inl ⟨rfl,by simpa using l⟩,by simp⟩,λb i S A=>⟨.p (.lst [.non]),S,?_,Fr.refl _ _,.inl rfl⟩⟩;rw[nZ];simp[m5,kY,tH,fg]
 .have H:rA r ∈ B.N:=by
   obtain⟨⟨f',h1,z⟩,_⟩:=C.ra r D;rw[<- z];exact CO C h1
  obtain⟨f5,h1,z,h3⟩:=fh (m:=GC B) (g:=ai 5) (b:=f6 (Ph (n+3))) (Sp:=λG S=>Fr G.b G.S0 S) (r:=λG=>G.r) (R:=λx k=>(∀y ∈ k,LetOk B u hd y)/\k.Pairwise (·≠·)/\∀y ∈ k,∃v,y=.tup [x,v]) (c:=3) (M:=1000) (s:=bJ (oth B.N (rA r) hd))
   (p:=fun G L=>∃q5 I N Q T,L=[qr G.i,qt u,qi (hd:Int),qt [.str m,.str (rA r),.str t,.str p],qr G.r,q5,I,N,Q,T]) (fun x j=>by
    unfold bJ at j;obtain⟨s,H,rfl⟩:=bN.mp j;unfold oth at H;rw[gA]at H;have hsd:s≠hd:=λq=>by have:=H.2;simp[q]at this
    obtain⟨d,hg⟩:=hL.get r s hd (Qu D (ji.mp H.1) (by rw[Qx hf,hrb]) hsd);obtain⟨k,k1,k2,k3⟩:=LA C hL (n:=n+1) hr hg (t:=m) (g:=[.str (rA r),.str t,.str p]);refine⟨k,k1,k2,λG L S w hL' hS h hM=>?_⟩;obtain⟨q5,I,N,Q,T,rfl⟩:=hL';obtain⟨q6',q7',q8',q9',e⟩:=k3 G.b G.i S G.r w I N Q T (G.bd.fr hS) h (by lia);exact⟨_,_,_,rfl,e,⟨_,_,_,_,_,rfl⟩,hS.set G.le G.hr _,gc h⟩)
  have hol:(bJ (oth B.N (rA r) hd)).length≤4:=by
   have h4:B.N.length≤4:=lD C;have:=dW B.N (rA r)
   have:=ig (λo=>!decide (hd=o)) (a_ B.N (rA r));simp[bJ,oth];lia
  have hnd:(bJ (oth B.N (rA r) hd)).Pairwise (·≠·):=qT ((CH ..).filter _);have hpw:((bJ (oth B.N (rA r) hd)).flatMap f5).Pairwise (·≠·):=vm.mpr ⟨λx j=>(z x j).2.1,hnd.imp_of_mem λ{a b} ha hb hab x j y l q=>by obtain⟨v,rfl⟩:=(z a ha).2.2 x j;obtain⟨v',rfl⟩:=(z b hb).2.2 y l;simp only[P.tup.injEq,iY]at q;exact hab q.1⟩
  refine⟨_,by lia,⟨λy l=>.inr ⟨λq=>(by cases q),by obtain⟨x,j,l⟩:=fy.mp l;exact(z x j).1 y l⟩,hpw⟩,λb i S A=>?_⟩
  have JM:=Fr.app b S [.lst []];obtain⟨S1,e1,K⟩:=G' (n:=n+1) C (A.fr JM) hd H;have W:=JM.trans K;have hb:=A.le;obtain⟨L',F,e2,⟨q5,I,N,Q,T,rfl⟩,X,hl⟩:=h3 ⟨b,i,S,S.length,A,al _⟩ [qr i,qt u,qi (hd:Int),qt [.str m,.str (rA r),.str t,.str p],qr S.length,none,none,none,none,none] S1 [] ⟨_,_,_,_,_,rfl⟩ W (K.hi _ _ hb (dR _ _)) (by simp;lia);refine⟨.ref S.length,F,?_,X,.inr ⟨S.length,al _,rfl,.inl hl⟩⟩;rw[nZ];have Z:=A.fr JM;obtain⟨jh,jp,jl,jm,mk,mv,hb2⟩:=Z;have em:dU (mT Tb (Ph (n+3))) cC "hands_beside" (rV gq (U (Y cD ce))) [qr i,qt u,qi (hd:Int),qt [.str m,.str (rA r),.str t,.str p],qr S.length,none,none,none,none,none] (S++[.lst []])=some (.p (.lst (bJ (oth B.N (rA r) hd))),S1):=
   (hb2.meth rfl (Tn _) Tv (l:=[.p (.int (hd:Int)),.p (.str (rA r))]) (by simp)).trans e1
  simp[m5,kY,tH,fg,-dU,em,e2]
def o4(v:P):Prop:=∃j:Int,v=.int j
theorem o4.ok(h:o4 v)(n:Nat):cm n v=true:=by obtain⟨j,rfl⟩:=h;simp
theorem Me(hP:BP B)(hL:Places B)(T:bR B u)(hd t v:Int)(hm:az m=true) :
  ∃I:Option (List P),(∀j,I=some j->bR B j)/\∀(b i:Nat)(S:aA)(s:P)(p e x:Option D),Bd B b i S->∃C E G,
   ir (Ph (n+2)) [qr i,qt u,qi hd,O s,qt [.str m,.int v],qi t,p,e,x] S=match I with
    |none=>some (.rt (.p .non),[qr i,qt u,qi hd,O s,qt [.str m,.int v],qi t,C,E,G],S)
    |some j=>some (.nx,[qr i,qt j,qi hd,O s,qt [.str m,.int v],qi t,C,E,G],S):=by
 cases N:cZ [.inl hd,.inl t] B.ks B.vs with
 |none=>
  refine⟨none,λ_ q=>(by cases q),λb i S s p e x r=>⟨O .non,e,x,?_⟩⟩;obtain⟨W,jp,X,Z,mk,mv,h⟩:=r;unfold ir;refine(ak (e:=[qr i,qt u,qi hd,O s,qt [.str m,.int v],qi t,O .non,e,x]) (c:=S) ?_).trans (vS ?_)
  .rw [aq,uu,h.places rfl];simp[mS,h.pl,eE,db,N]
  .simp [tH,fg]
 |some d=>
  obtain⟨k,road,a,b',V,rfl,hk⟩:=hL.ok _ _ _ N;obtain⟨Q,A,R,l⟩:=T.at hk;obtain⟨ra,rb,kd,c,d1,d2,ha,hb,hkd,hc1,hc2,y⟩:=hP.hr road V;have L:L2.atI [P.str ra,.str rb,.str kd,.int c,.bl d1,.bl d2] 3=some (.int c):=bS (by decide) rfl;have s1:∀(b i:Nat)(S:aA)(s:P)(p e x:Option D),Bd B b i S->aq 6 (uu (cc (aT Att) cC "places") (v2 b_ iy)) [qr i,qt u,qi hd,O s,qt [.str m,.int v],qi t,p,e,x] S=some (.nx,[qr i,qt u,qi hd,O s,qt [.str m,.int v],qi t,qi (k:Int),e,x],S):=λb i S s p e x r=>by obtain⟨W,jp,X,Z,mk,mv,h⟩:=r;rw[aq,uu,h.places rfl];simp[mS,h.pl,eE,db,N]
  by_cases hv:v.natAbs≤999
  .have g:¬(999:Int) < (if v < 0 then -v else v):=by split<;>lia
   by_cases M:c≤(A.length:Int)
   .refine⟨none,λ_ q=>(by cases q),λb i S s p e x r=>⟨qi (k:Int),O road,x,?_⟩⟩;refine(ak (s1 b i S s p e x r)).trans ((ak (e:=[qr i,qt u,qi hd,O s,qt [.str m,.int v],qi t,qi (k:Int),e,x]) (c:=S) ?_).trans ((ak (e:=[qr i,qt u,qi hd,O s,qt [.str m,.int v],qi t,qi (k:Int),O road,x]) (c:=S) ?_).trans (vS ?_)))
    .simp [tH,fg,pT,g]
    .obtain⟨W,jp,X,Z,mk,mv,h⟩:=r;rw[aq,oK,h.pr.ix (h.pairs rfl) (i:=(k:Int)) rfl (bH hk)];simp[pr]
    .simp [y,bH l,di,d5,L,M]
   .have H:(A++[P.tup [.str m,.int v]]).length≤3:=by simp;lia
    have F:mn (A++[P.tup [.str m,.int v]]):=⟨H,dZ R.2 ⟨m,v,hm,hv,rfl⟩⟩;have ea:=jg (xs:=A) (c:=[P.tup [.str m,.int v]]) (by simp at H ⊢;lia);obtain⟨zs,hz,ez⟩:=ue F;have hpl:=pu hP;have hrl:=T.1;have er:=λ(w:P)=>sj (n:=n) (xs:=u) (k:=k) Q (by lia) w;obtain⟨f,o,K⟩:∃f,mn f/\((kd="heap"/\f=zs)\/(¬kd="heap"/\f=A++[P.tup [.str m,.int v]])):=by
     by_cases z:kd="heap"
     .exact⟨zs,hz,.inl ⟨z,rfl⟩⟩
     .exact⟨_,F,.inr ⟨z,rfl⟩⟩
    refine⟨some (u.set k (.tup f)),λ_ q=>by cases q;exact T.set k o,λb i S s p e x r=>⟨qi (k:Int),O road,qt f,?_⟩⟩;refine(ak (s1 b i S s p e x r)).trans ((ak (e:=[qr i,qt u,qi hd,O s,qt [.str m,.int v],qi t,qi (k:Int),e,x]) (c:=S) ?_).trans ((ak (e:=[qr i,qt u,qi hd,O s,qt [.str m,.int v],qi t,qi (k:Int),O road,x]) (c:=S) ?_).trans ?_))
    .simp [tH,fg,pT,g]
    .obtain⟨W,jp,X,Z,mk,mv,h⟩:=r;rw[aq,oK,h.pr.ix (h.pairs rfl) (i:=(k:Int)) rfl (bH hk)];simp[pr]
    rcases K with ⟨z,rfl⟩|⟨z,rfl⟩
    .simp [y,bH l,di,d5,L,M,ea,z,EZ,IJ,ez,cz,er]
    .simp [y,bH l,di,d5,L,M,ea,z,er]
  .have g:(999:Int) < (if v < 0 then -v else v):=by split<;>lia
   refine⟨none,λ_ q=>(by cases q),λb i S s p e x r=>⟨qi (k:Int),e,x,?_⟩⟩;refine(ak (s1 b i S s p e x r)).trans (vS ?_);simp[tH,fg,pT,g]
theorem BZ{B:BD}(F:BP B)(H:Places B){n:Nat}(hd v:Int){m:Str}(K:az m=true):∀{l:List P},(∀t ∈ l,o4 t)->∀{u:List P},bR B u ->
  ∃r:Option (List P),(∀s,r=some s->bR B s)/\∀(b i:Nat)(S:aA)(d:P)(w f c p:Option D),Bd B b i S->∃L z h a k,
   bc (ai 5) (ir (Ph (n+2))) l [qr i,qt u,qi hd,O d,qt [.str m,.int v],w,f,c,p] S=match r with
    |none=>some (.rt (.p .non),L,S)
    |some s=>some (.nx,[qr i,qt s,qi hd,O d,qt [.str m,.int v],z,h,a,k],S)
 | [],_,u,y=>⟨some u,λ_ q=>by cases q;exact y,λb i S d w f c p _=>⟨[],w,f,c,p,rfl⟩⟩
 |t::l,A,u,y=>by
  obtain⟨j,rfl⟩:=A t aF;obtain⟨r,N,o⟩:=Me F H (n:=n) y hd j v K;cases r with
  |none=>refine⟨none,λ_ q=>(by cases q),λb i S d w f c p g=>?_⟩;obtain⟨h,a,k,e⟩:=o b i S d f c p g;exact⟨_,w,f,c,p,sN rfl e⟩
  |some s=>obtain⟨r,R,T⟩:=BZ F H (n:=n) hd v K (l:=l) (λx Q=>A x (aH _ Q)) (N s rfl);refine⟨r,R,λb i S d w f c p g=>?_⟩;obtain⟨h,a,k,e⟩:=o b i S d f c p g;obtain⟨L,C,E,G,I,M⟩:=T b i S d (qi j) h a k g;exact⟨L,C,E,G,I,by rw[<- M];exact bj rfl e⟩
theorem IY(p:BP B)(f:Places B)(hd v:Int)(q:az m=true)(w:∀t ∈ c,o4 t)(d:bR B u) :
  ∃a:P,(a=.non\/∃r,bR B r/\a=.tup r)/\∀(b i:Nat)(S:aA),Bd B b i S->Ph (n+3) "posted" [.ref i,.p (.tup u),.p (.int hd),.p (.lst c),.p (.tup [.str m,.int v])] S=some (.p a,S):=by
 obtain⟨s,k,x⟩:=BZ p f (n:=n) hd v q w d;cases s with
 |none=>refine⟨.non,.inl rfl,λb i S h=>?_⟩;obtain⟨L,_,_,_,_,e⟩:=x b i S (.lst c) none none none none h;rw[sP];simp only[AI]at e;simp[m5,nc,e]
 |some r=>refine⟨.tup r,.inr ⟨r,k r rfl,rfl⟩,λb i S h=>?_⟩;obtain⟨L,_,_,_,_,e⟩:=x b i S (.lst c) none none none none h;rw[sP];simp only[AI]at e;simp[m5,nc,e]
def Nr(y z:P):Prop:=∀s a:List P,∀q h:P,y=.tup [.tup s,q]->z=.tup [.tup a,h]->s≠a
def KH(dl:Nat)(y:P):Prop:=∃s h,y=.tup [.tup s,.lst h]/\s.length=dl/\(∀a ∈ s,o4 a)/\∀t ∈ h,o4 t
noncomputable abbrev d8(n:Str)(e:Nat)(r c w s:List P):P:=.tup [.str n,.int (e:Int),.lst r,.lst c,.lst w,.lst s]
theorem BQ{s:List P}(h:∀x ∈ s,km x){x:Str}(a:P.str x ∈ s):∃i:Nat,i < s.length/\mY s (.str x)=some i:=sI (λy e=>(h y e).ok 19) a
theorem tg_ok{B:BD}(Q:BP B){n:Nat}{hd:Nat}{T:Str}{u:Nat}{m c s x:List P}(hF:Fam B.roads T u m c s x)(hf:(aU B.fams)[hd]? = some (d8 T u m c s x)){l:List P}(hw:l.length=s.length)(hwi:∀w ∈ l,o4 w){j K:Str}
  (hc:(j="who"/\P.str K ∈ s)\/((j="all"\/j="any")/\∃r ∈ B.roads,rA r=T/\K=rB r)) :
  ∃(V:List P)(dl:Nat),dl≤1/\V.length≤4/\((∀y ∈ V,KH dl y)/\V.Pairwise Nr)/\∀(b i:Nat)(S:aA),Bd B b i S->∃C,Ph (n+4) "targets_of" [.ref i,.p (.int (hd:Int)),.p (.str j),.p (.str K),.p (.tup l)] S=some (.p (.lst V),C)/\Fr b S C:=by
 rcases hc with ⟨rfl,X⟩|⟨M,r,Z,hra,rfl⟩
 .obtain⟨k,hk,ek⟩:=BQ hF.hwh X;have hg:l[k]? = some (l[k]'(by lia)):=bA (by lia);generalize hv:l[k]'(by lia)=v at hg;have hvi:o4 v:=by rw[<- hv];exact hwi _ (eC _)
  refine⟨[.tup [.tup [],.lst [v]]],0,by simp,by simp,⟨λy N=>⟨[],[v],by simpa using N,by simp,λ_ h=>(by cases h),λt R=>by rw[fU.mp R];exact hvi⟩,by simp⟩,λb i S H=>⟨S,?_,Fr.refl _ _⟩⟩;have ef:=wm (n:=n+1) H hf;obtain⟨jh,jp,jl,jm,mk,mv,h⟩:=H;have E:dU (mT Tb (Ph (n+3))) cC "family_of" (DO gj) [qr i,qi (hd:Int),qs "who",qs K,qt l,none] S=some (.p (d8 T u m c s x),S):=
   (h.meth rfl (Px _) P5 (l:=[.p (.int (hd:Int))]) (by simp)).trans ef
  rw[jw];simp[m5,gO,-dU,E,Nw,ek,bH hg]
 .have hs:rB r ∈ B.N:=by
   obtain⟨_,⟨f',h1,h2⟩⟩:=Q.ra r Z;rw[<- h2];exact CO Q h1
  have I:(bJ (oth B.N (rB r) hd)).length≤4:=by
   have h4:B.N.length≤4:=lD Q;have:=dW B.N (rB r)
   have:=ig (λo=>!decide (hd=o)) (a_ B.N (rB r));simp[bJ,oth];lia
  have F:∀t ∈ bJ (oth B.N (rB r) hd),o4 t:=λt R=>by unfold bJ at R;obtain⟨o,_,rfl⟩:=bN.mp R;exact⟨_,rfl⟩
  have E:∀(b i:Nat)(S:aA),Bd B b i S->∃C,dU (mT Tb (Ph (n+3))) cC "hands_beside" (rV gj nL) [qr i,qi (hd:Int),qs j,qs (rB r),qt l,none] S=some (.p (.lst (bJ (oth B.N (rB r) hd))),C)/\Fr b S C:=λb i S H=>by obtain⟨A,D,g⟩:=G' (n:=n+1) Q H hd hs;obtain⟨jh,jp,jl,jm,mk,mv,h⟩:=H;exact⟨A,(h.meth rfl (Tn _) Tv (l:=[.p (.int (hd:Int)),.p (.str (rB r))]) (by simp)).trans D,g⟩
  have G:(bJ (oth B.N (rB r) hd)).Pairwise (·≠·):=qT ((CH ..).filter _);generalize bJ (oth B.N (rB r) hd)=os at I F E G;rcases M with rfl|rfl
  .refine⟨[.tup [.tup [],.lst os]],0,by simp,by simp,⟨λy N=>⟨[],os,by simpa using N,by simp,λ_ h=>(by cases h),F⟩,by simp⟩,λb i S H=>?_⟩;obtain⟨A,D,g⟩:=E b i S H;refine⟨A,?_,g⟩;rw[jw];simp[m5,gO,-dU,D]
  .refine⟨os.map fun o=>.tup [.tup [o],.lst [o]],1,by simp,by simpa using I,⟨fun y N=>?_,qG.mpr (G.imp fun {a b} h as as' q q' e e' z=>h (by
    simp only[P.tup.injEq,iY,kz]at e e';rw[<- e.1,<- e'.1]at z;simpa using z))⟩,λb i S H=>?_⟩
   .obtain⟨o,ho,rfl⟩:=bN.mp N;exact⟨[o],[o],rfl,by simp,λa W=>by rw[fU.mp W];exact F o ho,λa W=>by rw[fU.mp W];exact F o ho⟩
   .obtain⟨A,D,g⟩:=E b i S H;refine⟨A,?_,g⟩;have e2:bG (ai 6) dF (aP (v2 (aP (v1 g6)) (aW (v1 g6)))) os [qr i,qi (hd:Int),qs "any",qs (rB r),qt l,ql os,none] A=some (os.map λo=>.tup [.tup [o],.lst [o]],A):=by
     rw[cT (p:=λ_=>true) (f:=λo=>.tup [.tup [o],.lst [o]]) (Inv:=λL=>∃d,L=[qr i,qi (hd:Int),qs "any",qs (rB r),qt l,ql os,d]) (λv hv L hL=>?_) ⟨none,rfl⟩,jS];obtain⟨d,rfl⟩:=hL;exact⟨[qr i,qi (hd:Int),qs "any",qs (rB r),qt l,ql os,O v],rfl,⟨_,rfl⟩,rfl,λ_=>by simp⟩
    have hq:os.length≤1000000:=by lia
    rw[jw];simp[m5,gO,-dU,D,aX,hq,lZ,e2]
def Co(y:P):Prop:=∃s p:Nat,y=.tup [.int (s:Int),.int (p:Int)]
theorem Oo{n:Nat}{j:List P}{d:Str}{e:Nat}{r c o t:List P}(F:Fam j d e r c o t){x:List P}(hw:x.length=o.length)(i:∀w ∈ x,o4 w){p y:P}(H:kN d j o p)(K:(p=.non/\y=.non)\/(p≠.non/\Co y)) :
  ∃f,f.length=o.length/\(∀w ∈ f,o4 w)/\bU (Ph (n+3) "whos_behind") [d8 d e r c o t,.tup x,p,y]=some (.tup f):=by
 rcases H with rfl|⟨m,a,g,u,_,_,_,_,_,b,rfl⟩
 .refine⟨x,hw,i,?_⟩;rw[iJ,aw];simp[fZ,tH,fg]
 .obtain⟨s,A,rfl⟩:Co y:=by
   rcases K with ⟨q,_⟩|⟨_,q⟩
   .cases q
   .exact q
  by_cases v:u=""
  .refine⟨x,hw,i,?_⟩;rw[iJ,aw];simp[fZ,tH,fg,v]
  .obtain⟨k,hk,l⟩:=BQ F.hwh (b.resolve_left v);have S:=F.wl;have z:=sj (n:=n) (xs:=x) (k:=k) (by lia) (by lia) (.int (s:Int));refine⟨x.set k (.int (s:Int)),by rw[dn];exact hw,λw h=>?_,?_⟩
   .rcases A' h with h|rfl
    .exact i w h
    .exact⟨_,rfl⟩
   .rw [iJ,aw];simp[fZ,tH,fg,v,Nw,l,z]
theorem wB(x:cu)(y:P):∀(n:List cu)(c:List P),n.Nodup->n.length=c.length->∃s a,p9 x (.p y) n (c.map .p)=(s,a.map .p)/\s.Nodup/\s.length=a.length/\s.length≤n.length+1/\(∀k ∈ s,k=x\/k ∈ n)/\∀k,cO k s a=if x=k then some y else cO k n c
 | [],[],_,_=>⟨[x],[y],rfl,by simp,rfl,by simp,λk h=>.inl (by simpa using h),λk=>by by_cases q:x=k<;>simp[cO,q]⟩
 | [],_::_,_,h=>by simp at h
 |_::_,[],_,h=>by simp at h
 |f::n,v::c,m,l=>by
  obtain⟨hk,m⟩:=ci.mp m;by_cases q:f=x
  .refine⟨f::n,y::c,by simp[p9,q],ci.mpr ⟨hk,m⟩,by simpa using l,by simp,λk h=>.inr h,λk=>?_⟩;subst q;by_cases b:f=k
   .simp [cO,b]
   .simp [cO,b]
  .obtain⟨s,a,e,p,d,u,r,w⟩:=wB x y n c m (by simpa using l);refine⟨f::s,v::a,by simp[p9,q,e],ci.mpr ⟨λz=>?_,p⟩,by simp[d],by simp;lia,λk h=>?_,λk=>?_⟩
   .rcases r f z with z|z
    .exact q z
    .exact hk z
   .rcases aQ.mp h with rfl|h
    .exact .inr aF
    .rcases r k h with h|h
     .exact .inl h
     .exact .inr (aH _ h)
   .show (if f=k then some v else cO k s a)=_;by_cases b:f=k
    .subst b;have:¬x=f:=λz=>q z.symm
     simp[cO,this]
    .rw [ah b,w];by_cases t:x=k
     .simp [t]
     .simp [t,cO,b]
structure Giv(gk:List cu)(gv:List P):Prop where
 nd:gk.Nodup
 ln:gk.length=gv.length
 le:gk.length≤100
 iv:∀k v,cO k gk gv=some v->o4 v
variable{s:List cu}{f:List P}
theorem Giv.put(h:Giv s f)(l:s.length≤99)(y:cu)(i:Int):∃g x,p9 y (.p (.int i)) s (f.map .p)=(g,x.map .p)/\Giv g x/\g.length≤s.length+1:=by
 obtain⟨n,b,e,c,m,r,p,t⟩:=wB y (.int i) s f h.nd h.ln;refine⟨n,b,e,⟨c,m,by lia,λk v a=>?_⟩,r⟩;rw[t]at a;split at a
 .cases a;exact⟨_,rfl⟩
 .exact h.iv k v a
theorem BV{o:EE}{k v:EV}{L:Lc}{S n:aA}{j:Nat}{s:List cu}{f:List P}{x:Str}{i:Int}(h:Giv s f)(l:s.length≤99)(p:v L S=some (.int i,n))(t:o L n=some (.ref j,n))(hk:k L n=some (.str x,n))(r:n[j]? = some (.dct s (f.map .p))):∃g a,Giv g a/\g.length≤s.length+1/\jq o k v L S=some (.nx,L,n.set j (.dct g (a.map .p))):=by
 obtain⟨g,a,e,c,m⟩:=h.put l (.inr x) i;refine⟨g,a,c,m,?_⟩;have b:w8 o k v L S=some (.nx,L,n.set j (.dct g (a.map .p))):=by unfold w8;rw[p,am,t,am,hk,am];simp only[mU,r,db];rw[af ⟨h.nd,by rw[j5];lia⟩,e]
 unfold jq;rw[b]
theorem ul{k:cu}:∀{s:List cu}{x:List P},Du k s=false->cO k s x=none
 | [],_,_=>by cases ‹List P›<;>rfl
 |_::_,[],_=>rfl
 |a::s,v::x,h=>by unfold Du at h;rw[dI,Bh]at h;show(if a=k then some v else cO k s x)=none;rw[ah (of_decide_eq_false h.1)];exact ul h.2
noncomputable abbrev gE(x:Str)(m w t:P)(c s:List P)(r:P):P:=.tup [.str x,m,w,t,.lst c,.lst s,r]
theorem w1(a b c d e f g:P):L2.atI [a,b,c,d,e,f,g] 3=some d:=bS (by decide) rfl
theorem OM(a b c d e f g:P):L2.atI [a,b,c,d,e,f,g] 4=some e:=bS (by decide) rfl
theorem OL(a b c d e f g:P):L2.atI [a,b,c,d,e,f,g] 5=some f:=bS (by decide) rfl
theorem EW(a b c d e f g:P):L2.atI [a,b,c,d,e,f,g] 6=some g:=bS (by decide) rfl
theorem M9(a b c d e f:P):L2.atI [a,b,c,d,e,f] 2=some c:=bS (by decide) rfl
theorem QS(a b c d e f:P):L2.atI [a,b,c,d,e,f] 5=some f:=bS (by decide) rfl
theorem No{V:Str->GF}(G:Giv s f)(K:o=.dct s (f.map .p)\/o=.fz (.dct s f))(C:isCel c)(m:b[k]? = some z)(S:∃i:Int,i.natAbs≤999/\z=.int i)(T:w.length≤1000)(r t q:Option D) :
  (∃L,br I [O a,qt b,O st,O A,qr 0,r,t,qr 1,qi (k:Int),O c,q] [o,.lst (w.map .p)]=some (.rt (.p .non),L,[.fz (.dct s f),.lst (w.map .p)])) \/
  ∃i:Int,i.natAbs≤999/\br I [O a,qt b,O st,O A,qr 0,r,t,qr 1,qi (k:Int),O c,q] [o,.lst (w.map .p)]=some (.nx,[O a,qt b,O st,O A,qr 0,r,t,qr 1,qi (k:Int),O c,qi i],[.fz (.dct s f),.lst ((w++[P.int i]).map .p)]):=by
 obtain⟨x,lo,g,d,_,M,N,Q,R,rfl⟩:=C;obtain⟨F,H,rfl⟩:=S;have p:toP 9 (.ref 0) [o,.lst (w.map .p)]=some (.dct s f,[.fz (.dct s f),.lst (w.map .p)]):=by
  rcases K with rfl|rfl
  .have:tF (toP 8) (f.map .p) [SO.dct s (f.map .p),.lst (w.map .p)]=some (f,[SO.dct s (f.map .p),.lst (w.map .p)]):=l8 ..;simp[toP,this]
  .rfl
 have E:o4 ((cO (.inr x) s f).getD (.int F)):=by
  cases e:cO (.inr x) s f with
  |none=>exact⟨F,rfl⟩
  |some v=>exact G.iv _ v e
 obtain⟨n,h⟩:=E;have l:w.length≤1000000:=by lia
 cases hk:Du (.inr x) s with
 |false=>
  have j:n=F:=by rw[ul hk]at h;exact(P.int.inj h).symm
  right;refine⟨n,by rw[j];exact H,?_⟩;rw[<- dt];simp[br,p,db,bH m,h,i_,M6,NN,jx,hk,eZ,l]
 |true=>
  by_cases y:lo≤n/\n≤g
  .right;refine⟨n,by lia,?_⟩;rw[<- dt];simp[br,p,db,bH m,h,i_,M6,NN,jx,hk,eZ,l,y.1,y.2]
  .left;refine⟨[O a,qt b,O st,O A,qr 0,r,t,qr 1,qi (k:Int),qt [.str x,.int lo,.int g,.int d],qi n],?_⟩;by_cases u:lo≤n
   .have B:¬n≤g:=λz=>y ⟨u,z⟩;simp[br,p,db,bH m,h,i_,M6,NN,jx,hk,u,B]
   .simp [br,p,db,bH m,h,i_,M6,NN,jx,hk,u]
theorem CJ{K:Str->GF}(v:∀c ∈ b,∃i:Int,i.natAbs≤999/\c=.int i)(G:Giv s f)(u g:Option D):∀{l:List P}{k:Nat},(∀c ∈ l,isCel c)->k+l.length=b.length->∀{n:SO},(n=.dct s (f.map .p)\/n=.fz (.dct s f))->∀{w:List P},w.length=k->b.length≤1000->∀(j H q:Option D),
  (∃L S,bc (aY [ai 8,ai 9]) (br C) (bM (k:Int) l) [O m,qt b,O st,O A,qr 0,u,g,qr 1,j,H,q] [n,.lst (w.map .p)]=some (.rt (.p .non),L,S)) \/
  ∃y r t a o,y.length=l.length/\(∀c ∈ y,∃i:Int,i.natAbs≤999/\c=.int i)/\bc (aY [ai 8,ai 9]) (br C) (bM (k:Int) l) [O m,qt b,O st,O A,qr 0,u,g,qr 1,j,H,q] [n,.lst (w.map .p)]=some (.nx,[O m,qt b,O st,O A,qr 0,u,g,qr 1,r,t,a],[o,.lst ((w++y).map .p)])
 | [],k,_,_,n,_,w,_,_,j,H,q=>.inr ⟨[],j,H,q,n,rfl,λ_ h=>(by cases h),by simp[bM,bc]⟩
 |c::l,k,F,hk,n,B,w,R,N,j,H,q=>by
  simp only[aR]at hk;have d:b[k]? = some (b[k]'(by lia)):=bA (by lia);unfold bM;rcases No (I:=C) (V:=K) (a:=m) (st:=st) (A:=A) (w:=w) G B (F c aF) d (v _ (eC _)) (by lia) u g q with ⟨L,e⟩|⟨i,M,e⟩
  .exact .inl ⟨_,_,sN rfl e⟩
  .rcases CJ (C:=C) (K:=K) (m:=m) (st:=st) (A:=A) v G u g (l:=l) (k:=k+1) (λx Q=>F x (aH _ Q)) (by lia) (n:=.fz (.dct s f)) (.inr rfl) (w:=w++[.int i]) (by simp;lia) N (qi (k:Int)) (O c) (qi i) with ⟨L,S,p⟩|⟨y,r,t,a,o,E,I,p⟩
   .rw [jj]at p;exact .inl ⟨L,S,(bj rfl e).trans p⟩
   .rw [jj]at p;refine .inr ⟨.int i::y,r,t,a,o,by simp[E],λz d=>?_,?_⟩
    .rcases aQ.mp d with rfl|d
     .exact⟨i,M,rfl⟩
     .exact I z d
    .rw [show w++.int i::y=w++[.int i]++y by simp];exact(bj rfl e).trans p
theorem Qm{X t:List P}{W:Str}{F:P}(T:kN W X t F){K:List cu}{V:List P}(Q:lO (more F) K V){s:List cu}{f:List P}(G:Giv s f)(R:s.length≤99)(h p z A r:P)(x:Str)(c H:List P)(d u j l y q:Option D) :
  ∃g b,Giv g b/\b8 (jd (bV (cP eF (U (Y b_ gY)) (U (vC (.non))))) (eT (U (Y (Y b_ gY) dD)) (U (vt "")))) (jq tt (Y (Y b_ gY) dD) (Y cD (vt "it"))) cN [O h,O p,O (gE x z A F c H r),O (.dct K V),qr 0,d,u,j,l,y,q] [.dct s (f.map .p)]=some (.nx,[O h,O p,O (gE x z A F c H r),O (.dct K V),qr 0,d,u,j,l,y,q],[.dct g (b.map .p)]):=by
 rcases T with rfl|⟨m,a,n,w,_,_,_,_,_,_,rfl⟩
 .exact⟨s,f,G,by simp[w1,eF,fg]⟩
 .by_cases E:n=""
  .exact⟨s,f,G,by simp[w1,eF,fg,E]⟩
  .obtain⟨i,_,I⟩:=Q "it" (by simp[more]);obtain⟨B,C,M,Z,e⟩:=BV (o:=bo 4) (k:=Y (Y b_ gY) dD) (v:=Y cD (vt "it")) (L:=[O h,O p,O (gE x z A (.tup [.str m,.str a,.str n,.str w]) c H r),O (.dct K V),qr 0,d,u,j,l,y,q]) (S:=[.dct s (f.map .p)]) G R (i:=i) (n:=[.dct s (f.map .p)]) (x:=n) (by simp[I]) rfl (by simp[w1]) rfl;refine⟨B,C,M,?_⟩;rw[b8];have N:(jd (bV (cP eF (U (Y b_ gY)) (U (vC (.non))))) (eT (U (Y (Y b_ gY) dD)) (U (vt "")))) [O h,O p,O (gE x z A (.tup [.str m,.str a,.str n,.str w]) c H r),O (.dct K V),qr 0,d,u,j,l,y,q] [.dct s (f.map .p)]=some (true,[.dct s (f.map .p)]):=by simp[w1,eF,fg,E]
   rw[N];exact e
theorem Ql{n:Nat}{rs:List P}{z:Str}{q:Nat}{m c a p:List P}(Z:Fam rs z q m c a p){Q:List P}(hc:CellsOk c Q){x:Str}{G M l:P}{d I:List P}{u:P}(hS:Stp z m c a rs G M l d I u){K:List cu}{V:List P}(he:lO (qU c++more l) K V) :
  ∃j:P,(j=.non\/∃H,CellsOk c H/\j=.tup H)/\bU (Ph (n+6) "cells_behind") [d8 z q m c a p,.tup Q,gE x G M l d I u,.dct K V]=some j:=by
 have hN:∀x ∈ qU c++more l,km x:=λx hx=>(cI.mp hx).elim (mV Z.hce.1 x) (qW l x);have hcl:=hS.cl;have hc3:=Z.cl;have hcn:=hc.1;let A:List (Option D):=[O (d8 z q m c a p),qt Q,O (gE x G M l d I u),O (.dct K V),qr 0]
 let Inv:Nat->Lc->aA->Prop:=λi L S=>∃(s:List cu)(f:List P)(C E:Option D),Giv s f/\s.length≤i/\L=A++[C,E,none,none,none,none]/\S=[.dct s (f.map .p)]
 obtain⟨L',S',R,s,f,C,E,hG,hgl,rfl,rfl⟩:=cn (g:=aY [ai 5,ai 6]) (b:=iW (Ph (n+5))) (Inv:=Inv) (s:=d) (k:=0) (L:=A++[none,none,none,none,none,none]) (S:=[.dct [] []]) (λi v L S hv hI=>by obtain⟨s,f,C,E,hG,hgl,rfl,rfl⟩:=hI;have hi:=bx hv;obtain⟨y,t,_,ht,rfl⟩:=hS.ch v (bq hv);obtain⟨r,er⟩:=rW hN he ht (n:=n+1);obtain⟨T,W,X,h2,e⟩:=BV (o:=bo 4) (k:=vv 5) (v:=bL (Ph (n+5) "value_of") (v2 g6 cD)) (L:=A++[qs y,O t,none,none,none,none]) (S:=[.dct s (f.map .p)]) hG (by lia) (i:=r) (n:=[.dct s (f.map .p)]) (by simp[A,er]) rfl rfl rfl;exact⟨_,_,_,rfl,e,T,W,_,_,X,by lia,rfl,rfl⟩) ⟨[],[],none,none,⟨by simp,rfl,by simp,λk v h=>by cases h⟩,by simp,rfl,rfl⟩
 simp only[A,nz,eB]at R;obtain⟨gk2,gv2,hG2,e2⟩:=Qm hS.htk (λx hx=>he x (fV _ hx)) hG (by lia) (d8 z q m c a p) (.tup Q) G M u x d I C E none none none none;have B:=CJ (C:=Ph (n+5)) (K:=Ph (n+4)) (m:=d8 z q m c a p) (st:=gE x G M l d I u) (A:=.dct K V) hc.2 hG2 C E (l:=c) (k:=0) Z.hce.1 (by lia) (.inl rfl) (w:=[]) rfl (by lia) none none none;rw[show((0:Nat):Int)=0 from rfl]at B;rcases B with ⟨L',S',F⟩|⟨N,q8',q9',q10',o,X,h2,F⟩
 .refine⟨.non,.inl rfl,?_⟩;rw[j_,aw];simp only[eS]at F;simp[-b8,hZ,my,OM,R,e2,Kb,F]
 .refine⟨.tup N,.inr ⟨N,⟨X,h2⟩,rfl⟩,?_⟩;rw[j_,aw];simp only[eS,eB]at F;have t1:toP 9 (.ref 1) [o,.lst (N.map .p)]=some (.lst N,[o,.fz (.lst N)]):=eU rfl;simp[-b8,hZ,my,OM,R,e2,Kb,F,t1,cz]
end My
namespace My
open PySem L2 Ev
def pI(B:BD)(t:Nat)(y:P):Prop:=∃s r,y=.tup [.tup s,.tup r]/\s.length=t/\(∀a ∈ s,o4 a)/\bR B r
structure GS(B:BD)(K:List cu)(V:List P) extends GC B where
 kv:Nat
 hkv:b≤kv
 hk:S0[kv]? = some (.fz (.dct K V))
abbrev FL(i k r:Nat)(hd t m l:P)(d f b c q h:Option D)(x a e s n:Option D):Lc:=[qr i,O hd,O t,qr k,O m,O l,d,f,b,c,q,h,qr r,x,a,e,s,n]
theorem Uc{B:BD}(j:BP B)(k:Places B){n:Nat}{K:List cu}{V:List P}(hd v:Int){m:Str}(hm:az m=true){t:Nat}(ht:t≤10){f:List P}(has:f.length=t)(Z:∀a ∈ f,o4 a){c:List P}(hr:bR B c)(E C l:P)(H F A x:Option D){dl:Nat}(hdl:dl≤1){y:P}(hy:KH dl y) :
  ∃W:List P,W.length≤1/\((∀z ∈ W,pI B (t+dl) z)/\∀z ∈ W,∃bs q r,y=.tup [.tup bs,q]/\z=.tup [.tup (f++bs),.tup r])/\∀(G:GS B K V)(L:Lc)(S:aA)(p:List P),(∃d i o s,L=FL G.i G.kv G.r (.int hd) E C l d H F A x (qt [.str m,.int v]) (qt f) (qt c) i o s)->Fr G.b G.S0 S->S[G.r]? = some (.lst (p.map .p))->p.length+1≤1000 ->
   ∃L1 L2 w,aY [ai 15,ai 16] y L=some L1/\iM (Ph (n+3)) L1 S=some (.nx,L2,w)/\(∃d i o s,L2=FL G.i G.kv G.r (.int hd) E C l d H F A x (qt [.str m,.int v]) (qt f) (qt c) i o s)/\Fr G.b G.S0 w/\w[G.r]? = some (.lst ((p++W).map .p)):=by
 obtain⟨bs,I,rfl,hbl,hbi,hti⟩:=hy;obtain⟨ans,T,ep⟩:=IY j k (n:=n) hd v hm hti hr;have Q:=jg (xs:=f) (c:=bs) (by lia);rcases T with rfl|⟨r,hr',rfl⟩
 .refine⟨[],by simp,⟨λ_ h=>(by cases h),λ_ h=>(by cases h)⟩,λG L S p M R X hM=>?_⟩;obtain⟨d,i,o,s,rfl⟩:=M;obtain⟨w,e,u⟩:=CK (b:=G.b) (g:=Ph (n+3) "posted") (q:=K9 cC (bo 14) gj (bo 16) (bo 11)) (L:=FL G.i G.kv G.r (.int hd) E C l d H F A x (qt [.str m,.int v]) (qt f) (qt c) (qt bs) (ql I) s) (S:=S) (l:=[.ref G.i,.p (.tup c),.p (.int hd),.p (.lst I),.p (.tup [.str m,.int v])]) rfl (ep G.b G.i S (G.bd.fr R)) (Fr.refl _ _);refine⟨FL G.i G.kv G.r (.int hd) E C l d H F A x (qt [.str m,.int v]) (qt f) (qt c) (qt bs) (ql I) s,FL G.i G.kv G.r (.int hd) E C l d H F A x (qt [.str m,.int v]) (qt f) (qt c) (qt bs) (ql I) (O .non),w,rfl,?_,⟨_,_,_,_,rfl⟩,R.trans u,?_⟩
  .refine (ak (e:=FL G.i G.kv G.r (.int hd) E C l d H F A x (qt [.str m,.int v]) (qt f) (qt c) (qt bs) (ql I) (O .non)) (c:=w) ?_).trans ?_
   .rw [aq,U,e];rfl
   .simp [eF,fg]
  .rw [eA];exact u.hi _ _ (aI G.le G.hr) X
 .refine⟨[.tup [.tup (f++bs),.tup r]],by simp,⟨λz hz=>⟨f++bs,r,by simpa using hz,by rw[bz];lia,λa ha=>(cI.mp ha).elim (Z a) (hbi a),hr'⟩,λz hz=>⟨bs,_,r,rfl,by simpa using hz⟩⟩,λG L S p M R X hM=>?_⟩;obtain⟨d,i,o,s,rfl⟩:=M;obtain⟨w,e,u⟩:=CK (b:=G.b) (g:=Ph (n+3) "posted") (q:=K9 cC (bo 14) gj (bo 16) (bo 11)) (L:=FL G.i G.kv G.r (.int hd) E C l d H F A x (qt [.str m,.int v]) (qt f) (qt c) (qt bs) (ql I) s) (S:=S) (l:=[.ref G.i,.p (.tup c),.p (.int hd),.p (.lst I),.p (.tup [.str m,.int v])]) rfl (ep G.b G.i S (G.bd.fr R)) (Fr.refl _ _);have N:=u.hi _ _ (aI G.le G.hr) X;refine⟨FL G.i G.kv G.r (.int hd) E C l d H F A x (qt [.str m,.int v]) (qt f) (qt c) (qt bs) (ql I) s,FL G.i G.kv G.r (.int hd) E C l d H F A x (qt [.str m,.int v]) (qt f) (qt c) (qt bs) (ql I) (qt r),w.set G.r (.lst ((p++[P.tup [.tup (f++bs),.tup r]]).map .p)),rfl,?_,⟨_,_,_,_,rfl⟩,(R.trans u).set G.le G.hr _,gc N⟩;refine(ak (e:=FL G.i G.kv G.r (.int hd) E C l d H F A x (qt [.str m,.int v]) (qt f) (qt c) (qt bs) (ql I) (qt r)) (c:=w) ?_).trans ?_
  .rw [aq,U,e];rfl
  .rw [b8];have hc:(bV (cP eF (bo 17) (U (vC .non)))) (FL G.i G.kv G.r (.int hd) E C l d H F A x (qt [.str m,.int v]) (qt f) (qt c) (qt bs) (ql I) (qt r)) w=some (true,w):=by simp[eF,fg]
   rw[hc,am,af rfl];exact jX rfl N (by simp[Q]) N (by lia)
theorem Ub{B:BD}(j:BP B)(k:Places B){n:Nat}{K:List cu}{V:List P}{hd:Nat}{I:Str}{A:Nat}{u p H o:List P}(C:Fam B.roads I A u p H o)(a:(aU B.fams)[hd]? = some (d8 I A u p H o)){l:List P}(hw:l.length=H.length)(Q:∀w ∈ l,o4 w){s d:Str}
  (hc:(s="who"/\P.str d ∈ H)\/((s="all"\/s="any")/\∃r ∈ B.roads,rA r=I/\d=rB r)) (v:Int) {m:Str} (hm:az m=true) {t:Nat} (ht:t≤10) (sn rd:P) (q7 q8:Option D) {W:List P} (hW:∀y ∈ W,pI B t y) (hWn:W.Pairwise Nr) :
  ∃(N:List P)(dl:Nat),dl≤1/\N.length≤4 * W.length/\((∀z ∈ N,pI B (t+dl) z)/\N.Pairwise Nr)/\∀(G:GS B K V)(L:Lc)(S:aA)(Z:List P),(∃d6 T X i F E,L=FL G.i G.kv G.r (.int (hd:Int)) sn rd (.tup l) d6 q7 q8 (qs s) (qs d) (qt [.str m,.int v]) T X i F E)->Fr G.b G.S0 S->S[G.r]? = some (.lst (Z.map .p))->Z.length+4 * W.length≤1000 ->
   ∃L' S',bc (aY [ai 13,ai 14]) (f8 (Ph (n+4))) W L S=some (.nx,L',S')/\(∃d6 T X i F E,L'=FL G.i G.kv G.r (.int (hd:Int)) sn rd (.tup l) d6 q7 q8 (qs s) (qs d) (qt [.str m,.int v]) T X i F E)/\Fr G.b G.S0 S'/\S'[G.r]? = some (.lst ((Z++N).map .p)):=by
 obtain⟨tg,dl,hdl,h1,⟨h2,h2n⟩,h3⟩:=tg_ok j (n:=n) C a hw Q hc;obtain⟨f,f1,f2,f3⟩:=fh (m:=GS B K V) (c:=4) (M:=1000) (g:=aY [ai 13,ai 14]) (b:=f8 (Ph (n+4))) (s:=W) (Sp:=fun G S=>Fr G.b G.S0 S) (r:=fun G=>G.r) (R:=fun x N=>(∀z ∈ N,pI B (t+dl) z)/\N.Pairwise Nr/\∀z ∈ N,∃as bs q rs,x=.tup [.tup as,q]/\as.length=t/\z=.tup [.tup (as++bs),rs]) (p:=fun G L=>∃d6 T X i F E,L=FL G.i G.kv G.r (.int (hd:Int)) sn rd (.tup l) d6 q7 q8 (qs s) (qs d) (qt [.str m,.int v]) T X i F E) (fun x hx=>by
  obtain⟨as,rs,rfl,ha1,ha2,hr⟩:=hW x hx;obtain⟨g,k1,k2,k3⟩:=fh (m:=GS B K V) (c:=1) (M:=1000) (g:=aY [ai 15,ai 16]) (b:=iM (Ph (n+4))) (s:=tg) (Sp:=λG S=>Fr G.b G.S0 S) (r:=λG=>G.r) (R:=λy N=>N.length≤1/\(∀z ∈ N,pI B (t+dl) z)/\∀z ∈ N,∃bs q rs',y=.tup [.tup bs,q]/\z=.tup [.tup (as++bs),.tup rs']) (p:=λG L=>∃d6 i F E,L=FL G.i G.kv G.r (.int (hd:Int)) sn rd (.tup l) d6 q7 q8 (qs s) (qs d) (qt [.str m,.int v]) (qt as) (qt rs) i F E)
   (λy hy=>by obtain⟨N,l1,l2,l3⟩:=Uc j k (n:=n+1) (K:=K) (V:=V) (hd:Int) v hm ht ha1 ha2 hr sn rd (.tup l) q7 q8 (qs s) (qs d) hdl (h2 y hy);exact⟨N,l1,⟨l1,l2⟩,l3⟩)
  refine⟨tg.flatMap g,by lia,⟨λz hz=>?_,vm.mpr ⟨λy hy=>?_,h2n.imp_of_mem λ{h b} ha hb hab x hx y hy cs cs' q q' e e' z=>?_⟩,λz hz=>?_⟩,λG L S Z hLp fr hS hM=>?_⟩
  .obtain⟨y,hy,hz⟩:=fy.mp hz;exact(k2 y hy).2.1 z hz
  .have:=(k2 y hy).1;match hq:g y with
   | []=>exact .nil
   | [_]=>exact A6 ..
   |_::_::_=>rw[hq]at this;simp at this
  .obtain⟨bs1,q1,r1,ea,rfl⟩:=(k2 h ha).2.2 x hx;obtain⟨bs2,q2,r2,eb,rfl⟩:=(k2 b hb).2.2 y hy;simp only[P.tup.injEq,iY,kz]at e e';exact hab bs1 bs2 q1 q2 ea eb (List.append_cancel_left (e.1.trans (z.trans e'.1.symm)))
  .obtain⟨y,hy,hz⟩:=fy.mp hz;obtain⟨bs,q,r',_,rfl⟩:=(k2 y hy).2.2 z hz;exact⟨as,bs,_,_,rfl,ha1,rfl⟩
  obtain⟨d6,T,X,i,F,E,rfl⟩:=hLp;obtain⟨S1,e1,fr1⟩:=h3 G.b G.i S (G.bd.fr fr);obtain⟨S2,e2,fr2⟩:=CK (b:=G.b) (g:=Ph (n+4) "targets_of") (q:=K9 cC gj (bo 9) i8 BF) (L:=FL G.i G.kv G.r (.int (hd:Int)) sn rd (.tup l) d6 q7 q8 (qs s) (qs d) (qt [.str m,.int v]) (qt as) (qt rs) i F E) (S:=S) (l:=[.ref G.i,.p (.int (hd:Int)),.p (.str s),.p (.str d),.p (.tup l)]) rfl e1 fr1;obtain⟨L',S',e3,hL',fr3,h4⟩:=k3 G _ S2 Z ⟨d6,i,F,E,rfl⟩ (fr.trans fr2) (fr2.hi _ _ (aI G.le G.hr) hS) (by lia);obtain⟨d6',q15',q16',q17',rfl⟩:=hL';refine⟨FL G.i G.kv G.r (.int (hd:Int)) sn rd (.tup l) d6 q7 q8 (qs s) (qs d) (qt [.str m,.int v]) (qt as) (qt rs) i F E,FL G.i G.kv G.r (.int (hd:Int)) sn rd (.tup l) d6' q7 q8 (qs s) (qs d) (qt [.str m,.int v]) (qt as) (qt rs) q15' q16' q17',S',rfl,?_,⟨_,_,_,_,_,_,rfl⟩,fr3,h4⟩;unfold f8;rw[bE,fK,e2];exact e3)
 refine⟨W.flatMap f,dl,hdl,f1,⟨λz hz=>?_,vm.mpr ⟨λx hx=>(f2 x hx).2.1,hWn.imp_of_mem λ{h b} ha hb hab x hx y hy as as' q q' e e' z=>?_⟩⟩,f3⟩
 .obtain⟨x,hx,hz⟩:=fy.mp hz;exact(f2 x hx).1 z hz
 .obtain⟨as1,bs1,q1,r1,ea,l1,rfl⟩:=(f2 h ha).2.2 x hx;obtain⟨as2,bs2,q2,r2,eb,l2,rfl⟩:=(f2 b hb).2.2 y hy;simp only[P.tup.injEq,iY,kz]at e e';refine hab as1 as2 q1 q2 ea eb (List.append_inj (e.1.trans (z.trans e'.1.symm)) (by lia)).1
theorem EM(r:Fr b x S)(e:b≤x.length)(h:oJ x S d W):∃a,toP 9 d (S++[.lst []])=some (.lst W,a)/\Fr b x a/\a[S.length]? = some (.lst []):=by
 have f:=r.trans (Fr.app b S [.lst []]);rcases h with rfl|⟨k,hk,rfl,h⟩
 .exact⟨_,by simp,f,dR _ _⟩
 .have l:=h.lt;refine⟨_,(h.fr (Fr.app b S [.lst []])).frz,f.set e hk _,?_⟩;rw[aO (by lia)];exact dR _ _
section
variable{B:BD}(j:BP B)(k:Places B){n:Nat}{K:List cu}{V:List P}{hd:Nat}{I:Str}{A:Nat}{u p H o:List P}(C:Fam B.roads I A u p H o)(a:(aU B.fams)[hd]? = some (d8 I A u p H o)){l:List P}(hw:l.length=H.length)(Q:∀w ∈ l,o4 w){N:List P}(m:∀x ∈ N,km x)(s:lO N K V)
include j k C a hw Q m s
theorem Tg(e rd:P):∀{Z:List P},(∀c ∈ Z,isSend I B.roads H N c)->∀{t:Nat},t+Z.length≤10->∀{W:List P},(∀y ∈ W,pI B t y)->W.Pairwise Nr->4 ^ Z.length * W.length≤900 ->
  ∃(ys:List P)(T:Nat),T≤t+Z.length/\ys.length≤4 ^ Z.length * W.length/\((∀y ∈ ys,pI B T y)/\ys.Pairwise Nr)/\∀(b i:Nat)(g S:aA)(f:Nat)(E:D)(q7 q8 q9 q10 o F q p d w u:Option D),Bd B b i g->b≤f->g[f]? = some (.fz (.dct K V))->Fr b g S->oJ g S E W ->
   ∃L' S' d',bc (aY [ai 7,ai 8,ai 9,ai 10]) (iL (Ph (n+5))) Z [qr i,qi (hd:Int),O e,qr f,O rd,qt l,some E,q7,q8,q9,q10,o,F,q,p,d,w,u] S=some (.nx,L',S')/\L'[6]? = some (some d')/\Fr b g S'/\oJ g S' d' ys
 | [],_,t,_,W,hW,hWn,_=>⟨W,t,by simp,by simp,⟨hW,hWn⟩,λb i g S f E q7 q8 q9 q10 o F q p d w u _ _ _ fr ha=>⟨_,S,E,rfl,rfl,fr,ha⟩⟩
 |c::Z,hs,t,ht,W,hW,hWn,hWl=>by
  simp only[aR]at ht;rw[aR,u4,AF]at hWl;have h4:4 * W.length≤900:=aI (Nat.le_mul_of_pos_left _ (Nat.pow_pos (by decide))) hWl;obtain⟨h,tr,A,z,hm,_,hsum,hcw,rfl⟩:=hs c aF;obtain⟨v,ev⟩:=rW m s hsum (n:=n+1);obtain⟨ys,dl,hdl,h1,⟨h2,h2n⟩,h3⟩:=Ub j k (n:=n+1) (K:=K) (V:=V) C a hw Q hcw v hm (t:=t) (by lia) e rd (qs h) (O tr) hW hWn;obtain⟨zs,T,hT,k1,⟨k2,k2n⟩,k3⟩:=Tg e rd (Z:=Z) (λx hx=>hs x (aH _ hx)) (t:=t+dl) (by lia) (W:=ys) h2 h2n (aI (AK _ h1) hWl);refine⟨zs,T,by simp only[aR];lia,?_,⟨k2,k2n⟩,λb i g S f E q7 q8 q9 q10 o F q p d w u hB hkv hk fr ha=>?_⟩
  .rw [aR,u4,AF];exact aI k1 (AK _ h1)
  .obtain⟨S1,e1,fr1,hS1⟩:=EM fr hB.le ha;obtain⟨L2,S2,e2,⟨d6',G,L,M,R,X,rfl⟩,fr2,hS2⟩:=h3 { b:=b,i:=i,S0:=g,r:=S.length,bd:=hB,hr:=fr.len,kv:=f,hkv:=hkv,hk:=hk } (FL i f S.length (.int (hd:Int)) e rd (.tup l) (some E) (qs h) (O tr) (qs A) (qs z) (qt [.str h,.int v]) q p d w u) S1 [] ⟨_,_,_,_,_,_,rfl⟩ fr1 hS1 (by simp;lia);obtain⟨L',S',d',e3,h5,fr3,ha3⟩:=k3 b i g S2 f (.ref S.length) (qs h) (O tr) (qs A) (qs z) (qt [.str h,.int v]) (qr S.length) G L M R X hB hkv hk fr2 (.inr ⟨S.length,fr.len,rfl,.inl hS2⟩);refine⟨L',S',d',?_,h5,fr3,ha3⟩;refine(bj (h:=[qr i,qi (hd:Int),O e,qr f,O rd,qt l,some E,qs h,O tr,qs A,qs z,o,F,q,p,d,w,u]) rfl ?_).trans e3;have tv:toP 9 (.ref f) S=some (.dct K V,S):=by
    have:=fr.hi _ _ hkv hk;simp[toP,this]
   unfold iL;rw[ak (by simp[tv,ev];exact⟨rfl,rfl⟩)];rw[ak (by simp;exact⟨rfl,rfl⟩)];refine(ak (e:=FL i f S.length (.int (hd:Int)) e rd (.tup l) d6' (qs h) (O tr) (qs A) (qs z) (qt [.str h,.int v]) G L M R X) (c:=S2) ?_).trans ?_
   .rw [bE,fK];show a6 (a6 (toP 9 E (S++[.lst []])) _) _=_;rw[e1];exact e2
   .rfl
theorem OR(L:∀c ∈ q,isSend I B.roads H N c)(w:q.length≤3)(G:bR B r) :
  ∃(x:List P)(T:Nat),x.length≤64/\((∀y ∈ x,pI B T y)/\x.Pairwise Nr)/\∀(b i:Nat)(S:aA)(v:Nat),Bd B b i S->b≤v->S[v]? = some (.fz (.dct K V)) ->
   ∃d f,Ph (n+6) "sendings" [.ref i,.p (.int (hd:Int)),.p (.lst q),.ref v,.p (.tup r),.p (.tup l)] S=some (d,f)/\Fr b S f/\oJ S f d x:=by
 have X:4 ^ q.length≤64:=by have:=Nat.pow_le_pow_right (show 0 < 4 by decide) w;simpa using this
 obtain⟨x,T,_,z,o,F⟩:=Tg j k (n:=n) C a hw Q m s (.lst q) (.tup r) L (t:=0) (by lia) (W:=[.tup [.tup [],.tup r]]) (λy M=>⟨[],r,by simpa using M,by simp,λ_ h=>(by cases h),G⟩) (by simp) (by simp;lia);simp only[A1,Nat.mul_one]at z;refine⟨x,T,by lia,o,λb i S v D p hk=>?_⟩
 .obtain⟨R,f,u,e,A,g,E⟩:=F b i S S v (.p (.lst [.tup [.tup [],.tup r]])) none none none none none none none none none none none D p hk (Fr.refl _ _) (.inl rfl);refine⟨u,f,?_,g,E⟩;rw[wo];simp[m5,oy,e,A]
end
inductive HandOk(f x:P):Prop
 |mk (nm:Str) (crew:Nat) (rooms cells whos steps:List P) (h0:f=d8 nm crew rooms cells whos steps) (r:Nat) (cs ws:List P):x=.tup [.int (r:Int),.tup cs,.tup ws]->r < rooms.length->CellsOk cells cs->ws.length=whos.length->(∀w ∈ ws,o4 w)->HandOk f x
structure StL(B:BD)(hs rds:List P):Prop where
 hl:hs.length=(aU B.fams).length
 hh:∀(k:Nat) f x,(aU B.fams)[k]? = some f->hs[k]? = some x->HandOk f x
 hr:bR B rds
def gi(B:BD)(st:P):Prop:=∃h r,st=.tup [.tup h,.tup r]/\StL B h r
theorem StL.put(h:StL B t d)(a:(aU B.fams)[e]? = some f)(c:HandOk f b)(r:bR B v):StL B (t.set e b) v:=by
 refine⟨by rw[dn];exact h.hl,λi k x n s=>?_,r⟩;by_cases q:e=i
 .subst q;rw[a]at n;cases n;rw[cj (by rw[h.hl];exact bx a)]at s;cases s;exact c
 .rw [aO q]at s;exact h.hh i k x n s
noncomputable abbrev JM:P->P:=λy=>match y with | .tup (d::_)=>d|_=>.non
def dNe(z h:P):Prop:=JM z≠JM h
def JF(B:BD)(hd:Nat)(x:Str)(y z:P):Prop:=∃s e,z=.tup [.tup [.str "step",.int (hd:Int),.str x,y,.tup s],e]/\(∀a ∈ s,o4 a)/\gi B e
def GL(h:List P)(hd:Nat)(x:Str)(y w:P):P:=.tup [.tup [.str "step",.int (hd:Int),.str x,y,xl w 0],.tup [.tup h,xl w 1]]
abbrev SL(i:Nat)(st hd step y f r:P)(n k b q h x a e s:Option D):Lc:=[qr i,O st,O hd,O step,O y,O f,O r,n,k,b,q,h,x,a,e,s]
theorem M_{p:List P}{K:List cu}{V:List P}(s:lO (qU p) K V){n:List cu}{f:List P}{z:Int}(c:z.natAbs≤999)(h:∀k,cO k n f=if (.inr "it":cu)=k then some (.int z) else cO k K V):lO (qU p++[.str "it"]) n f:=λx a=>by
 by_cases q:("it":Str)=x
 .exact⟨z,c,by rw[h,af (by rw[q])]⟩
 .rcases cI.mp a with a|a
  .obtain⟨i,b,e⟩:=s x a;exact⟨i,b,by rw[h,ah λw=>q (jE w)];exact e⟩
  .exact absurd (P.str.inj (fU.mp a)).symm q
theorem OQ{B:BD}(j:BP B){n:Nat}{hd:Nat}{I:Str}{A:Nat}{u p H o:List P}(C:Fam B.roads I A u p H o){w:List P}(Z:CellsOk p w){d:List P}(hr:bR B d){N y:P}(ht:kN I B.roads H N)(hy:(N=.non/\y=.non)\/(N≠.non/\LetOk B d hd y)) :
  ∃(K:List cu)(V L:List P),lO (qU p++more N) K V/\bR B L/\∀(b i:Nat)(S:aA)(st step f r:P)(F E t q x a c:Option D),Bd B b i S->∃X,
   b8 (bV (cP eF tt (U (vC (.non))))) (ag (aq 11 (xU (cc (aT Att) cC "places") (v2 (Y gB bZ) b_)))
    (ag (jq i8 (vt "it") (Y (Y (Y jC j1) (Y gB ce)) ce))
    (aq 9 (U (bL (Ph (n+2) "replaced") (v3 jC j1 (bL (Ph (n+2) "without") (v2 (Y jC j1) (Y gB ce))))))))) cN
    (SL i st (.int (hd:Int)) step y f r F E (qt d) (qr S.length) t q x a c) (S++[.dct (cF p) (w.map .p)])=some (.nx,SL i st (.int (hd:Int)) step y f r F E (qt L) (qr S.length) X q x a c,S++[.dct K (V.map .p)]):=by
 have G:=qX Z;rcases hy with ⟨rfl,rfl⟩|⟨W,s,v,k,M,rfl,hg,hk,T,g,hsp⟩
 .exact⟨cF p,w,d,by simpa[more] using G,hr,λb i S st step f r F E t q x a c hB=>⟨t,by simp[eF,fg]⟩⟩
 .have hm:more N=[.str "it"]:=by
   cases N with
   |non=>exact absurd rfl W
   |_=>rfl
  have hls3:=g.1;have Q:M[v]? = some M[v]:=bA hsp;obtain⟨m,z,_,hz,hzl⟩:=g.2 M[v] (eC _);rw[hzl]at Q;have hkl:(cF p).length=w.length:=by rw[Z.1];simp[cF]
  obtain⟨K,V,e,h1,h2,h3,h4,h5⟩:=wB (.inr "it") (.int z) (cF p) w (jO C.hce) hkl;have ew:=Km (n:=n) (xs:=M) (k:=v) (by lia);have hpl:=pu j;have hrl:=hr.1;have er:=sj (n:=n) (xs:=d) (k:=k) hk (by lia) (.tup (M.eraseIdx v));have hcl:=C.cl;have R:(cF p).length≤1000000:=by have:=Z.1;lia
  refine⟨K,V,d.set k (.tup (M.eraseIdx v)),by rw[hm];exact M_ G hz h5,hr.set k ⟨aI (A5 ..) g.1,λl h=>g.2 l (A7 h)⟩,λb i S st step f r F E t q x a c hB=>⟨qi (k:Int),?_⟩⟩;obtain⟨jh,jp,jl,jm,mk,mv,h⟩:=hB.fr (Fr.app b S [.dct (cF p) (w.map .p)]);rw[b8];have hcn:(bV (cP eF tt (U (vC (.non))))) (SL i st (.int (hd:Int)) step (.tup [.int (s:Int),.int (v:Int)]) f r F E (qt d) (qr S.length) t q x a c) (S++[.dct (cF p) (w.map .p)])=some (true,S++[.dct (cF p) (w.map .p)]):=by simp[eF,fg]
  rw[hcn,am,af rfl];refine(ak (e:=SL i st (.int (hd:Int)) step (.tup [.int (s:Int),.int (v:Int)]) f r F E (qt d) (qr S.length) (qi (k:Int)) q x a c) (c:=S++[.dct (cF p) (w.map .p)]) ?_).trans ?_
  .rw [aq,xU,h.places rfl];simp[mS,h.pl,eE,db,hg]
  refine(ak (e:=SL i st (.int (hd:Int)) step (.tup [.int (s:Int),.int (v:Int)]) f r F E (qt d) (qr S.length) (qi (k:Int)) q x a c) (c:=S++[.dct K (V.map .p)]) ?_).trans ?_
  .have e2:w8 i8 (vt "it") (Y (Y (Y jC j1) (Y gB ce)) ce) (SL i st (.int (hd:Int)) step (.tup [.int (s:Int),.int (v:Int)]) f r F E (qt d) (qr S.length) (qi (k:Int)) q x a c) (S++[.dct (cF p) (w.map .p)])=some (.nx,SL i st (.int (hd:Int)) step (.tup [.int (s:Int),.int (v:Int)]) f r F E (qt d) (qr S.length) (qi (k:Int)) q x a c,S++[.dct K (V.map .p)]):=by
    simp[w8,bH T,bH Q,mU,db,jO C.hce,R,e]
   unfold jq;rw[e2]
  .simp [bH T,ew,er]
theorem OP{B:BD}(j:BP B)(k:Places B){n:Nat}{hd:Nat}{I:Str}{A:Nat}{u p H o:List P}(C:Fam B.roads I A u p H o)(a:(aU B.fams)[hd]? = some (d8 I A u p H o)){r:Nat}{cs l:List P}(hr1:r < u.length)(hcs:CellsOk p cs)(hwl:l.length=H.length)(Q:∀w ∈ l,o4 w){N:List P}(hrd:bR B N){x:Str}(hx:az x=true){rm wh tk:P}{chg sn:List P}{rm2:P}(hSt:Stp I u p H B.roads rm wh tk chg sn rm2){y:P}(hy:(tk=.non/\y=.non)\/(tk≠.non/\LetOk B N hd y)){hs:List P}(hS:StL B hs N)(hhx:hs[hd]? = some (.tup [.int (r:Int),.tup cs,.tup l])) :
  ∃E:List P,E.length≤64/\((∀z ∈ E,JF B hd x y z)/\E.Pairwise dNe)/\∀(b i:Nat)(S:aA),Bd B b i S->∃d S',Ph (n+8) "step_ends" [.ref i,.p (.tup [.tup hs,.tup N]),.p (.int (hd:Int)),.p (gE x rm wh tk chg sn rm2),.p y] S=some (d,S')/\Fr b S S'/\oJ S S' d E:=by
 obtain⟨K,V,rds',s,hr',eit⟩:=OQ j (n:=n+5) C hcs hrd hSt.htk hy;obtain⟨ans,hans,ecb⟩:=Ql (n:=n+1) C hcs (x:=x) hSt s;have hy2:(tk=.non/\y=.non)\/(tk≠.non/\Co y):=by
  rcases hy with h|⟨h1,t,sp,_,_,e,_⟩
  .exact .inl h
  .exact .inr ⟨h1,t,sp,e⟩
 obtain⟨ws',hwl',hwi',ewb⟩:=Oo (n:=n+4) C hwl Q hSt.htk hy2;have m:∀x ∈ qU p++more tk,km x:=λx hx=>(cI.mp hx).elim (mV C.hce.1 x) (qW tk x);obtain⟨W,T,hW1,⟨hW2,hWn⟩,esd⟩:=OR j k (n:=n+1) C a hwl' hwi' m s hSt.hsn hSt.sl hr';let step:P:=gE x rm wh tk chg sn rm2
 let R:P:=d8 I A u p H o
 have pre:∀(b i:Nat) (S:aA),Bd B b i S->∃X,∀g:ES,(ag (aq 5 (dU (mT Tb (Ph (n+7))) cC "family_of" (DO gq)))
   (ag (vT (aY [ai 6,ai 7,ai 8]) (Y (Y bI bZ) b_))
   (ag (aq 9 (U (Y bI ce)))
   (ag (aq 10 (eI (Ph (n+7) "values_of") (rV BF yg)))
   (ag (b8 (bV (cP eF tt (U (vC (.non))))) (ag (aq 11 (xU (cc (aT Att) cC "places") (v2 (Y gB bZ) b_)))
    (ag (jq i8 (vt "it") (Y (Y (Y jC j1) (Y gB ce)) ce))
    (aq 9 (U (bL (Ph (n+7) "replaced") (v3 jC j1 (bL (Ph (n+7) "without") (v2 (Y jC j1) (Y gB ce))))))))) cN) g)))))
   [qr i,qt [.tup hs,.tup N],qi (hd:Int),O step,O y,none,none,none,none,none,none,none,none,none,none,none] S=g (SL i (.tup [.tup hs,.tup N]) (.int (hd:Int)) step y R (.int (r:Int)) (qt cs) (qt l) (qt rds') (qr S.length) X none none none none) (S++[.dct K (V.map .p)]):=λb i S hB=>by
  have ef:=wm (n:=n+5) hB a;obtain⟨X,e5⟩:=eit b i S (.tup [.tup hs,.tup N]) step R (.int (r:Int)) (qt cs) (qt l) none none none none none hB;obtain⟨jh,jp,jl,jm,mk,mv,h⟩:=hB;refine⟨X,λg=>?_⟩;refine(ak (e:=[qr i,qt [.tup hs,.tup N],qi (hd:Int),O step,O y,O R,none,none,none,none,none,none,none,none,none,none]) (c:=S) ?_).trans ?_
  .rw [aq,h.meth rfl (Px _) P5 (l:=[.p (.int (hd:Int))]) (by simp),ef];rfl
  rw[ak (by simp[bH hhx];exact⟨rfl,rfl⟩)];rw[ak (by simp;exact⟨rfl,rfl⟩)];refine(ak (e:=SL i (.tup [.tup hs,.tup N]) (.int (hd:Int)) step y R (.int (r:Int)) (qt cs) (qt l) (qt N) (qr S.length) none none none none none) (c:=S++[.dct (cF p) (cs.map .p)]) ?_).trans ?_
  .rw [aq,eI];show a6 (a6 (some ([D.p R,D.p (.tup cs)],S)) _) _=_;rw[am,BG (n:=n+5) C hcs S];rfl
  exact ak e5
 have tv:∀S:aA,toP 9 (.ref S.length) (S++[.dct K (V.map .p)])=some (.dct K V,S++[.fz (.dct K V)]):=λS=>by have:tF (toP 8) (V.map .p) (S++[.dct K (V.map .p)])=some (V,S++[.dct K (V.map .p)]):=l8 ..;simp[toP,this]
 rcases hans with rfl|⟨cs',hcs',rfl⟩
 .refine⟨[],by simp,⟨λ_ h=>(by cases h),.nil⟩,λb i S hB=>⟨.p (.lst []),S++[.fz (.dct K V)],?_,Fr.app _ _ _,.inl rfl⟩⟩;obtain⟨X,ep⟩:=pre b i S hB;rw[mx];show cE (fP _ [qr i,qt [.tup hs,.tup N],qi (hd:Int),O step,O y,none,none,none,none,none,none,none,none,none,none,none] S)=_;unfold fP;rw[ep];simp only[R,step]at ecb ⊢;simp[tv,ecb,tH,fg]
 .obtain⟨v,hj,ej⟩:=sI (xs:=u) (s:=rm2) (λz hz=>(C.hro z hz).ok 19) hSt.h2;have h4:=je j;have hW3:∀w ∈ W,∃as rs,w=.tup [.tup as,.tup rs]:=λw hw=>by
   obtain⟨as,rs,e,_⟩:=hW2 w hw;exact⟨as,rs,e⟩
  have hhd:hd < hs.length:=by rw[hS.hl];exact bx a
  have hsl:=hS.hl;have er:=sj (n:=n+5) (xs:=hs) (k:=hd) hhd (by lia) (.tup [.int (v:Int),.tup cs',.tup ws']);generalize hhs:hs.set hd (.tup [.int (v:Int),.tup cs',.tup ws'])=Z at er;have hp:∀rs,bR B rs->gi B (.tup [.tup Z,.tup rs]):=λrs hr=>⟨_,_,rfl,hhs ▸ hS.put a ⟨I,A,u,p,H,o,rfl,v,cs',ws',rfl,hj,hcs',hwl',hwi'⟩ hr⟩;refine⟨W.map (GL Z hd x y),by simpa using hW1,⟨λz hz=>?_,qG.mpr (hWn.imp_of_mem λ{F b} ha hb hab q=>?_)⟩,λb i S hB=>?_⟩
  .obtain⟨w,hw,rfl⟩:=bN.mp hz;obtain⟨as,rs,rfl,_,hi,hr⟩:=hW2 w hw;exact⟨as,_,rfl,hi,hp rs hr⟩
  .obtain⟨as,rs,rfl,_⟩:=hW2 F ha;obtain⟨as',rs',rfl,_⟩:=hW2 b hb;simp only[GL,P.tup.injEq,iY,kz,true_and]at q;exact hab as as' _ _ rfl rfl (P.tup.inj q)
  have hfm:W.map (GL Z hd x y)=W.flatMap λw=>[GL Z hd x y w]:=by rw[AT,List.map_eq_flatMap,AT]
  rw[hfm];obtain⟨h1,h3⟩:=mZ (i:=GC B) (f:=λw=>[GL Z hd x y w]) (g:=aY [ai 14,ai 15]) (b:=ka (Ph (n+7))) (Sp:=λG S=>Fr G.b G.S0 S) (r:=λG=>G.r) (c:=1) (M:=1000) (s:=W)
   (p:=λG L=>∃X q14 q15,L=SL G.i (.tup [.tup hs,.tup N]) (.int (hd:Int)) step y R (.int (r:Int)) (qt cs') (qt ws') (qt rds') (qr G.S0.length) X (qt Z) (qr G.r) q14 q15) (λw hw=>by obtain⟨as,rs,rfl⟩:=hW3 w hw;refine⟨by simp,λG L S acc hLp fr hS' hM=>?_⟩;obtain⟨X,q14,q15,rfl⟩:=hLp;refine⟨SL G.i (.tup [.tup hs,.tup N]) (.int (hd:Int)) step y R (.int (r:Int)) (qt cs') (qt ws') (qt rds') (qr G.S0.length) X (qt Z) (qr G.r) (qt as) (qt rs),_,_,rfl,jX rfl hS' (y:=.tup [.tup [.str "step",.int (hd:Int),.str x,y,.tup as],.tup [.tup Z,.tup rs]]) ?_ hS' (by lia),⟨_,_,_,rfl⟩,fr.set G.le G.hr _,gc hS'⟩;simp[step])
  obtain⟨X,ep⟩:=pre b i S hB;have frA:=Fr.app b S [.fz (.dct K V),.lst []];have hk0:(S++[SO.fz (.dct K V),.lst []])[S.length]? = some (.fz (.dct K V)):=by simp
  have hk1:(S++[SO.fz (.dct K V),.lst []])[S.length+1]? = some (.lst []):=by simp
  obtain⟨d1,S1,e1,fr1,an1⟩:=esd b i (S++[.fz (.dct K V),.lst []]) S.length (hB.fr frA) hB.le hk0;have hb1:b≤(S++[SO.fz (.dct K V),.lst []]).length:=aI hB.le (by simp);obtain⟨S2,e2,fr2⟩:=mD (b:=b) (g:=Ph (n+7) "sendings") (q:=S_ cC gq (U (Y cD pV)) i8 (bo 9) wN) (L:=SL i (.tup [.tup hs,.tup N]) (.int (hd:Int)) step y R (.int (r:Int)) (qt cs') (qt ws') (qt rds') (qr S.length) X (qt Z) (qr (S.length+1)) none none) (S:=S++[.fz (.dct K V),.lst []]) (l:=[.ref i,.p (.int (hd:Int)),.p (.lst sn),.ref S.length,.p (.tup rds'),.p (.tup ws')]) (by simp[step,OL]) e1 fr1 hb1 an1;obtain⟨L',S',e3,hL',fr3,h5⟩:=h3 ⟨b,i,S,S.length+1,hB,by lia⟩ _ S2 [] ⟨X,none,none,rfl⟩ (frA.trans fr2) (fr2.hi _ _ (aI hB.le (by lia)) hk1) (by simp;lia);obtain⟨q11',q14',q15',rfl⟩:=hL';refine⟨.ref (S.length+1),S',?_,fr3,.inr ⟨S.length+1,by lia,rfl,.inl h5⟩⟩;rw[mx];show cE (fP _ [qr i,qt [.tup hs,.tup N],qi (hd:Int),O step,O y,none,none,none,none,none,none,none,none,none,none,none] S)=_;unfold fP;rw[ep];rw[ak (by simp[tv,R,step,ecb];exact⟨rfl,rfl⟩)];rw[ak (by simp[tH,fg];exact⟨rfl,rfl⟩)];rw[ak (by simp[R,step,w1,ewb];exact⟨rfl,rfl⟩)];rw[ak (by simp[R,step,EW,M9,ej,er];exact⟨rfl,rfl⟩)];rw[ak (by simp;exact⟨rfl,rfl⟩)];rw[ak (by rw[bE,fK,e2];exact e3)];rfl
def okE(z:P):Prop:=∃d e,z=.tup [d,e]/\cm 3 d=true
theorem JF.okE(h:JF B f x y z)(b:az x=true)(c:y=.non\/Co y):okE z:=by
 obtain⟨n,e,rfl,i,s⟩:=h;refine⟨_,_,rfl,?_⟩;have o:cm 2 y=true:=by rcases c with e|⟨_,_,e⟩<;>rw[e]<;>simp
 have m:cm 2 (.tup n)=true:=bw.mpr λa k=>(i a k).ok 1;show(List.all [P.str "step",.int (f:Int),.str x,y,.tup n] (cm 2))=true;simp only[fx,qB,o,m,v0,v9,b,lY];decide +kernel
theorem PU{B:BD}(j:BP B)(k:Places B){n:Nat}(hn:n=1){hd:Nat}{I:Str}{A:Nat}{u p H o:List P}(C:Fam B.roads I A u p H o)(a:(aU B.fams)[hd]? = some (d8 I A u p H o)){r:Nat}{cs l:List P}(hr1:r < u.length)(hcs:CellsOk p cs)(hwl:l.length=H.length)(Q:∀w ∈ l,o4 w){v:List P}(hrd:bR B v){hs:List P}(hS:StL B hs v)(hhx:hs[hd]? = some (.tup [.int (r:Int),.tup cs,.tup l])) :
  ∃E:List P,E.length≤6144/\(∀z ∈ E,okE z)/\∀(b i:Nat)(S:aA),Bd B b i S->∃d S',Ph (n+12) "hand_ends" [.ref i,.p (.tup [.tup hs,.tup v]),.p (.int (hd:Int))] S=some (d,S')/\Fr b S S'/\oJ S S' d E:=by
 have ev:=t8 (n:=n+9) C hcs;have henv:=qX hcs;have hrg:u[r]? = some u[r]:=bA hr1;obtain⟨rn,hrn,hre⟩:=C.hro u[r] (eC _);rw[hre]at hrg;let K:Nat->Nat->Option D->Option D->Lc:=λi r' q9 e=>[qr i,qt [.tup hs,.tup v],qi (hd:Int),O (d8 I A u p H o),qi (r:Int),qt cs,qt l,O (.dct (cF p) cs),qr r',q9,e]
 obtain⟨F,h1,hR,h3⟩:=fh (m:=GC B) (g:=ai 9) (b:=fG (Ph (n+11))) (Sp:=fun G S=>Fr G.b G.S0 S) (r:=fun G=>G.r) (R:=fun _ ys=>∀z ∈ ys,okE z) (c:=768) (M:=10000) (s:=o) (p:=fun G L=>∃q9 e,L=K G.i G.r q9 e) (fun x hx=>by
  obtain⟨Z,N,wh,tk,m,sn,t,hsx,hSt,rfl⟩:=C.hst x hx;obtain⟨N,hrm,rfl⟩:=C.hro N hSt.h1;obtain⟨hb,eh⟩:=Gw (mV C.hce.1) henv hSt.wh (n:=n+2);have X:∀(i r':Nat)(e:Option D)(S:aA),(jd (aK (U (Y jC ce)) (U (Y (Y cD dD) gB))) (bT (U (bL (Ph (n+11) "holds") (v2 (Y jC dD) j0))))) (K i r' (O (gE Z (.str N) wh tk m sn t)) e) S=some (decide (N=rn) && hb,S):=λi r' e S=>by by_cases q:N=rn<;>simp[K,M9,bH hrg,q,eh]
  cases hc:(decide (N=rn) && hb) with
  |false=>refine⟨[],by simp,λ_ h=>(by cases h),λG L S acc W fr T hM=>?_⟩;obtain⟨q9,e,rfl⟩:=W;refine⟨K G.i G.r (O (gE Z (.str N) wh tk m sn t)) e,K G.i G.r (O (gE Z (.str N) wh tk m sn t)) e,S,rfl,?_,⟨_,_,rfl⟩,fr,by simpa using T⟩;unfold fG;rw[b8,X,hc];rfl
  |true=>
   obtain⟨ls,hl1,⟨hl2,_⟩,el⟩:=IA j k (n:=n+7) a hrd hSt.htk;obtain⟨f,k1,kR,k3⟩:=fh (m:=GC B) (g:=ai 10) (b:=kh (Ph (n+11))) (Sp:=λG S=>Fr G.b G.S0 S) (r:=λG=>G.r) (R:=λy zs=>∀z ∈ zs,JF B hd Z y z) (c:=64) (M:=10000) (s:=ls) (p:=λG L=>∃e,L=K G.i G.r (O (gE Z (.str N) wh tk m sn t)) e) (λy hy=>by obtain⟨E,hE,⟨hE2,_⟩,h⟩:=OP j k (n:=n+3) C a hr1 hcs hwl Q hrd hsx hSt (hl2 y hy) hS hhx;refine⟨E,hE,hE2,λG L S acc W fr T hM=>?_⟩;obtain⟨e,rfl⟩:=W;obtain⟨d,S1,e1,fr1,an⟩:=h G.b G.i S (G.bd.fr fr);obtain⟨S2,e2,V⟩:=mD (b:=G.b) (g:=Ph (n+11) "step_ends") (q:=K9 cC gj gq (bo 9) i8) (L:=K G.i G.r (O (gE Z (.str N) wh tk m sn t)) (O y)) (S:=S) (l:=[.ref G.i,.p (.tup [.tup hs,.tup v]),.p (.int (hd:Int)),.p (gE Z (.str N) wh tk m sn t),.p y]) rfl e1 fr1 (aI G.le fr.len) an;have hS2:=V.hi _ _ (aI G.le G.hr) T;exact⟨K G.i G.r (O (gE Z (.str N) wh tk m sn t)) (O y),_,_,rfl,nY rfl T e2 hS2 (by lia),⟨_,rfl⟩,(fr.trans V).set G.le G.hr _,gc hS2⟩)
   refine⟨ls.flatMap f,by lia,λz hz=>?_,λG L S acc W fr T hM=>?_⟩
   .obtain⟨y,hy,hz⟩:=fy.mp hz;refine(kR y hy z hz).okE hsx ?_;rcases hl2 y hy with h|⟨_,s,sp,_,_,h,_⟩
    .exact .inl h.2
    .exact .inr ⟨s,sp,h⟩
   .obtain⟨q9,e,rfl⟩:=W;obtain⟨d,S1,e1,fr1,an⟩:=el G.b G.i S (G.bd.fr fr);obtain⟨S2,e2,V⟩:=mD (b:=G.b) (g:=Ph (n+11) "takeable") (q:=QB cC (U (Y bI ce)) gq (U (Y jC gY))) (L:=K G.i G.r (O (gE Z (.str N) wh tk m sn t)) e) (S:=S) (l:=[.ref G.i,.p (.tup v),.p (.int (hd:Int)),.p tk]) (by simp[K,w1]) e1 fr1 (aI G.le fr.len) an;obtain⟨L',S',e3,⟨q10',rfl⟩,fr3,h5⟩:=k3 G _ S2 acc ⟨e,rfl⟩ (fr.trans V) (V.hi _ _ (aI G.le G.hr) T) (by lia);refine⟨K G.i G.r (O (gE Z (.str N) wh tk m sn t)) e,K G.i G.r (O (gE Z (.str N) wh tk m sn t)) q10',S',rfl,?_,⟨_,_,rfl⟩,fr3,h5⟩;unfold fG;rw[b8,X,hc];show bE _ _ _ _ _=_;rw[bE,fK,e2];exact e3)
 have hsl:=C.sl;refine⟨o.flatMap F,by lia,λz hz=>?_,λb i S hB=>?_⟩
 .obtain⟨s,hs,hz⟩:=fy.mp hz;exact hR s hs z hz
 obtain⟨L',S',e3,⟨q9,e,rfl⟩,fr3,h5⟩:=h3 ⟨b,i,S,S.length,hB,al _⟩ (K i S.length none none) (S++[.lst []]) [] ⟨none,none,rfl⟩ (Fr.app _ _ _) (dR _ _) (by simp;lia);refine⟨.ref S.length,S',?_,fr3,.inr ⟨S.length,al _,rfl,.inl h5⟩⟩;have ef:=wm (n:=n+9) hB a;obtain⟨jh,jp,jl,jm,mk,mv,h⟩:=hB;rw[show Ph (n+12) "hand_ends"=m5 3 11 (iu (Ph (n+11))) by subst hn;exact tS];show cE (iu _ [qr i,qt [.tup hs,.tup v],qi (hd:Int),none,none,none,none,none,none,none,none] S)=_;unfold iu;rw[ak (e:=[qr i,qt [.tup hs,.tup v],qi (hd:Int),O (d8 I A u p H o),none,none,none,none,none,none,none]) (c:=S) (by rw[aq,h.meth rfl (Px _) P5 (l:=[.p (.int (hd:Int))]) (by simp),ef];rfl)];rw[ak (by simp[bH hhx];exact⟨rfl,rfl⟩)];rw[ak (by simp[ev];exact⟨rfl,rfl⟩)];rw[ak (by simp[K];exact⟨rfl,rfl⟩)];rw[ak (by rw[bE,fK,show(Y cD pV) (K i S.length none none) (S++[.lst []])=some (.lst o,S++[.lst []]) by simp[K,QS]];exact e3)];rfl
end My
namespace My
open PySem L2 Ev
theorem Ip{k:Str}{x:List P}{i:Nat}(h:i ∈ BL k x):i < x.length:=i6.mp (gA.mp h).1
theorem Iq{k:Str}{x:List P}:(BL k x).length≤x.length:=aI (ig ..) (by simp)
theorem KR{B:BD}(hP:BP B){n:Nat}(hn:n=8){w:Str}(hw:w="lose"\/w="double"){hs u:List P}(hS:StL B hs u) :
  ∃E:List P,E.length≤6144/\(∀z ∈ E,okE z)/\∀(b i:Nat)(S:aA),Bd B b i S->∃d N,Ph (n+5) "flaw_ends" [.ref i,.p (.tup [.tup hs,.tup u]),.p (.str w)] S=some (d,N)/\Fr b S N/\oJ S N d E:=by
 have how:az w=true:=by rcases hw with rfl|rfl<;>simp
 have hpl:=pu hP;have hrl:=hS.hr.1;let m:Nat->Nat->Option D->Option D->Option D->Option D->Option D->Option D->Option D->Option D->Lc:=λi r' W X K A C I s e=>[qr i,qt [.tup hs,.tup u],qs w,qr r',W,X,K,A,C,I,s,e]
 obtain⟨F,h1,hR,h3⟩:=fh (m:=GC B) (R:=fun _ ys=>∀z ∈ ys,okE z) (g:=aY [ai 4,ai 5]) (b:=fH (Ph (n+4))) (Sp:=fun G S=>Fr G.b G.S0 S) (r:=fun G=>G.r) (c:=3) (M:=10000) (s:=bM 0 B.PR) (p:=fun G L=>∃W X K A C I s e,L=m G.i G.r W X K A C I s e) (fun x hx=>by
  obtain⟨k,hk,hxe⟩:=lX.mp hx;obtain⟨p,hp,rfl⟩:=gK (s:=B.PR) (i:=k) (v:=x) (by rw[bA hk,hxe]);obtain⟨road,hro,a,c,rfl⟩:=tf (bq hp);obtain⟨hkl,l,V,hkr⟩:=hS.hr.at hp;have o:=hP.hr road hro;obtain⟨kd,hkd⟩:∃kd:Str,sW road (.int 2)=some (.str kd):=by obtain⟨ra,rb,kd,c,d1,d2,_,_,_,_,_,rfl⟩:=o;exact⟨kd,by simp⟩
  obtain⟨hfb,ef⟩:=PQ (n:=n+2) hw o l;have eu:=Kn (n:=n+2) kd V;have hul:=Iq (k:=kd) (x:=l);generalize JK w road l=fb at hfb ef;have hls3:=V.1;have pre:∀(i r':Nat)(K A C I s e:Option D)(S:aA)(g:ES),ag (vT (aY [ai 6,ai 7,ai 8]) iy) (ag (aq 9 (U (Y (Y bI ce) gB))) g) (m i r' (qi (k:Int)) (O (pr road a c)) K A C I s e) S=g (m i r' (qi (k:Int)) (O (pr road a c)) (O road) (qi (a:Int)) (qi (c:Int)) (qt l) s e) S:=λi r' K A C I s e S g=>by
   rw [ak (by simp [m,pr];exact⟨rfl,rfl⟩),
    ak (by simp[m,bH hkr];exact⟨rfl,rfl⟩)]
   rfl
  cases fb with
  |false=>refine⟨[],by simp,λ_ h=>(by cases h),λG L S Q j Z t hM=>?_⟩;obtain⟨W,X,K,A,C,I,s,e,rfl⟩:=j;refine⟨m G.i G.r (qi (k:Int)) (O (pr road a c)) K A C I s e,m G.i G.r (qi (k:Int)) (O (pr road a c)) (O road) (qi (a:Int)) (qi (c:Int)) (qt l) s e,S,rfl,?_,⟨_,_,_,_,_,_,_,_,rfl⟩,Z,by simpa using t⟩;unfold fH;rw[pre];simp[m,ef]
  |true=>
   obtain⟨f,k1,kR,k3⟩:=fh (m:=GC B) (R:=λ_ zs=>∀z ∈ zs,okE z) (g:=ai 10) (b:=hY (Ph (n+4))) (Sp:=λG S=>Fr G.b G.S0 S) (r:=λG=>G.r) (c:=1) (M:=10000) (s:=bJ (BL kd l)) (p:=λG L=>∃s e,L=m G.i G.r (qi (k:Int)) (O (pr road a c)) (O road) (qi (a:Int)) (qi (c:Int)) (qt l) s e) (λy hy=>by obtain⟨sp,hsp',rfl⟩:=bN.mp hy;have hsp:=Ip hsp';obtain⟨H,ez⟩:=P8 (n:=n+1) hw V (λq=>hfb q rfl) hsp;have er:=sj (n:=n+2) (xs:=u) (k:=k) hkl (by lia) (.tup (P7 w l sp));generalize P7 w l sp=zs at H ez er;refine⟨[.tup [.tup [.str w,.int (a:Int),.int (c:Int),.int (sp:Int)],.tup [.tup hs,.tup (u.set k (.tup zs))]]],by simp,λz H=>⟨_,_,fU.mp H,by simp[how]⟩,λG L S Q j Z t hM=>?_⟩;obtain⟨s,e,rfl⟩:=j;refine⟨m G.i G.r (qi (k:Int)) (O (pr road a c)) (O road) (qi (a:Int)) (qi (c:Int)) (qt l) (qi (sp:Int)) e,m G.i G.r (qi (k:Int)) (O (pr road a c)) (O road) (qi (a:Int)) (qi (c:Int)) (qt l) (qi (sp:Int)) (qt (u.set k (.tup zs))),_,rfl,?_,⟨_,_,rfl⟩,Z.set G.le G.hr _,gc t⟩;unfold hY;refine(ak (by simp[m,ez,er])).trans (jX rfl t ?_ t (by lia));simp[m])
   have hnl:(bJ (BL kd l)).length=(BL kd l).length:=by simp[bJ]
   rw[hnl]at k1 k3;refine⟨_,aI k1 (by lia),λz H=>?_,λG L S Q j Z t hM=>?_⟩
   .obtain⟨y,hy,H⟩:=fy.mp H;exact kR y hy z H
   obtain⟨W,X,K,A,C,I,s,e,rfl⟩:=j;obtain⟨L',N,e3,⟨q10',q11',rfl⟩,T,h5⟩:=k3 G _ S Q ⟨s,e,rfl⟩ Z t (by lia);refine⟨m G.i G.r (qi (k:Int)) (O (pr road a c)) K A C I s e,m G.i G.r (qi (k:Int)) (O (pr road a c)) (O road) (qi (a:Int)) (qi (c:Int)) (qt l) q10' q11',N,rfl,?_,⟨_,_,_,_,_,_,_,_,rfl⟩,T,h5⟩;unfold fH;rw[pre];simp only[m]at e3;simp[m,ef,hkd,eu,e3])
 rw[dS]at h1 h3;refine⟨(bM 0 B.PR).flatMap F,by lia,λz H=>?_,λb i S hB=>?_⟩
 .obtain⟨v,hv,H⟩:=fy.mp H;exact hR v hv z H
 have frA:=Fr.app b S [.lst []];obtain⟨jh,jp,jl,jm,mk,mv,h⟩:=hB.fr frA;have frB:=frA.trans (Fr.frz h.bp h.pr);have hb:=hB.le;have hjp:=h.bp;obtain⟨L',N,e3,⟨W,X,K,A,C,I,s,e,rfl⟩,T,h5⟩:=h3 ⟨b,i,S,S.length,hB,al _⟩ (m i S.length none none none none none none none none) ((S++[SO.lst []]).set jp (.fz (.lst B.PR))) [] ⟨none,none,none,none,none,none,none,none,rfl⟩ frB (by rw[aO (by lia)];exact dR _ _) (by simp;lia);refine⟨.ref S.length,N,?_,T,.inr ⟨S.length,al _,rfl,.inl h5⟩⟩;rw[show Ph (n+5) "flaw_ends"=m5 3 12 (iw (Ph (n+4))) by subst hn;exact tT];show cE (iw _ [qr i,qt [.tup hs,.tup u],qs w,none,none,none,none,none,none,none,none,none] S)=_;unfold iw;rw[ak (by simp[m];exact⟨rfl,rfl⟩)];rw[ak (by rw[bE,q_,vE,h.pairs rfl,am,h.pr.frz];exact e3)];rfl
variable{B:BD}
theorem StL.at(S:StL B h r)(hk:k < (aU B.fams).length):∃f x,(aU B.fams)[k]? = some f/\h[k]? = some x/\HandOk f x:=by have a:=bA hk;have e:h[k]? = some (h[k]'(by rw[S.hl];exact hk)):=bA _;exact⟨_,_,a,e,S.hh k _ _ a e⟩
theorem ID:∀n:Nat,Ph (n+13) "hand_ends"=Ph 13 "hand_ends"/\Ph (n+13) "flaw_ends"=Ph 13 "flaw_ends"
 |0=>⟨rfl,rfl⟩
 |n+1=>by have h:kB 13 (n+13)=true:=AL (by lia);obtain⟨x,a⟩:=ID n;rw[<- x,<- a];exact⟨oU (n:=n+13) (by unfold stays;rw[h];generalize kB 14 (n+13)=c;revert c;decide +kernel),oU (n:=n+13) (by unfold stays;rw[h];generalize kB 14 (n+13)=c;revert c;decide +kernel)⟩
def HE(B:BD)(st:P)(v:P)(y:List P):Prop:=∀(b i:Nat)(S:aA),Bd B b i S->∃d h,Ph 13 "hand_ends" [.ref i,.p st,.p v] S=some (d,h)/\Fr b S h/\oJ S h d y
theorem xW:∀{c:List P},(∀v ∈ c,HE B st v (f v))->∀(k:Option D)(S:aA),Bd B b i S ->
  ∃q a,Fr b S a/\bc (ai 2) (fQ (Ph (n+13))) c [qr i,O st,k] S=some (if (c.flatMap f).isEmpty=true then .nx else .rt (.p (.bl false)),[qr i,O st,q],a)
 | [],_,k,S,_=>⟨k,S,Fr.refl _ _,rfl⟩
 |v::c,h,k,S,p=>by
  obtain⟨d,o,u,m,j⟩:=h v aF b i S p;rw[<- (ID n).1]at u;obtain⟨w,e,r⟩:=mD (b:=b) (g:=Ph (n+13) "hand_ends") (q:=yI cC gj gq) (L:=[qr i,O st,O v]) (S:=S) (l:=[.ref i,.p st,.p v]) rfl u m p.le j;cases s:f v with
  |nil=>obtain⟨q,a,t,l⟩:=xW (f:=f) (n:=n) (λx z=>h x (aH _ z)) (O v) w (p.fr r);refine⟨q,a,r.trans t,?_⟩;rw[ie,s,eB];refine(bj (h:=[qr i,O st,O v]) rfl ?_).trans l;unfold fQ;rw[s]at e;rw[b8,bT,U,e];rfl
  |cons y H=>refine⟨O v,w,r,?_⟩;rw[ie,s];refine(sN (h:=[qr i,O st,O v]) rfl ?_).trans rfl;unfold fQ;rw[s]at e;rw[b8,bT,U,e];rfl
theorem M'(hP:BP B)(hL:Places B)(hS:StL B q s) :
  ∃t:Bool,(∃E:List P,E.length≤40000/\(∀z ∈ E,okE z)/\E.isEmpty=t/\∀(b i:Nat)(S:aA),Bd B b i S->∃d I,Ph 14 "ends_on" [.ref i,.p (.tup [.tup q,.tup s])] S=some (d,I)/\Fr b S I/\oJ S I d E) /\
   ∀(n b i:Nat)(S:aA),Bd B b i S->∃I,Ph (n+14) "is_dry" [.ref i,.p (.tup [.tup q,.tup s])] S=some (.p (.bl t),I)/\Fr b S I:=by
 have h4:=je hP;have hhl:=o6 (f:=B.fams);obtain⟨la,la1,la3,ela⟩:=KR hP (n:=8) rfl (.inl rfl) hS;obtain⟨da,da1,da3,eda⟩:=KR hP (n:=8) rfl (.inr rfl) hS;let H:Nat->Nat->Option D->Lc:=λi r' C=>[qr i,qt [.tup q,.tup s],qr r',C]
 obtain⟨f,h1,hR,h3⟩:=fh (m:=GC B) (g:=ai 3) (b:=lM (Ph 13)) (Sp:=fun G S=>Fr G.b G.S0 S) (r:=fun G=>G.r) (R:=fun v o=>(∀z ∈ o,okE z)/\HE B (.tup [.tup q,.tup s]) v o) (c:=6144) (M:=100000) (s:=intsFrom 0 (homes B.fams).length) (p:=fun G L=>∃C,L=H G.i G.r C) (fun x hx=>by
  obtain⟨k,rfl,hk⟩:=iD hx;simp only[cG];obtain⟨f,x,g1,g2,_,_,_,_,_,_,hfe,r,cs,ws,rfl,hr1,hcs,hwl,hwi⟩:=hS.at (k:=k) (by lia);obtain⟨nm,crew,Z,V,whos,steps,hF,rfl⟩:=j8 hP.hf (bq g1);obtain⟨rfl,hce,rfl,rfl,rfl,rfl⟩:nm=_/\crew=_/\Z=_/\V=_/\whos=_/\steps=_:=by simp only[P.tup.injEq,iY,P.str.injEq,P.int.injEq,P.lst.injEq,kz]at hfe;obtain⟨a,b,c,d,e,f⟩:=hfe;exact⟨a,Int.ofNat.inj b,c,d,e,f⟩
  obtain⟨E,m1,m2,m3⟩:=PU hP hL (n:=1) rfl hF g1 hr1 hcs hwl hwi hS.hr hS g2;refine⟨E,m1,⟨m2,m3⟩,λG L S acc hLp fr hS' hM=>?_⟩;obtain⟨C,rfl⟩:=hLp;obtain⟨d,F,e1,m,an⟩:=m3 G.b G.i S (G.bd.fr fr);obtain⟨N,e2,u⟩:=mD (b:=G.b) (g:=Ph 13 "hand_ends") (q:=yI cC gj nL) (L:=H G.i G.r (qi (k:Int))) (S:=S) (l:=[.ref G.i,.p (.tup [.tup q,.tup s]),.p (.int (k:Int))]) rfl e1 m (aI G.le fr.len) an;have hS2:=u.hi _ _ (aI G.le G.hr) hS';exact⟨H G.i G.r (qi (k:Int)),_,_,rfl,nY rfl hS' e2 hS2 (by lia),⟨_,rfl⟩,(fr.trans u).set G.le G.hr _,gc hS2⟩)
 rw[cA]at h1 h3;refine⟨((intsFrom 0 (homes B.fams).length).flatMap f++la++da).isEmpty,⟨_,?_,λz l=>?_,rfl,λb i S j=>?_⟩,λn b i S j=>?_⟩
 .rw [bz,bz];lia
 .rcases cI.mp l with l|l
  .rcases cI.mp l with l|l
   .obtain⟨v,hv,l⟩:=fy.mp l;exact(hR v hv).1 z l
   .exact la3 z l
  .exact da3 z l
 .generalize (intsFrom 0 (homes B.fams).length).flatMap f=o at h1 h3;have frA:=Fr.app b S [.lst []];have K:=j.le;obtain⟨L',F,e1,⟨C,rfl⟩,m,hl1⟩:=h3 ⟨b,i,S,S.length,j,al _⟩ (H i S.length none) (S++[.lst []]) [] ⟨none,rfl⟩ frA (dR _ _) (by simp;lia);obtain⟨d2,T2,f2,u,Q⟩:=ela b i F (j.fr m);obtain⟨N,e2,p⟩:=mD (b:=b) (g:=Ph 13 "flaw_ends") (q:=yI cC gj (U (vt "lose"))) (L:=H i S.length C) (S:=F) (l:=[.ref i,.p (.tup [.tup q,.tup s]),.p (.str "lose")]) rfl f2 u (aI K m.len) Q;have hl2:=p.hi _ _ K hl1;have X:Fr b S (N.set S.length (.lst (([]++o++la).map .p))):=(m.trans p).set K (al _) _;have A:=gc (x:=.lst (([]++o++la).map .p)) hl2;obtain⟨d3,T3,f3,W,T⟩:=eda b i _ (j.fr X);obtain⟨S3,e3,w⟩:=mD (b:=b) (g:=Ph 13 "flaw_ends") (q:=yI cC gj (U (vt "double"))) (L:=H i S.length C) (l:=[.ref i,.p (.tup [.tup q,.tup s]),.p (.str "double")]) rfl f3 W (aI K X.len) T;have hl3:=w.hi _ _ K A;refine⟨.ref S.length,S3.set S.length (.lst (([]++o++la++da).map .p)),?_,(X.trans w).set K (al _) _,.inr ⟨S.length,al _,rfl,.inl (by rw[gc hl3];simp)⟩⟩;obtain⟨jh,jp,jl,jm,mk,mv,h⟩:=j.fr frA;have hq:(homes B.fams).length < 1000000:=by lia
  rw[xT];show cE (lN _ [qr i,qt [.tup q,.tup s],none,none] S)=_;unfold lN;rw[ak (by simp[H];exact⟨rfl,rfl⟩)];rw[ak (e:=H i S.length C) (c:=F) (by rw[bE,show iI (dq (cc (aT Att) cC "homes")) (H i S.length none) (S++[.lst []])=some (intsFrom 0 (homes B.fams).length,S++[.lst []]) by rw[wg,vH,h.homes rfl];simp[h.ho.len,hq]];exact e1)]
  rw[ak (nY rfl hl1 e2 hl2 (by simp;lia))];rw[ak (nY rfl A e3 hl3 (by simp;lia))];rfl
 .obtain⟨q2,F,m,e1⟩:=xW (f:=f) (n:=n) (b:=b) (i:=i) (λv hv=>(hR v hv).2) none S j;have hq:(homes B.fams).length < 1000000:=by lia
  have K:=j.le;obtain⟨jh,jp,jl,jm,mk,mv,h⟩:=id j;generalize (intsFrom 0 (homes B.fams).length).flatMap f=o at e1;rw[zq];show ∃I,cE (ni _ [qr i,qt [.tup q,.tup s],none] S)=_/\_;have e0:bE (iI (dq (cc (aT Att) cC "homes"))) (ai 2) (fQ (Ph (n+13))) [qr i,qt [.tup q,.tup s],none] S=some (if o.isEmpty=true then .nx else .rt (.p (.bl false)),[qr i,qt [.tup q,.tup s],q2],F):=by rw[bE,show iI (dq (cc (aT Att) cC "homes")) [qr i,qt [.tup q,.tup s],none] S=some (intsFrom 0 (homes B.fams).length,S) by rw[wg,vH,h.homes rfl];simp[h.ho.len,hq]];exact e1
  unfold ni;cases o with
  |cons y o=>exact⟨F,by rw[vS e0];rfl,m⟩
  |nil=>
   rw[ak e0];obtain⟨d2,T2,f2,u,Q⟩:=ela b i F (j.fr m);rw[<- (ID n).2]at f2;obtain⟨N,e2,p⟩:=mD (b:=b) (g:=Ph (n+13) "flaw_ends") (q:=yI cC gj (U (vt "lose"))) (L:=[qr i,qt [.tup q,.tup s],q2]) (S:=F) (l:=[.ref i,.p (.tup [.tup q,.tup s]),.p (.str "lose")]) rfl f2 u (aI K m.len) Q;cases la with
   |cons y la=>exact⟨N,by rw[au,U,CV,e2];rfl,m.trans p⟩
   |nil=>obtain⟨d3,T3,f3,W,T⟩:=eda b i N (j.fr (m.trans p));rw[<- (ID n).2]at f3;obtain⟨S3,e3,w⟩:=mD (b:=b) (g:=Ph (n+13) "flaw_ends") (q:=yI cC gj (U (vt "double"))) (L:=[qr i,qt [.tup q,.tup s],q2]) (S:=N) (l:=[.ref i,.p (.tup [.tup q,.tup s]),.p (.str "double")]) rfl f3 W (aI K (m.trans p).len) T;exact⟨S3,by rw[au,U,CV,e2];show cE (a6 (a6 (a6 (cv (Ph (n+13) "flaw_ends") _ _ N) _) _) _)=_;rw[e3];cases da<;>rfl,(m.trans p).trans w⟩
end My
namespace My
open PySem L2 Ev
theorem ma[DecidableEq r](x:r)(y:D):∀(s:List r)(a:List D),s.Nodup->s.length=a.length->(d7 x y s a).1.Nodup/\(d7 x y s a).1.length=(d7 x y s a).2.length/\(d7 x y s a).1.length≤s.length+1/\(∀k ∈ (d7 x y s a).1,k=x\/k ∈ s)/\∀k,cZ k (d7 x y s a).1 (d7 x y s a).2=if x=k then some y else cZ k s a
 | [],[],_,_=>⟨by simp[d7],rfl,by simp[d7],λk h=>.inl (by simpa[d7] using h),λk=>by by_cases q:x=k<;>simp[d7,cZ,q]⟩
 | [],_::_,_,h=>by simp at h
 |_::_,[],_,h=>by simp at h
 |n::s,v::a,b,l=>by
  obtain⟨hk,b⟩:=ci.mp b;by_cases q:n=x
  .have e:d7 x y (n::s) (v::a)=(n::s,y::a):=by simp[d7,q]
   rw[e];refine⟨ci.mpr ⟨hk,b⟩,by simpa using l,by simp,λk h=>.inr h,λk=>?_⟩;subst q;by_cases f:n=k<;>simp[cZ,f]
  .obtain⟨t,p,w,c,d⟩:=ma x y s a b (by simpa using l);have e:d7 x y (n::s) (v::a)=(n::(d7 x y s a).1,v::(d7 x y s a).2):=by simp[d7,q]
   rw[e];refine⟨ci.mpr ⟨λz=>?_,t⟩,by simp[p],by simp;lia,λk h=>?_,λk=>?_⟩
   .rcases c n z with z|z
    .exact q z
    .exact hk z
   .rcases aQ.mp h with rfl|h
    .exact .inr aF
    .rcases c k h with h|h
     .exact .inl h
     .exact .inr (aH _ h)
   .show (if n=k then some v else cZ k (d7 x y s a).1 (d7 x y s a).2)=_;by_cases f:n=k
    .subst f;have:¬x=n:=λz=>q z.symm
     simp[cZ,this]
    .rw [ah f,d];by_cases m:x=k
     .simp [m]
     .simp [m,cZ,f]
def pZ(p:P):List cu:=[.inl (iv (xl p 1)),.inl (iv (xl p 2))]
noncomputable abbrev KV:=List (List cu)×List D
def putAll:Nat->List P->KV->KV
 |_,[],s=>s
 |k,p::r,s=>putAll (k+1) r (d7 (pZ p) (.p (.int (k:Int))) s.1 s.2)
structure KVok(s:KV):Prop where
 nd:s.1.Nodup
 ln:s.1.length=s.2.length
theorem KVok.put(h:KVok s)(k:List cu)(y:D):KVok (d7 k y s.1 s.2):=by obtain⟨x,a,_⟩:=ma k y s.1 s.2 h.nd h.ln;exact⟨x,a⟩
theorem Kz:∀(x:List P)(k:Nat)(s:KV),KVok s->∀y d,cZ y (putAll k x s).1 (putAll k x s).2=some d->cZ y s.1 s.2=some d\/∃(j:Nat)(p:P),x[j]? = some p/\d=.p (.int ((k+j:Nat):Int))
 | [],k,s,h,y,d,e=>.inl e
 |p::r,k,s,h,y,d,e=>by
  rcases Kz r (k+1) _ (h.put (pZ p) (.p (.int (k:Int)))) y d e with e|⟨j,f,a,n⟩
  .rw [(ma (pZ p) (.p (.int (k:Int))) s.1 s.2 h.nd h.ln).2.2.2.2]at e;split at e
   .cases e;exact .inr ⟨0,p,rfl,rfl⟩
   .exact .inl e
  .exact .inr ⟨j+1,f,by simpa using a,by rw[n,show k+1+j=k+(j+1) by lia]⟩
theorem FA:∀(x:List P)(k:Nat)(s:KV),KVok s->∀y,((∃d,cZ y s.1 s.2=some d)\/∃p ∈ x,pZ p=y)->∃d,cZ y (putAll k x s).1 (putAll k x s).2=some d
 | [],k,s,h,y,q=>by
  rcases q with q|⟨_,z,_⟩
  .exact q
  .cases z
 |p::r,k,s,h,y,q=>by
  refine FA r (k+1) _ (h.put (pZ p) (.p (.int (k:Int)))) y ?_;have e:=(ma (pZ p) (.p (.int (k:Int))) s.1 s.2 h.nd h.ln).2.2.2.2 y;by_cases w:pZ p=y
  .exact .inl ⟨_,by rw[e,af w]⟩
  .rcases q with ⟨d,q⟩|⟨a,z,q⟩
   .exact .inl ⟨d,by rw[e,ah w];exact q⟩
   .rcases aQ.mp z with rfl|z
    .exact absurd q w
    .exact .inr ⟨a,z,q⟩
def y4(m r w:List P):BD:=⟨m,r,w,(putAll 0 (bQ (aL m) r) ([],[])).1,(putAll 0 (bQ (aL m) r) ([],[])).2⟩
theorem Ss:KVok ([],[]):=⟨by simp,rfl⟩
theorem Dj(m o w:List P):Places (y4 m o w) where
 get:=λr a b h=>FA _ 0 _ Ss _ (.inr ⟨_,h,rfl⟩)
 ok:=λx y d h=>by
  rcases Kz _ 0 _ Ss _ d h with e|⟨j,p,s,n⟩
  .cases e
  .obtain⟨r,k,a,b,rfl⟩:=tf (B:=y4 m o w) (bq s);exact⟨j,r,a,b,k,by rw[n,d_],s⟩
theorem K0{K:Str->GF}(l:P)(a b c:D){i j:Nat}(m:i≠j):∀(t:List P)(k:Nat)(s:KV),KVok s->s.1.length+t.length≤900000->(∀p ∈ t,∃r x y,p=.tup [r,.int x,.int y])->∀(w u:Option D)(S:aA),S[i]? = some (.ins "Board" ["families","homes","pairs","places"] [a,b,c,.ref j])->S[j]? = some (.dtt s.1 s.2)->∃n f,
  bc (aY [ai 2,ai 3]) (gU K) (bM (k:Int) t) [qr i,O l,w,u,none] S=some (.nx,[qr i,O l,n,f,none],S.set j (.dtt (putAll k t s).1 (putAll k t s).2))
 | [],k,s,_,_,_,w,u,S,_,v=>⟨w,u,by show some (Fl.nx,_,S)=some (.nx,_,S.set j (.dtt s.1 s.2));obtain⟨h,e⟩:=bO.mp v;rw[<- e,ij]⟩
 |p::r,k,s,h,A,F,w,u,S,H,v=>by
  simp only[aR]at A;obtain⟨d,x,y,rfl⟩:=F p aF;have B:=(ma (pZ (.tup [d,.int x,.int y])) (.p (.int (k:Int))) s.1 s.2 h.nd h.ln).2.2.1;obtain⟨n,f,e⟩:=K0 (K:=K) l a b c m r (k+1) _ (h.put (pZ (.tup [d,.int x,.int y])) (.p (.int (k:Int)))) (by lia) (λp o=>F p (aH _ o)) (qi (k:Int)) (qt [d,.int x,.int y]) (S.set j (.dtt (d7 (pZ (.tup [d,.int x,.int y])) (.p (.int (k:Int))) s.1 s.2).1 (d7 (pZ (.tup [d,.int x,.int y])) (.p (.int (k:Int))) s.1 s.2).2)) (by rw[aO (λq=>m q.symm)];exact H) (cj (bx v));refine⟨n,f,?_⟩;unfold bM putAll;rw[jj,cR]at e;refine(bj (h:=[qr i,O l,qi (k:Int),qt [d,.int x,.int y],none]) rfl ?_).trans e;have z:=h.nd;have g:s.1.length≤1000000:=by lia
  simp[gU,ml,gZ,mS,eE,db,z,g,pZ,H,v]
theorem Ct:∀{s:List cu}{h:List D},cZ k s h=cO k s h
 | [],_=>by cases ‹List D›<;>rfl
 |_::_,[]=>rfl
 |x::s,v::h=>by
  show(if x=k then some v else cZ k s h)=if x=k then some v else cO k s h
  rw[Ct]
theorem JQ{n c:Nat}{m:List P}{S:aA}{d x a:D}(h:S[c]? = some (.ins "Board" fields [.p (.lst m),.ref (c+1),d,x,a]))(t:S[c+1]? = some (.lst ((homes m).map .p))){k:Nat}{f:P}(q:(aU m)[k]? = some f):Ph (n+2) "Board.family_of" [.ref c,.p (.int (k:Int))] S=some (.p f,S):=by
 obtain⟨p,e,s⟩:=o7 q;have b:oK (cc (aT Att) (bo 0) "homes") (vv 1) [qr c,qi (k:Int)] S=some (.p (.int (p:Int)),S):=kj.ix (j:=c+1) (.inl t) (by simp[h,ml,Jw]) rfl (bH e);have r:cc (aT Att) (bo 0) "families" [qr c,qi (k:Int)] S=some (.p (.lst m),S):=by simp[h,ml,Jw]
 rw[iV];show cE (au _ [qr c,qi (k:Int)] S)=_;rw[au,oK,r,am,vE,b];simp[bH s]
noncomputable def jU(N:LS)(t:Nat)(s:Str):List Nat:=(List.range t).filter λi=>decide (N[i]? = some s)
theorem kT(N:LS)(t:Nat)(s:Str):jU N (t+1) s=if N[t]? = some s then jU N t s++[t] else jU N t s:=by
 unfold jU;rw[List.range_succ,List.filter_append];by_cases h:N[t]? = some s
 .rw [af h,vq (by simpa using h)];rfl
 .rw [ah h,vp (by simpa using h)];simp
theorem zB(a:t≤N.length)(h:s ∉ N.take t):jU N t s=[]:=by
 unfold jU;refine A2.mpr λi x q=>h ?_
 have x:i < t:=i6.mp x;have e:=aM q;rw[<- ik x]at e;exact bq e
theorem xj(T X:aA)(k:Nat):(T++X)[T.length+k]? = X[k]?:=by rw[cy (ny _ _),AM]
theorem xk(T X:aA)(x:SO):(T++x::X)[T.length]? = some x:=xj T (x::X) 0
theorem MD(T X:aA)(k:Nat)(o:SO):(T++X).set (T.length+k) o=T++X.set k o:=by rw[List.set_append_right _ _ (ny _ _),AM]
theorem B7(T X:aA)(x o:SO):(T++x::X).set T.length o=T++o::X:=MD T (x::X) 0 o
structure MI(T:aA)(fams:List P)(o2 o3:SO)(t:Nat)(mk:List cu)(mv:List D)(S:aA):Prop where
 h0:S[T.length]? = some (.ins "Board" fields [.p (.lst fams),.ref (T.length+1),.ref (T.length+2),.ref (T.length+3),.ref (T.length+4)])
 h1:S[T.length+1]? = some (.lst ((homes fams).map .p))
 h2:S[T.length+2]? = some o2
 h3:S[T.length+3]? = some o3
 h4:S[T.length+4]? = some (.dct mk mv)
 nd:mk.Nodup
 ln:mk.length=mv.length
 le:mk.length≤t
 yes:∀s ∈ (aL fams).take t,∃j,cZ (.inr s) mk mv=qr j/\T.length+5≤j/\S[j]? = some (.lst ((bJ (jU (aL fams) t s)).map .p))
 no:∀s,s ∉ (aL fams).take t->cZ (.inr s) mk mv=none
 lo:∀k,k < T.length->S[k]? = T[k]?
 inj:∀s s' j,cZ (.inr s) mk mv=qr j->cZ (.inr s') mk mv=qr j->s=s'
abbrev ML(T:aA)(p:P)(q h x:Option D):Lc:=[qr T.length,O p,q,h,x]
set_option tactic.hygienic true in
theorem Jt{T:aA}{m:List P}{o2 o3:SO}{t:Nat}{mk:List cu}{v:List D}{S:aA}(h:MI T m o2 o3 t mk v S){n:Nat}(ht:t≤100){p:List P}(M:∀f ∈ m,isFam p f){f:P}(L:(aU m)[t]? = some f)(l:P)(d u:Option D) :
  ∃W X S',MI T m o2 o3 (t+1) W X S'/\cV (Ph (n+2)) (ML T l d u (qi (t:Int))) S=some (.nx,(ML T l d u (qi (t:Int))),S'):=by
 have N:(aL m)[t]? = some (bu f):=by unfold aL;rw[dJ,L];rfl
 have htl:t < (aL m).length:=bx N;have ef:=JQ (n:=n) h.h0 h.h1 L;have em:dU (mT Tb (Ph (n+2))) (bo 0) "family_of" (bY (bo 4) jT) (ML T l d u (qi (t:Int))) S=some (.p f,S):=by rw[dU];show a6 (some (D.ref T.length,S)) _=_;rw[am];simp only[h.h0,Px,P5];exact ef
 have ek:(qQ sW (vE (dU (mT Tb (Ph (n+2))) (bo 0) "family_of" (bY (bo 4) jT))) (vi 0)) (ML T l d u (qi (t:Int))) S=some (.str (bu f),S):=by obtain⟨nm,c,rooms,I,whos,steps,_,rfl⟩:=j8 M (bq L);rw[qQ,vE,em];simp[bu]
 have eo:cc (aT Att) (bo 0) "members" (ML T l d u (qi (t:Int))) S=some (.ref (T.length+4),S):=by simp[h.h0,ml,Jw]
 have l5:T.length+4 < S.length:=bx h.h4;have E:(aL m).take (t+1)=(aL m).take t++[bu f]:=by rw[List.take_add_one,N];rfl
 have r:∀k,k < S.length->(S++[SO.lst []])[k]? = S[k]?:=λk hk=>bF hk;have g:mU (.ref (T.length+4)) S=some (T.length+4,mk,v):=by simp[mU,h.h4]
 have o:mU (.ref (T.length+4)) (S++[.lst []])=some (T.length+4,mk,v):=by simp[mU,r (T.length+4) l5,h.h4]
 have B:(mk.Nodup/\few mk=true):=⟨h.nd,by rw[j5];have:=h.le;lia⟩;by_cases V:bu f ∈ (aL m).take t
 .obtain⟨j,K,hj,e2⟩:=h.yes _ V;have Q:j < S.length:=bx e2;have A:(S++[SO.lst []])[j]? = some (.lst ((bJ (jU (aL m) t (bu f))).map .p)):=by rw[r j Q];exact e2
  have C:(bJ (jU (aL m) t (bu f))).length≤1000000:=by have:=ig (λi=>decide ((aL m)[i]? = some (bu f))) (List.range t);simp[bJ,jU];simp at this;lia
  refine⟨mk,v,(S++[SO.lst []]).set j (.lst ((bJ (jU (aL m) (t+1) (bu f))).map .p)),?_,?_⟩
  .have e:∀k,k < S.length->k≠j->((S++[SO.lst []]).set j (.lst ((bJ (jU (aL m) (t+1) (bu f))).map .p)))[k]? = S[k]?:=λk hk q=>by rw[aO (λz=>q z.symm),r k hk]
   refine⟨by rw[e T.length (by lia) (by lia)];exact h.h0,by rw[e (T.length+1) (by lia) (by lia)];exact h.h1,by rw[e (T.length+2) (by lia) (by lia)];exact h.h2,by rw[e (T.length+3) (by lia) (by lia)];exact h.h3,by rw[e (T.length+4) (by lia) (by lia)];exact h.h4,h.nd,h.ln,by have:=h.le;lia,λs x=>?_,λs x=>?_,λk hk=>by rw[e k (by lia) (by lia)];exact h.lo k hk,h.inj⟩
   .by_cases q:s=bu f
    .subst q;exact⟨j,K,hj,by rw[cj (by simp;lia)]⟩
    .have y:s ∈ (aL m).take t:=by
      rw[E]at x;rcases cI.mp x with z|z
      .exact z
      .exact absurd (fU.mp z) q
     obtain⟨H,a,b,F⟩:=h.yes s y;have R:H≠j:=λz=>q (h.inj s (bu f) j (z ▸ a) K);refine⟨H,a,b,?_⟩;rw[e H (bx F) R,kT,ah λz=>q (by rw[N]at z;cases z;rfl)];exact F
   .exact h.no s λz=>x (by rw[E];exact nG _ z)
  .unfold cV;rw[cf,bB,oh,eo,am];simp only[g,ek,am];rw[show df a8 (ML T l d u (qi (t:Int))) S=some (.ref S.length,S++[.lst []]) by simp];simp only[am,o,db,af B,K,eZ,A];rw[show bo 4 (ML T l d u (qi (t:Int))) (S++[SO.lst []])=some (.p (.int (t:Int)),S++[.lst []]) from rfl,am];simp only[A];rw[af (by rw[j5,aZ];exact C),kT,af N];simp[bJ]
 .have K:=h.no _ V;obtain⟨g1,g2,g3,g4,G⟩:=ma (.inr (bu f):cu) (.ref S.length) mk v h.nd h.ln;have c0:jU (aL m) t (bu f)=[]:=zB (by lia) V;refine⟨(d7 (Sum.inr (bu f):cu) (.ref S.length) mk v).1,(d7 (Sum.inr (bu f):cu) (.ref S.length) mk v).2,((S++[SO.lst []]).set (T.length+4) (SO.dct (d7 (Sum.inr (bu f):cu) (.ref S.length) mk v).1 (d7 (Sum.inr (bu f):cu) (.ref S.length) mk v).2)).set S.length (.lst [.p (.int (t:Int))]),?_,?_⟩
  .have e:∀k,k < S.length->k≠T.length+4->(((S++[SO.lst []]).set (T.length+4) (.dct (d7 (.inr (bu f)) (.ref S.length) mk v).1 (d7 (.inr (bu f)) (.ref S.length) mk v).2)).set S.length (.lst [.p (.int (t:Int))]))[k]? = S[k]?:=λk hk q=>by rw[aO (by lia),aO (λz=>q z.symm),r k hk]
   refine⟨by rw[e T.length (by lia) (by lia)];exact h.h0,by rw[e (T.length+1) (by lia) (by lia)];exact h.h1,by rw[e (T.length+2) (by lia) (by lia)];exact h.h2,by rw[e (T.length+3) (by lia) (by lia)];exact h.h3,by rw[aO (by lia),cj (by simp;lia)],g1,g2,by have:=h.le;lia,λs x=>?_,λs x=>?_,λk hk=>by rw[e k (by lia) (by lia)];exact h.lo k hk,λs s' j a b=>?_⟩
   .by_cases q:s=bu f
    .subst q;refine⟨S.length,by rw[G,af rfl],by lia,?_⟩;rw[cj (by simp),kT,af N,c0];rfl
    .have y:s ∈ (aL m).take t:=by
      rw[E]at x;rcases cI.mp x with z|z
      .exact z
      .exact absurd (fU.mp z) q
     obtain⟨H,a,b,F⟩:=h.yes s y;refine⟨H,by rw[G,ah λz=>q (jE z).symm];exact a,b,?_⟩;rw[e H (bx F) (by lia),kT,ah λz=>q (by rw[N]at z;cases z;rfl)];exact F
   .rw [G,ah λz=>x (by rw[E,<- jE z];simp)];exact h.no s λz=>x (by rw[E];exact nG _ z)
   .have low:∀s j,cZ (.inr s) mk v=qr j->j < S.length:=λs j q=>by
     by_cases w:s ∈ (aL m).take t
     .obtain⟨H,a,_,F⟩:=h.yes s w;rw[q]at a;cases a;exact bx F
     .rw [h.no s w]at q;cases q
    rw[G]at a b;split at a
    .rename_i z1;cases a;split at b
     .rename_i z2;exact(jE z1).symm.trans (jE z2)
     .exact absurd (low _ _ b) (by lia)
    .split at b
     .cases b;exact absurd (low _ _ a) (by lia)
     .exact h.inj s s' j a b
  .have l1:((S++[SO.lst []]).set (T.length+4) (.dct (d7 (.inr (bu f)) (.ref S.length) mk v).1 (d7 (.inr (bu f)) (.ref S.length) mk v).2))[S.length]? = some (.lst []):=by
    rw[aO (by lia)];exact dR _ _
   unfold cV;rw[cf,bB,oh,eo,am];simp only[g,ek,am];rw[show df a8 (ML T l d u (qi (t:Int))) S=some (.ref S.length,S++[.lst []]) by simp];simp only[am,o,db,af B,K,eZ,l1];rw[show ∀Z:aA,bo 4 (ML T l d u (qi (t:Int))) Z=some (.p (.int (t:Int)),Z) from λ_=>rfl,am];simp only[l1];rfl
variable{m:List P}{n:Nat}
theorem Ju(r:∀f ∈ m,isFam p f)(F:(aU m).length≤100)(l:P)(s c:Option D)(h:MI T m o u 0 [] [] S) :
  ∃mk a x q,MI T m o u (aU m).length mk a x/\bc (ai 4) (cV (Ph (n+2))) (intsFrom 0 (aU m).length) [qr T.length,O l,s,c,none] S=some (.nx,[qr T.length,O l,s,c,q],x):=by
 obtain⟨H,x,e,mk,a,q,I,rfl⟩:=cn (g:=ai 4) (b:=cV (Ph (n+2))) (Inv:=λt L S=>∃mk a q,MI T m o u t mk a S/\L=[qr T.length,O l,s,c,q]) (s:=intsFrom 0 (aU m).length) (k:=0) (L:=[qr T.length,O l,s,c,none]) (S:=S) (λi v L S z I=>by obtain⟨rfl,y⟩:=ints_get z;obtain⟨mk,a,q,I,rfl⟩:=I;simp only[cG];rw[d_]at I ⊢;obtain⟨d,w,x,j,e⟩:=Jt I (n:=n) (by lia) r (bA y) l s c;exact⟨_,_,x,rfl,e,d,w,_,j,rfl⟩) ⟨[],[],none,h,rfl⟩
 rw[cA,d_]at I;exact⟨mk,a,x,q,I,e⟩
theorem yc(e:Pln m o w)(T:aA):∃S,Ph (n+4) "Board.__init__" [.ref T.length,.p (.tup [.lst m,.lst o,.lst w])] (T++[.ins "Board" [] []])=some (.p .non,S)/\Bd (y4 m o w) S.length T.length S/\∀k,k < T.length->S[k]? = T[k]?:=by
 let l:P:=.tup [.lst m,.lst o,.lst w]
 let R:=bQ (aL m) o
 have C:R.length≤2048:=pu (B:=y4 m o w) e;have Q:=je e;have q:=o6 (f:=m);obtain⟨u,g,c⟩:=K0 (K:=Ph (n+3)) l (.p (.lst m)) (.ref (T.length+1)) (.ref (T.length+2)) (i:=T.length) (j:=T.length+3) (by lia) R 0 ([],[]) Ss (by simp;lia) (λp A=>by obtain⟨r,_,a,b,rfl⟩:=tf (B:=y4 m o w) A;exact⟨r,a,b,rfl⟩) none none (T++[.ins "Board" ["families","homes","pairs","places"] [.p (.lst m),.ref (T.length+1),.ref (T.length+2),.ref (T.length+3)],.lst ((homes m).map .p),.fz (.lst R),.dtt [] []]) (xk _ _ _) (xj _ _ 3)
 rw[show((0:Nat):Int)=0 from rfl,MD]at c;generalize d:putAll 0 R ([],[])=v at c;let f:aA:=T++[.ins "Board" ["families","homes","pairs","places"] [.p (.lst m),.ref (T.length+1),.ref (T.length+2),.ref (T.length+3)],.lst ((homes m).map .p),.lst (R.map .p),.dtt [] []]
 let x:aA:=T++[.ins "Board" fields [.p (.lst m),.ref (T.length+1),.ref (T.length+2),.ref (T.length+3),.ref (T.length+4)],.lst ((homes m).map .p),.fz (.lst R),.dtt v.1 v.2,.dct [] []]
 have I:MI T m (.fz (.lst R)) (.dtt v.1 v.2) 0 [] [] x:=
  ⟨xk _ _ _,xj _ _ 1,xj _ _ 2,xj _ _ 3,xj _ _ 4,by simp,rfl,by simp,λs h=>(by simp at h),λs _=>rfl,λk hk=>bF hk,λs W j h=>(by cases h)⟩
 obtain⟨mk,z,S,V,M,H⟩:=Ju (n:=n+1) e.hf (by lia) l u g I;have t:Bat (y4 m o w) S.length T.length (T.length+1) (T.length+2) (T.length+3) (T.length+4) mk z S:=by
  refine⟨M.h0,.inl M.h1,.inr M.h2,?_,M.h4,λs G=>?_,bx M.h0,bx M.h1,bx M.h2,bx M.h3,bx M.h4,al _⟩
  .have:=M.h3;rw[<- d]at this;exact this
  .have N:(aL m).length=(aU m).length:=by simp[aL]
   obtain⟨j,L,_,y⟩:=M.yes s (by rw[<- N,nC];exact G);refine⟨j,bx y,by rw[<- Ct];exact L,.inl ?_⟩;have:jU (aL m) (aU m).length s=a_ (y4 m o w).N s:=by rw[<- N];rfl
   rw[<- this];exact y
 refine⟨S,?_,⟨_,_,_,_,mk,z,t⟩,M.lo⟩;have F:=KS (n:=n+1) e.hf e.f0.2 (.lst o) (.lst w);have K:=Ku (n:=n) e;rw[sU];show cE (jB _ [qr T.length,O l,none,none,none] (T++[.ins "Board" [] []]))=_;unfold jB;rw[ak (e:=[qr T.length,O l,none,none,none]) (c:=T++[.ins "Board" ["families"] [.p (.lst m)]]) (by simp[l,ml,Ev.putK,Ev.mP])];rw[ak (e:=[qr T.length,O l,none,none,none]) (c:=T++[.ins "Board" ["families","homes"] [.p (.lst m),.ref (T.length+1)],.lst ((homes m).map .p)]) (by simp[l,ml,Ev.putK,Ev.mP,F,xk,B7])];rw[ak (e:=[qr T.length,O l,none,none,none]) (c:=T++[.ins "Board" ["families","homes","pairs"] [.p (.lst m),.ref (T.length+1),.ref (T.length+2)],.lst ((homes m).map .p),.lst (R.map .p)]) (by simp[l,ml,Ev.putK,Ev.mP,K,R,xk,B7])];rw[ak (e:=[qr T.length,O l,none,none,none]) (c:=f) (by simp[f,ml,Ev.putK,Ev.mP,xk,B7])];rw[ak (by rw[bE,q_,vE];rw[show cc (aT Att) (bo 0) "pairs" [some (D.ref T.length),O l,none,none,none] f=some (.ref (T.length+2),f) by simp[f,ml,gZ,xk],am,eU (xj _ _ 2),MD];exact c)]
 rw[ak (e:=[qr T.length,O l,u,g,none]) (c:=x) (by simp[x,ml,Ev.putK,Ev.mP,my,fields,xk,B7])];have E:(homes m).length < 1000000:=by lia
 rw[bE,show iI (dq (cc (aT Att) (bo 0) "homes")) [some (D.ref T.length),O l,u,g,none] x=some (intsFrom 0 (homes m).length,x) by simp[x,ml,Jw,di,E,xk,xj],am,q];rw[H];rfl
section
variable{p:List P}
theorem lE(h:∀f ∈ m,isFam p f)(l:m.length≤4):(aU m).length≤16:=by have:=zf 0 h;unfold aU;simp;lia
theorem Ce(y A:Str->GF)(v:P):∀(m:List P)(k:Nat)(a:List P)(d:Option D),(∀f ∈ m,isFam p f)->a.length+4 * m.length≤1000 ->
  ∃q,bc (ai 2) (fM y) m [O v,ql a,d] []=some (.nx,[O v,ql (a++(hw k m).map (·.2)),q],[])
 | [],k,a,d,_,_=>⟨d,by simp[bc,hw]⟩
 |f::r,k,a,d,h,H=>by
  obtain⟨K,c,o,l,w,t,z,rfl⟩:=h f aF;have B:=z.hcr.2;simp only[aR]at H;generalize j:P.tup [.str K,.int (c:Int),.lst o,.lst l,.lst w,.lst t]=F;have i:sW F (.int 1)=some (.int (c:Int)):=by rw[<- j];simp
  have u:iK F=c:=by rw[<- j];simp[iK]
  obtain⟨q,e⟩:=Ce y A v r (k+1) (a++List.replicate c F) (O F) (λx S=>h x (aH _ S)) (by simp;lia);refine⟨q,?_⟩;have g:(hw k (F::r)).map (·.2)=List.replicate c F++(hw (k+1) r).map (·.2):=by simp[hw,u]
  rw[g,<- eD];refine(bj (h:=[O v,ql a,O F]) (L2:=[O v,ql (a++List.replicate c F),O F]) (x:=[]) rfl ?_).trans e;have b:c≤1000000:=by lia
  have s:c < 1000000:=by lia
  have n:a.length+c≤1000000:=by lia
  simp[fM,i,b,s,n]
theorem wc(h:∀f ∈ m,isFam p f)(l:m.length≤4)(r w:P):bU (Ph (n+2) "_law_families") [.tup [.lst m,r,w]]=some (.lst (aU m)):=by obtain⟨q,e⟩:=Ce (Ph (n+1)) (Ph n) (.tup [.lst m,r,w]) m 0 [] none h (by simp;lia);rw[pa,aw];simp only[eB]at e;simp[kg,e,aU]
theorem pb(h:∀f ∈ m,isFam p f)(d:m.length≤4)(o x:P)(s:Str) :
  bU (Ph (n+3) "_law_crew") [.tup [.lst m,o,x],.str s]=some (.lst ((a_ (aL m) s).map λ(i:Nat)=>P.int (i:Int))):=by
 have g:=wc (n:=n) h d o x;have u:=lE h d;have j:bG (aY [ai 2,ai 3]) (aK (U (Y cD bZ)) gj) b_ (bM 0 (aU m)) [qt [.lst m,o,x],qs s,none,none] [] =
   some (((bM 0 (aU m)).filter λv=>match v with | .tup [_,f]=>decide (bu f=s)|_=>false).map (λv=>match v with | .tup [i,_]=>i|_=>.non),[]):=by
  refine cT (Inv:=λL=>∃a b,L=[qt [.lst m,o,x],qs s,a,b]) (λv F L y=>?_) ⟨none,none,rfl⟩;obtain⟨a,b,rfl⟩:=y;obtain⟨i,k,e⟩:=lX.mp F;obtain⟨f,z,rfl⟩:=gK (s:=aU m) (i:=i) (v:=v) (by rw[bA k,e]);obtain⟨K,c,r,l,w,t,H,rfl⟩:=j8 h (bq z);exact⟨[qt [.lst m,o,x],qs s,qi (i:Int),qt [.str K,.int (c:Int),.lst r,.lst l,.lst w,.lst t]],rfl,⟨_,_,rfl⟩,by simp[bu];first|done|exact uZ.mpr Iff.rfl,λ_=>by simp⟩
 have S:(bM 0 (aU m)).length≤1000000:=by rw[dS];lia
 rw[wz,aw];simp[oE,aX,g,S,lZ,j];rw[xR];unfold a_ aL;rw[qD,lU,aZ];congr 1;refine AW λi k=>?_;have q:i < (aU m).length:=by simpa using k
 simp[q]
theorem Sm(k f:Str->GF)(p road:P)(n:Nat):∀(os:List Nat)(a:List P)(x:Option D),a.length+os.length≤100000->∃q,bc (ai 4) (fE k) (bJ os) [O p,qr 0,O road,qi (n:Int),x] [.lst (a.map .p)] =
   some (.nx,[O p,qr 0,O road,qi (n:Int),q],[.lst ((a++(os.filter λo=>!decide (n=o)).map λo=>pr road n o).map .p)])
 | [],a,x,_=>⟨x,by simp[bJ,bc]⟩
 |o::os,a,x,b=>by
  simp only[aR]at b;by_cases h:n=o
  .obtain⟨q,e⟩:=Sm k f p road n os a (qi (o:Int)) (by lia);refine⟨q,?_⟩;have s:(o::os).filter (λo=>!decide (n=o))=os.filter λo=>!decide (n=o):=by simp[h]
   rw[s];refine(bj (h:=[O p,qr 0,O road,qi (n:Int),qi (o:Int)]) (L2:=[O p,qr 0,O road,qi (n:Int),qi (o:Int)]) (x:=[.lst (a.map .p)]) rfl ?_).trans e;simp[fE,h]
  .obtain⟨q,e⟩:=Sm k f p road n os (a++[pr road n o]) (qi (o:Int)) (by simp;lia);refine⟨q,?_⟩;have s:((o::os).filter (λo=>!decide (n=o))).map (λo=>pr road n o)=pr road n o::(os.filter λo=>!decide (n=o)).map λo=>pr road n o:=by simp[h]
   rw[s,show a++pr road n o::(os.filter λo=>!decide (n=o)).map (λo=>pr road n o)=a++[pr road n o]++(os.filter λo=>!decide (n=o)).map (λo=>pr road n o) by simp];refine(bj (h:=[O p,qr 0,O road,qi (n:Int),qi (o:Int)]) (L2:=[O p,qr 0,O road,qi (n:Int),qi (o:Int)]) (x:=[.lst ((a++[pr road n o]).map .p)]) rfl ?_).trans e;have z:¬(n:Int)=(o:Int):=by lia
   have l:a.length≤1000000:=by lia
   rw[<- dt];simp[fE,h,z,eZ,l,pr]
theorem Tp{n:Nat}{m:List P}(d:∀f ∈ m,isFam p f)(l:m.length≤4)(r w:P){road:P}(g:isRoad road):∀(s:List Nat)(h:List P)(v x:Option D),h.length+16 * s.length≤50000->∃q e,bc (ai 3) (kf (Ph (n+3))) (bJ s) [qt [.lst m,r,w],qr 0,O road,v,x] [.lst (h.map .p)] =
   some (.nx,[qt [.lst m,r,w],qr 0,O road,q,e],[.lst ((h++s.flatMap λk=>((a_ (aL m) (rB road)).filter λo=>!decide (k=o)).map λo=>pr road k o).map .p)])
 | [],h,v,x,_=>⟨v,x,by simp[bJ,bc]⟩
 |i::s,h,v,x,K=>by simp only[aR]at K;have S:(a_ (aL m) (rB road)).length≤16:=aI (dW _ _) (by unfold aL;rw[aZ];exact lE d l);obtain⟨e,u⟩:=Sm (Ph (n+3)) (Ph (n+2)) (.tup [.lst m,r,w]) road i (a_ (aL m) (rB road)) h x (by lia);have A:=vO i road (a_ (aL m) (rB road));obtain⟨q,t,z⟩:=Tp (n:=n) d l r w g s (h++((a_ (aL m) (rB road)).filter λo=>!decide (i=o)).map λo=>pr road i o) (qi (i:Int)) e (by rw[bz];lia);refine⟨q,t,?_⟩;rw[ie,<- eD];refine(bj (h:=[qt [.lst m,r,w],qr 0,O road,qi (i:Int),x]) rfl ?_).trans z;obtain⟨a,b,kd,c,j,y,B,C,F,_,_,rfl⟩:=g;have H:=pb (n:=n) d l r w b;simp only[rB]at u;show bE _ _ _ _ _=_;rw[bE];rw[show fK (bL (Ph (n+3) "_law_crew") (v2 bC (Y b_ ce))) [qt [.lst m,r,w],qr 0,qt [.str a,.str b,.str kd,.int c,.bl j,.bl y],qi (i:Int),x] [.lst (h.map .p)]=some (bJ (a_ (aL m) b),[.lst (h.map .p)]) by simp[H,bJ]];exact u
theorem To{n:Nat}{m:List P}(i:∀f ∈ m,isFam p f)(l:m.length≤4)(t w:P):∀(o:List P)(x:List P)(j q s:Option D),(∀r ∈ o,isRoad r)->x.length+256 * o.length≤10000->∃z e k,bc (ai 2) (ke (Ph (n+3))) o [qt [.lst m,t,w],qr 0,j,q,s] [.lst (x.map .p)] =
   some (.nx,[qt [.lst m,t,w],qr 0,z,e,k],[.lst ((x++bQ (aL m) o).map .p)])
 | [],x,j,q,s,_,_=>⟨j,q,s,by simp[bQ,bc]⟩
 |road::o,x,j,q,s,S,G=>by
  simp only[aR]at G;have N:(aL m).length≤16:=by unfold aL;rw[aZ];exact lE i l
  have C:(a_ (aL m) (rA road)).length≤16:=aI (dW _ _) N;have y:(a_ (aL m) (rB road)).length≤16:=aI (dW _ _) N;have v:=S road aF;obtain⟨e,k,H⟩:=Tp (n:=n) i l t w v (a_ (aL m) (rA road)) x q s (by lia);have I:(y0 (aL m) road).length≤256:=by have:=vU (aL m) road _ y (a_ (aL m) (rA road));unfold y0;lia
  obtain⟨d,u,g,A⟩:=To (n:=n) i l t w o (x++y0 (aL m) road) (O road) e k (λr h=>S r (aH _ h)) (by rw[bz];lia);refine⟨d,u,g,?_⟩;rw[show bQ (aL m) (road::o)=y0 (aL m) road++bQ (aL m) o by simp[bQ],<- eD];refine(bj (h:=[qt [.lst m,t,w],qr 0,O road,q,s]) rfl ?_).trans A;obtain⟨a,b,kd,c,F,K,L,M,E,_,_,rfl⟩:=v;have B:=pb (n:=n) i l t w a;simp only[rA]at H;show bE _ _ _ _ _=_;rw[bE];rw[show fK (bL (Ph (n+3) "_law_crew") (v2 bC (Y b_ bZ))) [qt [.lst m,t,w],qr 0,qt [.str a,.str b,.str kd,.int c,.bl F,.bl K],q,s] [.lst (x.map .p)]=some (bJ (a_ (aL m) a),[.lst (x.map .p)]) by simp[B,bJ]];exact H
theorem B'(h:Pln m r w):bU (Ph (n+4) "_law_pairs") [.tup [.lst m,.lst r,.lst w]]=some (.lst (bQ (aL m) r)):=by have:=h.rl;obtain⟨q,x,a,e⟩:=To (n:=n) h.hf h.f0.2 (.lst r) (.lst w) r [] none none none h.hr (by simp;lia);rw[tN,aw];simp only[eB,eS]at e;simp[mH,e]
end
theorem BM:∀s:List P,Ko (s.map .p)=some s
 | []=>rfl
 |x::s=>by simp[Ko,BM s]
theorem E5{R ι:Str->GF}{l:List P}(W:∀c ∈ l,isCel c)(hl:l.length≤3)(d:Int)(S:aA)(y o H F K A:Option D)(q s n f m r u j:Option D) :
  ∃(N:List P)(p w:Option D),CellsOk l N/\bc (aY [ai 8,ai 9]) (dQ R) (bM 0 l) [y,o,H,F,K,A,qi d,qr S.length,u,j,q,s,n,f,m,r] (S++[.lst []])=some (.nx,[y,o,H,F,K,A,qi d,qr S.length,p,w,q,s,n,f,m,r],S++[.lst (N.map .p)]):=by
 obtain⟨L',G,e,t,p,w,E,M,rfl,rfl⟩:=cn (g:=aY [ai 8,ai 9]) (b:=dQ R) (Inv:=fun i L G=>∃(t:List P) (u j:Option D),t.length=i/\(∀c ∈ t,∃i:Int,i.natAbs≤999/\c=.int i)/\L=[y,o,H,F,K,A,qi d,qr S.length,u,j,q,s,n,f,m,r]/\G=S++[.lst (t.map .p)]) (s:=bM 0 l) (k:=0) (L:=[y,o,H,F,K,A,qi d,qr S.length,u,j,q,s,n,f,m,r]) (S:=S++[.lst []]) (fun i v L G X V=>by
  obtain⟨c,B,rfl⟩:=gK X;have hi:=bx B;obtain⟨x,lo,a,I,_,b1,b2,b3,b4,rfl⟩:=W c (bq B);obtain⟨t,u,j,E,M,rfl,rfl⟩:=V;obtain⟨z,Z,T⟩:∃z:Int,(0 < z/\z < 1152921504606846976)/\L2.atI [P.int 8,.int 32,.int 128] (i:Int)=some (.int z):=by
   have:i=0\/i=1\/i=2:=by lia
   rcases this with rfl|rfl|rfl
   .exact⟨8,by decide,by simp⟩
   .exact⟨32,by decide,by simp⟩
   .exact⟨128,by decide,by simp⟩
  have Q:0 < a-lo+1:=by lia
  have m0:0≤d / z % (a-lo+1):=dg _ (by lia);have m1:d / z % (a-lo+1) < a-lo+1:=dG _ Q;have C:t.length≤1000000:=by lia
  refine⟨_,[y,o,H,F,K,A,qi d,qr S.length,qi (i:Int),qt [.str x,.int lo,.int a,.int I],q,s,n,f,m,r],S++[.lst ((t++[P.int (lo+d / z % (a-lo+1))]).map .p)],rfl,?_,_,_,_,by simp[E],dZ M ⟨_,by lia,rfl⟩,rfl,rfl⟩;rw[<- dt];simp[dQ,T,Z,Q,eZ,C]) ⟨[],u,j,rfl,λ_ h=>(by cases h),rfl,rfl⟩
 rw[dS,d_]at E;exact⟨t,p,w,⟨E,M⟩,e⟩
theorem IM{E W:Str->GF}(m:Nat)(V:m≤2)(l:List P)(d:Int)(S:aA)(t p u j y o:Option D)(F q x a s n r:Option D) :
  ∃(C:List P)(c:Option D),C.length=m/\(∀w ∈ C,o4 w)/\bc (ai 8) (dP E) (intsFrom 0 m) [t,p,u,ql l,j,y,qi d,o,r,F,qr S.length,q,x,a,s,n] (S++[.lst []])=some (.nx,[t,p,u,ql l,j,y,qi d,o,c,F,qr S.length,q,x,a,s,n],S++[.lst (C.map .p)]):=by
 obtain⟨R,A,e,f,c,K,B,rfl,rfl⟩:=cn (g:=ai 8) (b:=dP E) (Inv:=fun i L A=>∃(f:List P) (r:Option D),f.length=i/\(∀w ∈ f,o4 w)/\L=[t,p,u,ql l,j,y,qi d,o,r,F,qr S.length,q,x,a,s,n]/\A=S++[.lst (f.map .p)]) (s:=intsFrom 0 m) (k:=0) (L:=[t,p,u,ql l,j,y,qi d,o,r,F,qr S.length,q,x,a,s,n]) (S:=S++[.lst []]) (fun i v L A N I=>by
  obtain⟨rfl,T⟩:=ints_get N;obtain⟨f,r,K,B,rfl,rfl⟩:=I;simp only[cG];obtain⟨z,Q,G⟩:∃z:Int,(0 < z/\z < 1152921504606846976)/\L2.atI [P.int 512,.int 4096] (i:Int)=some (.int z):=by
   have:i=0\/i=1:=by lia
   rcases this with rfl|rfl
   .exact⟨512,by decide,by simp⟩
   .exact⟨4096,by decide,by simp⟩
  have M:(0:Int) < (l.length:Int)+1:=by lia
  have H:f.length≤1000000:=by lia
  refine⟨_,[t,p,u,ql l,j,y,qi d,o,qi (i:Int),F,qr S.length,q,x,a,s,n],S++[.lst ((f++[P.int (d / z % ((l.length:Int)+1)-1)]).map .p)],rfl,?_,_,_,by simp[K],dZ B ⟨_,rfl⟩,rfl,rfl⟩;rw[<- dt];simp[dP,G,Q,M,di,d5,eZ,H]) ⟨[],r,rfl,λ_ h=>(by cases h),rfl,rfl⟩
 rw[cA,d_]at K;exact⟨f,c,K,B,e⟩
theorem IN{T ι:Str->GF}(m:Nat)(hm:m≤3)(d:Int)(S:aA)(w j o H F K A B x s n f:Option D)(p q:Option D) :
  ∃(Q:List P)(t c:Option D),Q.length=m/\(∀l ∈ Q,pK l)/\bc (ai 8) (dM T) (intsFrom 0 m) [w,j,o,H,F,K,qi d,A,p,B,x,s,n,f,qr S.length,q] (S++[.lst []])=some (.nx,[w,j,o,H,F,K,qi d,A,t,B,x,s,n,f,qr S.length,c],S++[.lst (Q.map .p)]):=by
 obtain⟨L',G,e,r,t,c,E,M,rfl,rfl⟩:=cn (g:=ai 8) (b:=dM T) (Inv:=fun i L G=>∃(r:List P) (p q:Option D),r.length=i/\(∀l ∈ r,pK l)/\L=[w,j,o,H,F,K,qi d,A,p,B,x,s,n,f,qr S.length,q]/\G=S++[.lst (r.map .p)]) (s:=intsFrom 0 m) (k:=0) (L:=[w,j,o,H,F,K,qi d,A,p,B,x,s,n,f,qr S.length,q]) (S:=S++[.lst []]) (fun i v L G hv Z=>by
  obtain⟨rfl,hi⟩:=ints_get hv;obtain⟨r,p,q,E,M,rfl,rfl⟩:=Z;simp only[cG];obtain⟨z,y,hz,hy,X,W⟩:∃z y:Int,(0 < z/\z < 1152921504606846976)/\(0 < y/\y < 1152921504606846976)/\L2.atI [P.int 8,.int 800,.int 80000] (i:Int)=some (.int z)/\L2.atI [P.int 4,.int 400,.int 40000] (i:Int)=some (.int y):=by
   have:i=0\/i=1\/i=2:=by lia
   rcases this with rfl|rfl|rfl
   .exact⟨8,4,by decide,by decide,by simp,by simp⟩
   .exact⟨800,400,by decide,by decide,by simp,by simp⟩
   .exact⟨80000,40000,by decide,by decide,by simp,by simp⟩
  obtain⟨u,hu1,hu2,V⟩:∃u:Int,-998≤u/\u≤997/\L2.atI [P.int 0,.int 997,.int 0,.int (-998)] (d / 8000000 % 4)=some (.int u):=by
   have h:d / 8000000 % 4=0\/d / 8000000 % 4=1\/d / 8000000 % 4=2\/d / 8000000 % 4=3:=by lia
   rcases h with h|h|h|h<;>rw[h]<;>simp
  obtain⟨mk,N,I⟩:=oX (a:="ma") (b:="mb") (d / y);have R:az mk=true:=by rcases N with rfl|rfl<;>simp
  have m0:0≤d / z % 4:=dg _ (by decide);have m1:d / z % 4 < 4:=dG _ (by decide);have C:r.length≤1000000:=by lia
  refine⟨_,[w,j,o,H,F,K,qi d,A,qi (i:Int),B,x,s,n,f,qr S.length,qi (d / z % 4-1+u)],S++[.lst ((r++[P.tup [.str mk,.int (d / z % 4-1+u)]]).map .p)],rfl,?_,_,_,_,by simp[E],dZ M ⟨mk,_,R,by lia,rfl⟩,rfl,rfl⟩;rw[<- dt];simp[dM,X,W,hz,hy,V,I,eZ,C]) ⟨[],p,q,rfl,λ_ h=>(by cases h),rfl,rfl⟩
 rw[cA,d_]at E;exact⟨r,t,c,E,M,e⟩
noncomputable abbrev bg(B:BD):P:=.tup [.lst B.fams,.lst B.roads,.lst B.wishes]
theorem E4{B:BD}(hP:Pln B.fams B.roads B.wishes){n:Nat}(V:List Int)(Z q5 Q N C E q u j y z H:Option D) :
  ∃(hs:List P)(S':aA)(q4' q5' q6' q7' q8' q9' W:Option D),hs.length=(aU B.fams).length/\(∀(k:Nat) f x,(aU B.fams)[k]? = some f->hs[k]? = some x->HandOk f x)/\S'[0]? = some (.lst (hs.map .p)) /\
   bc (aY [ai 4,ai 5]) (dO (Ph (n+2))) (bM 0 (aU B.fams)) [O (fI V),O (bg B),qr 0,ql (aU B.fams),Z,q5,Q,N,C,E,q,u,j,y,z,H] [.lst []]=some (.nx,[O (fI V),O (bg B),qr 0,ql (aU B.fams),q4',q5',q6',q7',q8',q9',W,u,j,y,z,H],S'):=by
 have h4:=je hP;obtain⟨L',S',e,M,q4',q5',q6',q7',q8',q9',W,h1,h2,h3,rfl⟩:=cn (g:=aY [ai 4,ai 5]) (b:=dO (Ph (n+2))) (Inv:=fun i L S=>∃(M:List P) (Z q5 Q N C E q:Option D),M.length=i/\(∀(k:Nat) x,M[k]? = some x->∀f,(aU B.fams)[k]? = some f->HandOk f x)/\S[0]? = some (.lst (M.map .p))/\L=[O (fI V),O (bg B),qr 0,ql (aU B.fams),Z,q5,Q,N,C,E,q,u,j,y,z,H]) (s:=bM 0 (aU B.fams)) (k:=0) (L:=[O (fI V),O (bg B),qr 0,ql (aU B.fams),Z,q5,Q,N,C,E,q,u,j,y,z,H]) (S:=[.lst []]) (fun i v L S hv hI=>by
  obtain⟨f,hf,rfl⟩:=gK hv;have hi:=bx hf;obtain⟨nm,K,o,l,w,t,hF,rfl⟩:=j8 hP.hf (bq hf);obtain⟨M,Z,q5,Q,N,C,E,q,h1,h2,h3,rfl⟩:=hI;obtain⟨c,d,hd,e1,e2⟩:=iq (n:=n) V (k:=29+(i:Int)) (p:=31) (by lia) (by lia) (by lia);obtain⟨A,R,s,hcs,e3⟩:=E5 (R:=Ph (n+2)) (ι:=Ph (n+1)) hF.hce.1 hF.cl d S (O (fI V)) (O (bg B)) (qr 0) (ql (aU B.fams)) (qi (i:Int)) (O (d8 nm K o l w t)) q u j y z H C E;obtain⟨X,I,hw1,hw2,e4⟩:=IM (E:=Ph (n+2)) (W:=Ph (n+1)) w.length hF.wl (aU B.fams) d (S++[.lst (A.map .p)]) (O (fI V)) (O (bg B)) (qr 0) (qi (i:Int)) (O (d8 nm K o l w t)) (qr S.length) s u j y z H R;have hl0:0 < S.length:=bx h3;have hr0:=len_pos hF.r0;have hrp:(0:Int) < (o.length:Int):=by lia
  have r0:0≤d % (o.length:Int):=dg _ (by lia);have r1:d % (o.length:Int) < (o.length:Int):=dG _ hrp;obtain⟨r,hr⟩:∃r:Nat,d % (o.length:Int)=(r:Int):=⟨(d % (o.length:Int)).toNat,by lia⟩;have hwn:w.length < 1000000:=by have:=hF.wl;lia
  let a:aA:=S++[.lst (A.map .p)]
  let m:aA:=a++[.lst (X.map .p)]
  let F:Option D->Option D->Option D->Option D->Option D->Lc:=λQ N C E q=>[O (fI V),O (bg B),qr 0,ql (aU B.fams),qi (i:Int),O (d8 nm K o l w t),Q,N,C,E,q,u,j,y,z,H]
  let G:=F (qi d) (qr S.length)
  have t1:toP 9 (.ref S.length) m=some (.lst A,m.set S.length (.fz (.lst A))):=eU (by simp[m,a]);have t2:toP 9 (.ref a.length) (m.set S.length (.fz (.lst A)))=some (.lst X,(m.set S.length (.fz (.lst A))).set a.length (.fz (.lst X))):=eU (by rw[aO (by simp[a])];exact dR _ _);generalize hT:(m.set S.length (.fz (.lst A))).set a.length (.fz (.lst X))=T at t2;have hS0:m[0]? = some (.lst (M.map .p)):=by rw[bF (by simp[a]),bF hl0];exact h3
  have hT0:T[0]? = some (.lst (M.map .p)):=by rw[<- hT,aO (by simp[a]),aO (by lia)];exact hS0
  refine⟨(F Q N C E q),(G I s (qr a.length)),T.set 0 (.lst ((M++[P.tup [.int (r:Int),.tup A,.tup X]]).map .p)),rfl,?_,M++[P.tup [.int (r:Int),.tup A,.tup X]],_,_,_,_,_,_,_,by simp[h1],xM h2 (λf hf'=>?_),gc hT0,rfl⟩
  .unfold dO;rw [ak (e:=(F (qi d) N C E q)) (c:=S) (by simp [F,G,e1,e2])];rw [ak (e:=(G C E q)) (c:=S++[.lst []]) (by simp [G,F])];rw [ak (e:=(G R s q)) (c:=a) (by
    rw[bE,q_,show(Y iy gY) (G C E q) (S++[.lst []])=some (.lst l,S++[.lst []]) by simp[G,F,Kb]];exact e3)]
   rw[ak (e:=(G R s (qr a.length))) (c:=a++[.lst []]) (by simp[G,F])];rw[ak (e:=(G I s (qr a.length))) (c:=m) (by rw[bE,show iI (dq (U (Y iy lx))) (G R s (qr a.length)) (a++[.lst []])=some (intsFrom 0 w.length,a++[.lst []]) by simp[G,F,Nw,di,d5,hwn]];exact e4)]
   refine jX (k:=0) (w:=M) (e:=T) rfl hS0 ?_ hT0 (by lia);have m1:(aB g6 (dq (U (Y iy dD)))) (G I s (qr a.length)) m=some (.int (r:Int),m):=by simp[G,F,M9,di,d5,hr0,hr]
   have m2:(b0 cz (v1 j0)) (G I s (qr a.length)) m=some (.tup A,m.set S.length (.fz (.lst A))):=by show a6 (a6 (toP 9 (.ref S.length) m) _) _=_;rw[t1];rfl
   have m3:(b0 cz (v1 gp)) (G I s (qr a.length)) (m.set S.length (.fz (.lst A)))=some (.tup X,T):=by show a6 (a6 (toP 9 (.ref a.length) (m.set S.length (.fz (.lst A)))) _) _=_;rw[t2];rfl
   simp only[U,aP,bt,m1,m2,m3,am,a8];rfl
  .rw [h1,d_,hf]at hf';cases hf';exact⟨nm,K,o,l,w,t,rfl,r,A,X,rfl,by lia,hcs,hw1,hw2⟩) ⟨[],Z,q5,Q,N,C,E,q,rfl,λk x h=>(by simp at h),rfl,rfl⟩
 rw[dS,d_]at h1;exact⟨M,S',_,_,_,_,_,_,_,h1,λk f x hf hx=>h2 k x hx f hf,h3,e⟩
theorem E3{B:BD}(hP:Pln B.fams B.roads B.wishes){n:Nat}(Q:List Int){r:Nat}{S0:aA}{x0:SO}(h0:S0[0]? = some x0)(hr:S0[r]? = some (.lst []))(hr0:0 < r)(R V W X Z a7 a9 u C z j l q s:Option D) :
  ∃(rds:List P)(S':aA)(q6' q8' E I t M:Option D),bR B rds/\S'[0]? = some x0/\S'[r]? = some (.lst (rds.map .p)) /\
   bc (aY [ai 12,ai 13]) (dL (Ph (n+2))) (bM 0 B.PR) [O (fI Q),R,V,W,X,Z,C,a7,z,a9,u,qr r,j,l,q,s] S0=some (.nx,[O (fI Q),R,V,W,X,Z,q6',a7,q8',a9,u,qr r,E,I,t,M],S'):=by
 have h4:=pu hP;obtain⟨L',S',e,H,q6',q8',E,I,t,M,h1,h2,h3,h5,rfl⟩:=cn (g:=aY [ai 12,ai 13]) (b:=dL (Ph (n+2))) (Inv:=fun i L S=>∃(H:List P) (C z j l q s:Option D),H.length=i/\(∀r ∈ H,∃K,mn K/\r=.tup K)/\S[0]? = some x0/\S[r]? = some (.lst (H.map .p))/\L=[O (fI Q),R,V,W,X,Z,C,a7,z,a9,u,qr r,j,l,q,s]) (s:=bM 0 B.PR) (k:=0) (L:=[O (fI Q),R,V,W,X,Z,C,a7,z,a9,u,qr r,j,l,q,s]) (S:=S0) (fun i v L S hv hI=>by
  obtain⟨x,hx,rfl⟩:=gK hv;have hi:=bx hx;obtain⟨road,hro,a,b,rfl⟩:=tf (bq hx);obtain⟨ra,rb,kd,c,d1,d2,_,_,hkd,hc1,hc2,rfl⟩:=hP.hr road hro;obtain⟨H,C,z,j,l,q,s,h1,h2,h3,h5,rfl⟩:=hI;obtain⟨c',d,hd,e1,e2⟩:=iq (n:=n) Q (k:=34+(i:Int) % 20) (p:=33+(i:Int) / 20) (by lia) (by lia) (by lia);have m0:0≤d % (c+1):=dg _ (by lia);have m1:d % (c+1) < c+1:=dG _ (by lia);have hcp:0 < c+1:=by lia
  obtain⟨m,hm⟩:∃m:Nat,d % (c+1)=(m:Int):=⟨(d % (c+1)).toNat,by lia⟩;obtain⟨K,y,f,hl1,hl2,e3⟩:=IN (T:=Ph (n+2)) (ι:=Ph (n+1)) m (by lia) d S (O (fI Q)) R V W X Z a7 a9 u (qr r) (qi (i:Int)) (O (pr (.tup [.str ra,.str rb,.str kd,.int c,.bl d1,.bl d2]) a b)) z s;have hrl:=bx h5;have hls:mn K:=⟨by lia,hl2⟩;generalize hp:pr (.tup [.str ra,.str rb,.str kd,.int c,.bl d1,.bl d2]) a b=pp at e3;have N:sW pp (.int 0)=some (.tup [.str ra,.str rb,.str kd,.int c,.bl d1,.bl d2]):=by rw[<- hp];simp[pr]
  let F:Option D->Option D->Option D->Option D->Lc:=λC z q s=>[O (fI Q),R,V,W,X,Z,C,a7,z,a9,u,qr r,qi (i:Int),O pp,q,s]
  let G:=F (qi d)
  let w:aA:=S++[.lst (K.map .p)]
  have T0:∀(o:SO),(S++[o])[0]? = some x0/\(S++[o])[r]? = some (.lst (H.map .p)):=λo=>⟨by rw[bF (by lia)];exact h3,by rw[bF hrl];exact h5⟩;have fin:∃(A:List P)(q:Option D)(T:aA),mn A/\T[0]? = some x0/\T[r]? = some (.lst (H.map .p)) /\
    ag (b8 (aK (U (Y (Y nJ bZ) dD)) (U (vt "heap"))) (aq 14 (U (wW (bo 14)))) cN) (cf (bB (bo 11) (U (b0 cz (v1 (vv 14)))))) (G y (qr S.length) f) w=some (.nx,(G y q f),T.set r (.lst ((H++[P.tup A]).map .p))):=by
   by_cases hh:kd="heap"
   .obtain⟨A,hz,ez⟩:=ue hls;refine⟨A,ql A,w,hz,(T0 _).1,(T0 _).2,?_⟩;rw[ak (e:=(G y (ql A) f)) (c:=w) (by simp[G,F,w,N,hh,EZ,BM,ez])];exact jX rfl (T0 _).2 (by simp[G,F,cz]) (T0 _).2 (by lia)
   .have t1:toP 9 (.ref S.length) w=some (.lst K,w.set S.length (.fz (.lst K))):=eU (by simp[w]);have hT:(w.set S.length (.fz (.lst K)))[r]? = some (.lst (H.map .p)):=by rw[aO (by lia)];exact(T0 _).2
    refine⟨K,qr S.length,w.set S.length (.fz (.lst K)),hls,by rw[aO (by lia)];exact(T0 _).1,hT,?_⟩;rw[ak (e:=(G y (qr S.length) f)) (c:=w) (by simp[G,F,N,hh])];refine jX rfl (T0 _).2 ?_ hT (by lia);show a6 (a6 (a6 (toP 9 (.ref S.length) w) _) _) _=_;rw[t1];rfl
  obtain⟨A,t,T,hz,hT0,hTr,e4⟩:=fin;refine⟨(F C z q s),(G y t f),T.set r (.lst ((H++[P.tup A]).map .p)),rfl,?_,H++[P.tup A],_,_,_,_,_,_,by simp [h1],dZ h2 ⟨A,hz,rfl⟩,by rw [aO (by lia)];exact hT0,gc hTr,rfl⟩;unfold dL;rw [ak (e:=(G z q s)) (c:=S) (by simp [G,F,e1,e2])];rw [ak (e:=(G z (qr S.length) s)) (c:=S++[.lst []]) (by simp [G,F])];rw [ak (e:=(G y (qr S.length) f)) (c:=w) (by
   have hm3:m < 1000000:=by lia
   rw[bE,wg];simp only[G,F]at e3 ⊢;simp[N,hcp,hm,hm3,e3,w])]
  exact e4) ⟨[],C,z,j,l,q,s,rfl,λ_ h=>(by cases h),h0,hr,rfl⟩
 rw[dS,d_]at h1;exact⟨H,S',_,_,_,_,_,_,⟨h1,h2⟩,h3,h5,e⟩
theorem LQ(k:Pln B.fams B.roads B.wishes)(a:List Int):∃st,gi B st/\bU (Ph (n+5) "_law_standing") [fI a,bg B]=some st:=by
 obtain⟨e,h,m,t,p,v,w,u,q,z,y,b,g⟩:=E4 k (n:=n+2) a none none none none none none none none none none none none;obtain⟨s,f,E,G,K,A,C,D,o,H,F,i⟩:=E3 k (n:=n+2) a (r:=h.length) (S0:=h++[.lst []]) (x0:=.lst (e.map .p)) (by rw[bF (bx b)];exact b) (dR _ _) (bx b) (O (bg B)) (qr 0) (ql (aU B.fams)) m t v u q p w none none none none;refine⟨.tup [.tup e,.tup s],⟨e,s,rfl,z,y,o⟩,?_⟩;have j:=wc (n:=n+2) k.hf k.f0.2 (.lst B.roads) (.lst B.wishes);have l:=B' (n:=n) k;have c:(0:Nat)≠h.length:=by have:=bx b;lia
 have I:toP 9 (.ref 0) f=some (.lst e,f.set 0 (.fz (.lst e))):=eU H;have L:toP 9 (.ref h.length) (f.set 0 (.fz (.lst e)))=some (.lst s,(f.set 0 (.fz (.lst e))).set h.length (.fz (.lst s))):=eU (by rw[aO c];exact F);rw[o9,aw];show(match g_ _ [O (fI a),O (bg B),none,none,none,none,none,none,none,none,none,none,none,none,none,none] [] with|some (.rt d,_,S)=>(toP 9 d S).map (λx=>x.fst)|some (.nx,_,_)=>some .non|_=>none)=some (P.tup [.tup e,.tup s]);unfold g_;rw[ak (e:=[O (fI a),O (bg B),qr 0,none,none,none,none,none,none,none,none,none,none,none,none,none]) (c:=[.lst []]) (by simp)];rw[ak (e:=[O (fI a),O (bg B),qr 0,ql (aU B.fams),none,none,none,none,none,none,none,none,none,none,none,none]) (c:=[.lst []]) (by simp[j])];rw[ak (by rw[bE,show q_ cD [O (fI a),O (bg B),qr 0,ql (aU B.fams),none,none,none,none,none,none,none,none,none,none,none,none] [.lst []]=some (bM 0 (aU B.fams),[.lst []]) by simp];exact g)];rw[ak (e:=[O (fI a),O (bg B),qr 0,ql (aU B.fams),m,t,p,v,w,u,q,qr h.length,none,none,none,none]) (c:=h++[.lst []]) (by simp)];rw[ak (by rw[bE,show q_ (bL (Ph (n+4) "_law_pairs") (v1 bI)) [O (fI a),O (bg B),qr 0,ql (aU B.fams),m,t,p,v,w,u,q,qr h.length,none,none,none,none] (h++[.lst []])=some (bM 0 B.PR,h++[.lst []]) by simp[l,BD.PR,BD.N]];exact i)];simp[I,L,cz]
end My
namespace My
open PySem L2 Ev
theorem L4(h:Str->GF):kc h=cY h:=rfl
theorem on(w:Str)(i j:Int):∃b,(∀n,bU (Ph (n+2) "compared") [.str w,.int i,.int j]=some (.bl b))/\∀n,bU (Ph (n+2) "_law_relation") [.str w,.int i,.int j]=some (.bl b):=by obtain⟨b,e⟩:=KZ w i j;exact⟨b,λn=>by rw[og];exact e _,λn=>by rw[o_,L4];exact e _⟩
section
variable{N:List P}{ks:List cu}{E:List P}
theorem uo(k:Int):bU (Ph (n+2) "_law_value") [mQ k,.dct ks E]=some (.int k):=by rw[fO,aw];simp[eN]
theorem xy{i:Int}(h:cO (.inr e) ks E=some (.int i)):bU (Ph (n+2) "_law_value") [mR (.str e),.dct ks E]=some (.int i):=by rw[fO,aw];simp[eN,h]
theorem MO{i j:Int}(G:bU (Ph (n+2) "_law_value") [a,.dct ks E]=some (.int i))(I:bU (Ph (n+2) "_law_value") [b,.dct ks E]=some (.int j)):bU (Ph (n+3) "_law_value") [.tup [.str "plus",a,b],.dct ks E]=some (.int (i+j)):=by rw[fO,aw];simp[eN,G,I]
theorem Cj{i j:Int}(G:bU (Ph (n+2) "_law_value") [a,.dct ks E]=some (.int i))(I:bU (Ph (n+2) "_law_value") [b,.dct ks E]=some (.int j)):bU (Ph (n+3) "_law_value") [.tup [.str "minus",a,b],.dct ks E]=some (.int (i-j)):=by rw[fO,aw];simp[eN,G,I]
theorem JA{i j:Int}(h:gJ i j=true)(G:bU (Ph (n+2) "_law_value") [a,.dct ks E]=some (.int i))(I:bU (Ph (n+2) "_law_value") [b,.dct ks E]=some (.int j)):bU (Ph (n+3) "_law_value") [.tup [.str "times",a,b],.dct ks E]=some (.int (i * j)):=by rw[fO,aw];simp[eN,G,I,h]
theorem EA(f:∀x ∈ N,km x)(b:lO N ks E)(h:pJ N e):∃r:Int,(∀n,bU (Ph (n+4) "value_of") [e,.dct ks E]=some (.int r))/\∀n,bU (Ph (n+4) "_law_value") [e,.dct ks E]=some (.int r):=by
 rcases h with ⟨k,rfl⟩|⟨y,s,h⟩
 .exact⟨k,λ_=>li k,λ_=>uo k⟩
 obtain⟨x,_,rfl⟩:=f y s;obtain⟨i,p,a⟩:=b x s;rcases h with rfl|⟨k,rfl⟩|⟨k,j,c,t,rfl⟩|rfl
 .exact⟨i,λ_=>ly a,λ_=>xy a⟩
 .exact⟨_,λ_=>EC (ly a) (li k),λ_=>MO (xy a) (uo k)⟩
 .have m:=bW (i:=i) (j:=k) (by lia) (by lia);exact⟨_,λ_=>qP (BJ m (ly a) (li k)) (li j),λ_=>Cj (JA m (xy a) (uo k)) (uo j)⟩
 .exact⟨_,λ_=>qP (li 1) (ly a),λ_=>Cj (uo 1) (xy a)⟩
def HB(ks:List cu)(E:List P)(m:Nat)(t:P)(r:Bool):Prop:=(∀n,bU (Ph (n+m) "holds") [t,.dct ks E]=some (.bl r))/\∀n,bU (Ph (n+m) "_law_true") [t,.dct ks E]=some (.bl r)
theorem HB.up(h:HB ks E e s r)(k:Nat):HB ks E (k+e) s r:=⟨λn=>by rw[<- ee];exact h.1 _,λn=>by rw[<- ee];exact h.2 _⟩
theorem Hc:HB ks E 2 (.tup [.str "true"]) true:=⟨λ_=>zi,λn=>by rw[gM,aw];simp[fC]⟩
theorem Qp(w:Str){i j:Int}(G:(∀n,bU (Ph (n+4) "value_of") [a,.dct ks E]=some (.int i))/\∀n,bU (Ph (n+4) "_law_value") [a,.dct ks E]=some (.int i))(I:(∀n,bU (Ph (n+4) "value_of") [b,.dct ks E]=some (.int j))/\∀n,bU (Ph (n+4) "_law_value") [b,.dct ks E]=some (.int j)):∃r,HB ks E 6 (.tup [.str "is",.str w,a,b]) r:=by
 obtain⟨r,s,k⟩:=on w i j;refine⟨r,λn=>?_,λn=>?_⟩
 .have x:=G.1 (n+1);have h:=I.1 (n+1);have e:=s (n+3);rw[jf,aw];simp[hX,x,h,e]
 .have x:=G.2 (n+1);have h:=I.2 (n+1);have e:=k (n+3);rw[gM,aw];simp[fC,x,h,e]
theorem Qo(G:HB ks E (e+2) a r):HB ks E (e+3) (.tup [.str "not",a]) (!r):=⟨λn=>KJ (n:=n+e) (G.1 n),λn=>by have x:=G.2 n;rw[<- ee]at x;rw[<- ee,gM,aw];simp[fC,x]⟩
theorem Qq(G:HB ks E (e+2) a r)(I:HB ks E (e+2) b s):HB ks E (e+3) (.tup [.str "and",a,b]) (r && s):=⟨λn=>KL (n:=n+e) (G.1 n) (I.1 n),λn=>by have x:=G.2 n;have h:=I.2 n;rw[<- ee]at x h;rw[<- ee,gM,aw];cases r<;>simp[fC,x,h]⟩
theorem SQ(G:HB ks E (e+2) a r)(I:HB ks E (e+2) b s):HB ks E (e+3) (.tup [.str "or",a,b]) (r ||s):=⟨λn=>PV (n:=n+e) (G.1 n) (I.1 n),λn=>by have x:=G.2 n;have h:=I.2 n;rw[<- ee]at x h;rw[<- ee,gM,aw];cases r<;>simp[fC,x,h]⟩
theorem Ds(t:∀x ∈ N,km x)(q:lO N ks E)(h:kO N c):∃r,HB ks E 9 c r:=by
 have f:∀{y:P},y ∈ N->∃i:Int,(∀n,bU (Ph (n+4) "value_of") [mR y,.dct ks E]=some (.int i))/\∀n,bU (Ph (n+4) "_law_value") [mR y,.dct ks E]=some (.int i):=λ{y} b=>by obtain⟨x,_,rfl⟩:=t y b;obtain⟨i,_,k⟩:=q x b;exact⟨i,λ_=>ly k,λ_=>xy k⟩
 have l:∀{c:P},jP N c->∃r,HB ks E 6 c r:=λ{c} h=>by obtain⟨w,y,s,b,u,_,rfl⟩:=h;obtain⟨i,k⟩:=f b;obtain⟨j,d⟩:=EA t q u;exact Qp w k d
 rcases h with rfl|h|⟨p,h,rfl⟩|⟨p,z,h,g,rfl⟩
 .exact⟨_,Hc.up 7⟩
 .obtain⟨r,e⟩:=l h;exact⟨r,e.up 3⟩
 .obtain⟨r,e⟩:=l h;exact⟨_,Qo (e:=6) (e.up 2)⟩
 .obtain⟨r,e⟩:=l h;obtain⟨i,k⟩:=f g;obtain⟨s,v⟩:=Qp (ks:=ks) (E:=E) "=" (a:=mQ 1) (i:=1) ⟨λ_=>li 1,λ_=>uo 1⟩ k;exact⟨_,SQ (e:=6) (e.up 2) (Qq (e:=5) (Hc.up 5) (v.up 1))⟩
end
theorem xX:∀{ks:List cu}{E:List D},e ∉ ks->ks.length=E.length->p9 e s ks E=(ks++[e],E++[s])
 | [],[],_,_=>rfl
 | [],_::_,_,h=>by simp at h
 |_::_,[],_,h=>by simp at h
 |q::ks,v::E,h,l=>by show(if q=e then _ else _)=_;rw[ah λz=>h (by rw[z];exact aF),xX (λz=>h (aH _ z)) (by simpa using l)];rfl
theorem B_{H:Str->GF}(m t:Option D):∀{p v:List P}{K:List cu}{V:List P},(∀c ∈ p,isCel c)->v.length=p.length->(K++cF p).Nodup->K.length+p.length≤1000->K.length=V.length->∀f b:Option D,∃n k,
  bc (aY [ai 3,ai 4]) (gQ H) (rS p v) [m,t,qr 0,f,b] [.dct K (V.map .p)]=some (.nx,[m,t,qr 0,n,k],[.dct (K++cF p) ((V++v).map .p)])
 | [],v,K,V,_,l,_,_,_,f,b=>by cases i7 l;exact⟨f,b,by simp[rS,cF,bc]⟩
 |c::r,[],K,V,_,l,_,_,_,f,b=>by simp at l
 |c::r,d::s,K,V,z,l,g,hk,o,f,b=>by
  obtain⟨x,lo,i,a,_,_,_,_,_,rfl⟩:=z c aF;have j:(K++[(.inr x:cu)]++cF r).Nodup:=by rw[eD];exact g
  obtain⟨n,k,e⟩:=B_ (H:=H) m t (p:=r) (v:=s) (K:=K++[.inr x]) (V:=V++[d]) (λc h=>z c (aH _ h)) (by simpa using l) j (by simp at hk ⊢;lia) (by simp[o]) (qt [.str x,.int lo,.int i,.int a]) (O d);refine⟨n,k,?_⟩;rw[show K++cF (P.tup [.str x,.int lo,.int i,.int a]::r)=K++[.inr x]++cF r by rw[eD];rfl,show V++d::s=V++[d]++s by simp];have u:K.Nodup:=(nD.mp g).1;have S:(.inr x:cu) ∉ K:=λq=>(nD.mp g).2.2 _ q (.inr x) aF rfl;refine(bj (h:=[m,t,qr 0,qt [.str x,.int lo,.int i,.int a],O d]) (by simp) ?_).trans e;have w:K.length≤1000000:=by lia
  simp[gQ,jq,w8,mU,db,u,w,xX (s:=.p d) S (E:=V.map .p) (by simp[o])]
variable{n:Nat}
theorem y9(h:Fam z H g v p A d)(x:CellsOk p c)(r w:P) :
  bU (Ph (n+2) "_law_values") [d8 H g v p A d,.tup [r,.tup c,w]]=some (.dct (cF p) c):=by
 have s:=h.cl;have a:=x.1;obtain⟨q,k,e⟩:=B_ (H:=Ph (n+1)) (O (d8 H g v p A d)) (qt [r,.tup c,w]) (p:=p) (v:=c) (K:=[]) (V:=[]) h.hce.1 x.1 (jO h.hce) (by simp;lia) rfl none none;simp only[eB,eS]at e;have l:p.length≤c.length:=qx a.symm;have:tF (toP 8) (c.map .p) [SO.dct (cF p) (c.map .p)]=some (c,[SO.dct (cF p) (c.map .p)]):=l8 ..;rw[sQ,aw];simp[lJ,Kb,my,l,e,toP,this]
theorem zn(a b:Str):b9 (pd (.str a)) (pd (.str b))=decide (b=a):=by
 by_cases h:b=a
 .subst h;rw[fR rfl];exact beq_self_eq_true b
 .rw [be h];exact uY λq=>h q.symm
noncomputable def ss(r:Nat)(c:List P):P:=.tup [.int (r:Int),.tup c]
theorem GH{B:BD}(M:BP B){S y:List P}{k:Nat}{H:Str}{g:Nat}{v p A d:List P}(w:Fam B.roads H g v p A d)(E:(aU B.fams)[k]? = some (d8 H g v p A d)){r:Nat}{b F:List P}(I:r < v.length)(c:CellsOk p b)(G:S[k]? = some (.tup [.int (r:Int),.tup b,.tup F])){u:Str}(o:az u=true){l:P}(D:kO (qU p) l) :
  ∃t,(∀n,bU (Ph (n+10) "fits") [d8 H g v p A d,ss r b,.str u,l]=some (.bl t))/\∀n,bU (Ph (n+10) "_law_fits") [.tup [.lst B.fams,.lst B.roads,.lst B.wishes],.tup [.tup S,.tup y],.int (k:Int),.str u,l]=some (.bl t):=by
 obtain⟨h,K,C⟩:=Ds (mV w.hce.1) (qX c) D;have x:v[r]? = some v[r]:=bA I;obtain⟨e,i,m⟩:=w.hro v[r] (eC _);rw[m]at x;refine⟨(decide (u="") ||decide (u=e)) && h,λn=>?_,λn=>?_⟩
 .have s:=K n;have f:=t8 (n:=n+7) w c;rw[GN,aw];by_cases a:u=""
  .simp [oG,ss,a,s,f]
  .by_cases q:u=e
   .have j:¬e="":=λz=>a (q.trans z);simp[oG,ss,q,j,M9,bH x,s,f]
   .have j:¬e=u:=λz=>q z.symm;simp[oG,ss,a,q,j,M9,bH x]
 .have s:=C n;have f:=y9 (n:=n+7) w c (.int (r:Int)) (.tup F);have N:=wc (n:=n+7) M.hf M.f0.2 (.lst B.roads) (.lst B.wishes);have L:az ""=true:=by decide +kernel
  rw[wy,aw];simp[oD,N,bH E,bH G,M9,bH x,i_,jx,DQ,eQ,Hk,o,i,L,s,f,zn];by_cases a:u=""<;>by_cases q:u=e<;>simp[a,q]
def isOwn(q:P):Prop:=∃(r:Nat)(s:List P),q=ss r s/\∀c ∈ s,o4 c
theorem xA:∀{cs:List P},(∀c ∈ cs,o4 c)->Nk.kds (jD cs)=true
 | [],_=>rfl
 |c::r,h=>by obtain⟨j,rfl⟩:=h c aF;exact xA (cs:=r) λc hc=>h c (aH _ hc)
theorem isOwn.good(h:isOwn q):eY q=true:=by
 obtain⟨r,cs,rfl,hc⟩:=h;have h1:cm 8 (ss r cs)=true:=by have:cm 7 (.tup cs)=true:=bw.mpr λc h=>(hc c h).ok 6;show(cm 7 (.int (r:Int)) && (cm 7 (.tup cs) && true))=true;rw[this,v9];rfl
 have h2:Nk.kd (pd (ss r cs))=true:=by show(Nk.kd (pd (.int (r:Int))) && (Nk.kds (jD cs) && true))=true;rw[xA hc];rfl
 unfold eY;rw[h1,h2];rfl
theorem xQ:∀{s bs:List P},(∀a ∈ s,o4 a)->(∀a ∈ bs,o4 a)->rL (jD s) (jD bs)=true->s=bs
 | [],[],_,_,_=>rfl
 | [],_::_,_,_,h=>by cases (show false=true from h)
 |_::_,[],_,_,h=>by cases (show false=true from h)
 |a::s,b::bs,G,I,h=>by obtain⟨i,rfl⟩:=G a aF;obtain⟨j,rfl⟩:=I b aF;obtain⟨n,k⟩:=vx.mp (show((i == j) && rL (jD s) (jD bs))=true from h);rw[eq_of_beq n,xQ (λx e=>G x (aH _ e)) (λx e=>I x (aH _ e)) k]
theorem B4{q k:P}(h:isOwn q)(f:isOwn k)(e:b9 (pd q) (pd k)=true):q=k:=by obtain⟨r,n,rfl,m⟩:=h;obtain⟨s,c,rfl,x⟩:=f;obtain⟨b,a⟩:=vx.mp (show(((r:Int) == (s:Int)) && (rL (jD n) (jD c) && true))=true from e);rw[lY]at a;rw[xQ m x a,show r=s by have:=eq_of_beq b;lia]
theorem xh(h:isOwn q):b9 (pd q) (pd q)=true:=by have:=h.good;unfold eY at this;simp only[av]at this;exact qw _ (eX 8 q this.2.1).1
theorem JJ{k:P}(hk:isOwn k):∀{ks:List P},(∀q ∈ ks,isOwn q)->(xI k ks=true↔k ∈ ks):=λ{ks} h=>by
 constructor
 .intro q;obtain⟨x,a,e⟩:=lW.mp q;rw[<- B4 (h x a) hk e];exact a
 .exact λq=>lW.mpr ⟨k,q,xh hk⟩
theorem xw{k:P}(hk:isOwn k)(C:P->Bool):∀{ks:List P},(∀q ∈ ks,isOwn q)->k ∈ ks->um k ks (ks.map λq=>.p (.bl (C q)))=O (.bl (C k))
 | [],_,h=>by cases h
 |q::ks,h,m=>by
  show(if b9 (pd q) (pd k)=true then _ else _)=_;by_cases e:b9 (pd q) (pd k)=true
  .rw [af e,B4 (h q aF) hk e]
  .rw [ah e];refine xw hk C (λx a=>h x (aH _ a)) ?_;rcases aQ.mp m with z|z
   .subst z;exact absurd (xh hk) e
   .exact z
noncomputable def T4:Option P->Bool
 |some (.bl b)=>b
 |_=>false
def eW(y:P)(h:Nat):P:=.tup [xl (xl (xl y 0) h) 0,xl (xl (xl y 0) h) 1]
theorem xJ{a:List P}{h:Nat}{f:P}(x:(aU a)[h]? = some f):f ∈ a:=by obtain⟨p,_,e⟩:=o7 x;exact bq e
section
variable{B:BD}(M:BP B){H:Str}{g:Nat}{v p A d:List P}(w:Fam B.roads H g v p A d)(Q:d8 H g v p A d ∈ B.fams)
include M w Q
theorem FC{y:P}(k:gi B y){h:Nat}(z:h ∈ a_ B.N H):(aU B.fams)[h]? = some (d8 H g v p A d)/\∃(k s:List P)(r:Nat)(a w:List P),y=.tup [.tup k,.tup s]/\k[h]? = some (.tup [.int (r:Int),.tup a,.tup w])/\r < v.length/\CellsOk p a/\eW y h=ss r a/\isOwn (eW y h):=by
 have N:=ji.mp z;have o:h < (aU B.fams).length:=by have:=bx N;unfold BD.N aL at this;simpa using this
 obtain⟨k,s,rfl,S⟩:=k;obtain⟨f,x,m,u,_,_,_,_,_,_,n,r,a,w,rfl,t,b,K,F⟩:=S.at o;have j:f=d8 H g v p A d:=M.fd f (xJ m) _ Q (by have:=Qx m;rw[N]at this;exact(dH this).symm)
 rw[j]at m n;simp only[P.tup.injEq,iY,P.str.injEq,P.int.injEq,P.lst.injEq,kz]at n;obtain⟨_,_,rfl,rfl,_,_⟩:=n;have q:eW (.tup [.tup k,.tup s]) h=ss r a:=by simp[eW,u,ss]
 exact⟨m,k,s,r,a,w,rfl,u,t,b,q,by rw[q];exact⟨r,a,rfl,λc l=>by obtain⟨i,_,e⟩:=b.2 c l;exact⟨i,e⟩⟩⟩
theorem JP{u:Str}(x:az u=true){l:P}(m:kO (qU p) l):∃C:P->Bool,∀y,gi B y->∀h ∈ a_ B.N H,(∀n,bU (Ph (n+10) "fits") [d8 H g v p A d,eW y h,.str u,l]=some (.bl (C (eW y h))))/\∀n,bU (Ph (n+10) "_law_fits") [bg B,y,.int (h:Int),.str u,l]=some (.bl (C (eW y h))):=by refine⟨λo=>T4 (bU (Ph (0+10) "fits") [d8 H g v p A d,o,.str u,l]),λy k h i=>?_⟩;obtain⟨q,k,s,r,z,S,rfl,b,j,c,e,_⟩:=FC M w Q k i;obtain⟨t,a,f⟩:=GH M (y:=s) w q j c b x m;dsimp only;rw[e,a 0];exact⟨a,f⟩
end
noncomputable def yW:LS:=["board","standings","around","dries"]
structure Sc(B:BD)(web:List P)(td:P->Bool)(b i j:Nat)(S:aA):Prop where
 bd:Bd B b j S
 sc:∃dr,S[i]? = some (.ins "Scene" yW [.ref j,.p (.lst web),.ref i,dr])/\(dr=.p .non\/dr=.p (.lst (web.map λs=>.bl (td s))))
 hi:i < b
theorem Sc.fr(h:Sc B x t b i j S)(f:Fr b S s):Sc B x t b i j s:=by
 obtain⟨dr,e,hd⟩:=h.sc;refine⟨h.bd.fr f,⟨dr,?_,hd⟩,h.hi⟩;rcases f.low i _ h.hi e with e|⟨_,q,_⟩
 .exact e
 .cases q
theorem nQ:aT Att "Scene" "board"=true/\aT Att "Scene" "standings"=true/\aT Att "Scene" "around"=true/\aT Att "Scene" "dries"=true:=by decide +kernel
theorem IG:gZ "board" yW [a,b,c,e]=some a/\gZ "standings" yW [a,b,c,e]=some b/\gZ "dries" yW [a,b,c,e]=some e:=by simp[gZ,yW]
section
variable{B:BD}{x:List P}{t:P->Bool}{b i j:Nat}{S:aA}{o:EE}{L:Lc}(h:Sc B x t b i j S)(k:o L S=some (.ref i,S))
include h k
theorem Sc.board:cc (aT Att) o "board" L S=some (.ref j,S):=by obtain⟨dr,e,_⟩:=h.sc;rw[cc,k,am];simp only[e,nQ,IG,gw];rfl
theorem Sc.stand:cc (aT Att) o "standings" L S=some (.p (.lst x),S):=by obtain⟨dr,e,_⟩:=h.sc;rw[cc,k,am];simp only[e,nQ,IG,gw];rfl
end
def kW(C:P->Bool)(N:LS)(H:Str)(y:P):Nat:=((a_ N H).filter λh=>C (eW y h)).length
structure KN(b kd kn:Nat)(S0:aA)(fv:P->Bool)(acc:List P)(m:Nat)(S:aA):Prop where
 fr:Fr b S0 S
 kw:∃ks,S[kd]? = some (.dtn ks (ks.map λq=>.p (.bl (fv q))))/\ks.length≤m/\∀q ∈ ks,isOwn q
 ac:S[kn]? = some (.lst (acc.map .p))
abbrev Q8(i j kd k:Nat)(u l f:P)(h x a q:Option D):Lc:=[qr i,qr j,O u,O l,O f,qr kd,qr k,h,x,a,q]
section
variable{B:BD}(M:BP B){H:Str}{g:Nat}{v p A d:List P}(w:Fam B.roads H g v p A d)(Q:d8 H g v p A d ∈ B.fams){u:Str}{l:P}{C:P->Bool}(T:∀y,gi B y->∀h ∈ a_ B.N H,∀n,bU (Ph (n+10) "fits") [d8 H g v p A d,eW y h,.str u,l]=some (.bl (C (eW y h))))
include M w Q T
theorem KU{b i jm kd G:Nat}{W:aA}(I:b≤W.length)(hkd:W.length≤kd)(hkn:W.length≤G)(hne:kd≠G){L:List P}{y:P}(hs:gi B y){n:Nat}:∀{hl:List Nat},(∀h ∈ hl,h ∈ a_ B.N H)->∀{m:Nat},m+hl.length≤100000->∀(c:Int)(q9 t:Option D)(S:aA),KN b kd G W C L m S ->
  ∃V j S',KN b kd G W C L (m+hl.length) S'/\bc (ai 9) (eK (Ph (n+10))) (bJ hl) (Q8 i jm kd G (.str u) l (d8 H g v p A d) (O y) (qi c) q9 t) S=some (.nx,Q8 i jm kd G (.str u) l (d8 H g v p A d) (O y) (qi (c+((hl.filter λh=>C (eW y h)).length:Int))) V j,S')
 | [],_,m,_,c,q9,t,S,N=>⟨q9,t,S,N,by simp[bJ,bc]⟩
 |h::r,hh,m,hm,c,q9,t,S,N=>by
  simp only[aR]at hm;obtain⟨hf,s,a,r',cs,ws,rfl,g2,hr1,hcs,e2,f⟩:=FC M w Q hs (hh h aF);let F:=Q8 i jm kd G (.str u) l (d8 H g v p A d)
  obtain⟨ks,e3,hkl,K⟩:=N.kw;have ef:=T _ hs h (hh h aF) n;have R:=f.good;have hga:ks.all eY=true:=bw.mpr λq hq=>(K q hq).good;have Z:ks.length≤1000000:=by lia
  have e1:(U (kH (Y (Y j0 bZ) jC) gH (fJ dD))) (F (qt [.tup s,.tup a]) (qi c) (qi (h:Int)) t) S=some (.p (eW (.tup [.tup s,.tup a]) h),S):=by rw[e2];simp[F,bH g2,ss,show cut [P.int (r':Int),.tup cs,.tup ws] none (some 2)=[P.int (r':Int),.tup cs] from lH 2]
  generalize hO:eW (.tup [.tup s,.tup a]) h=o at *
  have mid:∃E k,E[kd]? = some (.dtn k (k.map λq=>.p (.bl (C q))))/\k.length≤m+1/\(∀q ∈ k,isOwn q)/\o ∈ k/\Fr b W E/\E[G]? = some (.lst (L.map .p))/\∀X,(b8 (bV (cP kP i8 BF)) (w5 BF gp (bL (Ph (n+10) "fits") (v4 gB gp b_ cD))) cN) (F (O X) (qi c) (qi (h:Int)) (O o)) S=some (.nx,F (O X) (qi c) (qi (h:Int)) (O o),E):=by
   by_cases q:xI o ks=true
   .refine⟨S,ks,e3,by lia,K,(JJ f K).mp q,N.fr,N.ac,λX=>?_⟩;simp[F,kP,PJ,su,e3,R,hga,q]
   .have q':xI o ks=false:=by simpa using q
    refine⟨S.set kd (.dtn (ks++[o]) ((ks.map λq=>D.p (.bl (C q)))++[.p (.bl (C o))])),ks++[o],?_,by simp;lia,λx hx=>?_,by simp,N.fr.set I hkd _,?_,λX=>?_⟩
    .rw [gc e3];simp
    .rcases cI.mp hx with z|z
     .exact K x z
     .rw [fU.mp z];exact f
    .rw [aO hne];exact N.ac
    .simp [F,kP,PJ,su,e3,R,hga,q',w5,ef,Z]
  obtain⟨E,k,k1,k2,k3,k4,k5,k6,k7⟩:=mid;have hlk:=xw f C k3 k4;obtain⟨V,j,S',hK',e⟩:=KU I hkd hkn hne hs (n:=n) (hl:=r) (λx hx=>hh x (aH _ hx)) (m:=m+1) (by lia) (c+if C o=true then 1 else 0) (qi (h:Int)) (O o) E ⟨k5,⟨k,k1,k2,k3⟩,k6⟩;refine⟨V,j,S',by rw[aR,show m+(r.length+1)=m+1+r.length by lia];exact hK',?_⟩;have hc:(((h::r).filter λh=>C (eW (.tup [.tup s,.tup a]) h)).length:Int)=(if C o=true then 1 else 0)+((r.filter λh=>C (eW (.tup [.tup s,.tup a]) h)).length:Int):=by rw[nA,hO];cases C o<;>simp;lia
  rw[hc,<- uM];refine(bj (h:=F (qt [.tup s,.tup a]) (qi c) (qi (h:Int)) t) rfl ?_).trans e;unfold eK;rw[ak (e:=F (qt [.tup s,.tup a]) (qi c) (qi (h:Int)) (O o)) (c:=S) (by rw[aq,e1];rfl),ak (k7 _)];have ht:(bT (JV BF gp)) (F (qt [.tup s,.tup a]) (qi c) (qi (h:Int)) (O o)) E=some (C o,E):=by have hga2:∀x:P,x ∈ k->eY x=true:=λq hq=>(k3 q hq).good;simp[F,su,k1,R,hlk];rw[af hga2];rfl
  rw[b8,ht];cases C o
  .simp [F]
  .simp [F,yX]
theorem P2{x:List P}(hw:∀y ∈ x,gi B y)(hwl:x.length≤100){t:P->Bool}{n b i j z:Nat}{S:aA}(hS:Sc B x t b i j S)(hm:kj S z (bJ (a_ B.N H)))(hjm:z < b) :
  ∃k E,Ph (n+11) "fitting_numbers" [.ref i,.ref z,.p (.str u),.p l] S=some (.ref k,E)/\Fr b S E/\S.length≤k/\E[k]? = some (.lst ((x.map λy=>P.int (kW C B.N H y:Int)).map .p)):=by
 have hcl:(a_ B.N H).length≤4:=aI (dW _ _) (lD M);have I:=hS.bd.le;have hnm:H ∈ B.N:=CO M Q;obtain⟨h0,hh0⟩:=List.mem_iff_getElem?.mp hnm;have hc0:h0 ∈ a_ B.N H:=ji.mpr hh0;obtain⟨W,r1,hcr⟩:∃W r1,a_ B.N H=W::r1:=by
  cases e:a_ B.N H with
  |nil=>rw[e]at hc0;cases hc0
  |cons a r=>exact⟨a,r,rfl⟩
 have hf1:(aU B.fams)[W]? = some (d8 H g v p A d):=by
  have hN:B.N[W]? = some H:=ji.mp (by rw[hcr];exact aF);unfold BD.N aL at hN;rw[dJ]at hN;cases e:(aU B.fams)[W]? with
  |none=>rw[e]at hN;cases hN
  |some f=>rw[e]at hN;rw[M.fd f (xJ e) _ Q (dH hN)]
 let F:=Q8 i z S.length (S.length+1) (.str u) l (d8 H g v p A d)
 let R:aA:=S++[.dtn [] []]++[.lst []]
 have JM:Fr b S R:=(Fr.app b S _).trans (Fr.app b _ _);have hl0:R.length=S.length+2:=by simp[R]
 have loop:∀(V:List P),(∀y ∈ V,gi B y)->∀(c:List P)(m:Nat),c.length+V.length≤100->m+4 * V.length≤1000->∀(q7 q8 N q:Option D)(L:aA),KN b S.length (S.length+1) S C c m L ->
   ∃q7' q8' q9' o E,Fr b S E/\E[S.length+1]? = some (.lst ((c++V.map λy=>P.int (kW C B.N H y:Int)).map .p))/\bc (ai 7) (eJ (Ph (n+10))) V (F q7 q8 N q) L=some (.nx,(F q7' q8' q9' o),E):=by
  intro V;induction V with
  |nil=>exact λ_ c m _ _ q7 q8 N q L X=>⟨q7,q8,N,q,L,X.fr,by simpa using X.ac,rfl⟩
  |cons y V ih=>
   intro hws c m G hm' q7 q8 N q L X;simp only[aR]at G hm';have hma:=hm.fr X.fr;obtain⟨ks,e3,hkl,hko⟩:=X.kw;have hK2:KN b S.length (S.length+1) S C c m (L.set z (.fz (.lst (bJ (a_ B.N H))))):=⟨X.fr.trans (Fr.frz hjm hma),⟨ks,by rw[aO (by lia)];exact e3,hkl,hko⟩,by rw[aO (by lia)];exact X.ac⟩;obtain⟨q9',o,S2,K,e4⟩:=KU M w Q T (i:=i) (jm:=z) I (al _) (ny _ 1) (by lia) (hws y aF) (n:=n) (hl:=a_ B.N H) (λ_ h=>h) (m:=m) (by lia) 0 N q _ hK2;have happ:c.length≤1000000:=by lia
   obtain⟨ks3,e5,hkl3,hko3⟩:=K.kw;obtain⟨q7',q8',q9'',Z,S3,f3,a3,e6⟩:=ih (λs h=>hws s (aH _ h)) (c++[P.int (kW C B.N H y:Int)]) (m+4) (by simp;lia) (by lia) (O y) (O (P.int (kW C B.N H y:Int))) q9' o (S2.set (S.length+1) (.lst ((c++[P.int (kW C B.N H y:Int)]).map .p))) ⟨K.fr.set I (ny _ 1) _,⟨ks3,by rw[aO (by lia)];exact e5,by lia,hko3⟩,gc K.ac⟩;refine⟨q7',q8',q9'',Z,S3,f3,by rw[a3];simp,?_⟩;refine(bj (h:=(F (O y) q8 N q)) rfl ?_).trans e6;unfold eJ;rw[ak (e:=F (O y) (qi 0) N q) (c:=L) rfl];rw[ak (by rw[bE,fK,show bI (F (O y) (qi 0) N q) L=some (.lst (bJ (a_ B.N H)),L.set z (.fz (.lst (bJ (a_ B.N H))))) from hma.frz];exact e4)]
   rw[cG];exact jX rfl K.ac rfl K.ac happ
 obtain⟨q7,q8,N,q,E,f',a',e'⟩:=loop x hw [] 0 (by simp;lia) (by lia) none none none none R ⟨JM,⟨[],by simp[R],by simp,λ_ h=>(by cases h)⟩,by simp[R]⟩;refine⟨S.length+1,E,?_,f',ny _ 1,by simpa using a'⟩;rw[mi];show cE (fN _ [qr i,qr z,qs u,O l,none,none,none,none,none,none,none] S)=_;unfold fN;have efam:dU (mT Tb (Ph (n+10))) (cc (aT Att) cC "board") "family_of" (DO (oK gj bZ)) [qr i,qr z,qs u,O l,none,none,none,none,none,none,none] S=some (.p (d8 H g v p A d),S):=by have ex:oK gj bZ [qr i,qr z,qs u,O l,none,none,none,none,none,none,none] S=some (.p (.int (W:Int)),S):=hm.ix rfl rfl (by rw[hcr];exact Hd _ _);obtain⟨jh,jp,jl,jmm,mk,mv,hBt⟩:=hS.bd;rw[hBt.meth (hS.board rfl) (Px _) P5 (l:=[.p (.int (W:Int))]) (by unfold DO;rw[bY,ex];rfl)];exact wm (n:=n+8) hS.bd hf1
 rw[ak (by rw[aq,efam];rfl)];rw[ak (e:=[qr i,qr z,qs u,O l,O (d8 H g v p A d),qr S.length,none,none,none,none,none]) (c:=S++[.dtn [] []]) rfl];rw[ak (e:=(F none none none none)) (c:=R) (by simp[F,R])];rw[ak (by rw[bE,fK,vE,(hS.fr JM).stand rfl];exact e')]
 rfl
end
noncomputable abbrev bs(t:P->Bool)(x:List P):List P:=x.map λy=>.bl (t y)
theorem ol{m:Type}{g:ki}{e:EV}{Inv:Lc->Prop}{Sp:aA->Prop}{F G:m->P}:∀{x:List m}{L:Lc}{S:aA},(∀y ∈ x,∀L S,Inv L->Sp S->∃a n,g (F y) L=some a/\Inv a/\e a S=some (G y,n)/\Sp n)->Inv L->Sp S->∃s,bG g dF e (x.map F) L S=some (x.map G,s)/\Sp s
 | [],L,S,_,_,k=>⟨S,rfl,k⟩
 |v::r,L,S,f,h,k=>by obtain⟨a,n,b,i,c,p⟩:=f v aF L S h k;obtain⟨s,t,q⟩:=ol (x:=r) (λw hw=>f w (aH _ hw)) i p;exact⟨s,by simp[bG,b,c,t],q⟩
theorem pe{m:Type}{i:ko}{g:ki}{e:EV}{x:List m}{F G:m->P}{L:Lc}{S k:aA}{Sp:aA->Prop}(c:i L S=some (x.map F,k))(hw:x.length≤1000){n:Nat}{Inv:Lc->Prop}(r:∀y ∈ x,∀L S,Inv L->Sp S->∃s a,g (F y) L=some s/\Inv s/\e s S=some (G y,a)/\Sp a)(h:Inv (lZ [] n L))(b:Sp k):∃a,aX i [] n g dF e L S=some (.lst (x.map G),a)/\Sp a:=by
 obtain⟨a,f,t⟩:=ol (x:=x) (F:=F) (G:=G) r h b;have q:(x.map F).length≤1000000:=by rw[aZ];lia
 exact⟨a,by rw[aX,c,am,af (by rw[j5];exact q),f];rfl,t⟩
theorem om{m:Type}{i:ko}{e:EV}{x:List m}{F G:m->P}{L:Lc}{S h:aA}{k:Nat}(r:i L S=some (x.map F,h))(hw:x.length≤1000)(p:∀y ∈ x,e (L++[O (F y)]) h=some (G y,h))(hk:L.length=k:=by rfl):aX i [] 1 (ai k) dF e L S=some (.lst (x.map G),h):=by
 obtain⟨v,c,rfl⟩:=pe (g:=ai k) (e:=e) (n:=1) (Sp:=λb=>b=h) (Inv:=λf=>∃q,f=L++[q]) (G:=G) r hw (λy s f b ⟨q,t⟩ a=>by subst t a hk;exact⟨_,_,rfl,⟨O (F y),by simp⟩,by simpa using p y s,rfl⟩) ⟨none,rfl⟩ rfl
 exact c
theorem gf{c:EB}{a:EE}{r:ES}{L:Lc}{S:aA}(h:c L S=some (true,S)):cE (ag (b8 c (au a) cN) r L S)=cE (au a L S):=by
 have:b8 c (au a) cN L S=au a L S:=by rw[b8,h];rfl
 rw[ag,this,au];cases a L S<;>rfl
theorem b6{c:EB}{x r:ES}{L:Lc}{S:aA}(h:c L S=some (false,S)):ag (b8 c x cN) r L S=r L S:=by
 have:b8 c x cN L S=some (.nx,L,S):=by rw[b8,h];rfl
 exact ak this
def N1(S h:aA)(d:D)(y:List P):Prop:=∃k,S.length≤k/\d=.ref k/\h[k]? = some (.lst (y.map .p))
section
variable{B:BD}(M:BP B){H:Str}{g:Nat}{v p A d:List P}(w:Fam B.roads H g v p A d)(Q:d8 H g v p A d ∈ B.fams){u:Str}{l:P}{C:P->Bool}(T:∀y,gi B y->∀h ∈ a_ B.N H,∀n,bU (Ph (n+10) "fits") [d8 H g v p A d,eW y h,.str u,l]=some (.bl (C (eW y h))))
include M w Q T
theorem Gr{s:Str}{o:List P}{h:P->Bool}(hk:(s="some"/\h=λy=>decide (0 < (kW C B.N H y:Int)))\/(s="all"/\h=λy=>decide ((kW C B.N H y:Int)=((a_ B.N H).length:Int)))\/(s="many"/\∃(a:Str) (z:Int),o=[.str a,.int z]/\∀y n,bU (Ph (n+2) "compared") [.str a,.int (kW C B.N H y:Int),.int z]=some (.bl (h y))))
  {x:List P} (hw:∀y ∈ x,gi B y) (X:x.length≤100) {t:P->Bool}{n b i j:Nat}{S:aA} (v:Sc B x t b i j S) :
  ∃d K,Ph (n+12) "hand_truths" [.ref i,.p (.tup (.str s::.str H::.str u::l::o))] S=some (d,K)/\Fr b S K/\N1 S K d (bs h x):=by
 have I:=v.bd.le;have W:H ∈ B.N:=CO M Q;obtain⟨jh,jp,jl,jmm,mk,mv,c⟩:=id v.bd;obtain⟨q,E,N,r⟩:=c.mm H W;obtain⟨k,S1,e1,f1,R,Z⟩:=P2 M w Q T hw X (n:=n) v r E;generalize p:P.tup (.str s::.str H::.str u::l::o)=f;obtain⟨m,e2,D⟩:=mD (b:=b) (g:=Ph (n+11) "fitting_numbers") (q:=QB cC CT tt BF) (L:=[qr i,O f,qs s,qs H,qs u,O l,qr q,none]) (S:=S) (l:=[.ref i,.ref q,.p (.str u),.p l]) rfl e1 f1 I (.inr ⟨k,R,rfl,.inl Z⟩);have V:=r.fr D;refine⟨.ref m.length,m++[.lst ((bs h x).map .p)],?_,D.trans (Fr.app _ _ _),m.length,D.len,rfl,dR _ _⟩;rw[p6];show cE (iR _ [qr i,O f,none,none,none,none,none,none] S)=_;unfold iR;rw[ak (e:=[qr i,O f,qs s,qs H,qs u,O l,none,none]) (c:=S) (by rw[<- p];simp[show cut (.str s::.str H::.str u::l::o) none (some 4)=[.str s,.str H,.str u,l] from lH 4])]
 rw[ak (e:=[qr i,O f,qs s,qs H,qs u,O l,qr q,none]) (c:=S) (by rw[aq,oK,c.members (v.board rfl)];simp[c.me,db,N])]
 rw[ak (e:=[qr i,O f,qs s,qs H,qs u,O l,qr q,ql (x.map λy=>.int (kW C B.N H y:Int))]) (c:=m) (by rw[aq,U,e2];rfl)];have A:=λ(e:EV) he=>om (k:=8) (i:=fK j0) (e:=e) (L:=[qr i,O f,qs s,qs H,qs u,O l,qr q,ql (x.map λy=>.int (kW C B.N H y:Int))]) (S:=m) (F:=λy=>.int (kW C B.N H y:Int)) (G:=λy=>.bl (h y)) rfl (by lia) he;rcases hk with ⟨rfl,rfl⟩|⟨rfl,rfl⟩|⟨rfl,a,z,rfl,hc⟩
 .rw [gf (by simp),au,iF,A _ λy _=>by simp];rfl
 .rw [b6 (by simp),gf (by simp),au,iF,A _ λy _=>by simp[V.len,bJ]];rfl
 .rw [b6 (by simp),b6 (by simp),au,iF,A _ fun y _=>by
   have x1:=hc y (n+9);simp[<- p,Nw,QS,x1]]
  rfl
end
section
variable{m:Type}(f:m->Bool)
theorem K1:∀s:List m,((s.map λh=>P.bl (f h)).any λy=>b9 (pd y) (pd (.bl true)))=decide (0 < ((s.filter f).length:Int))
 | []=>rfl
 |x::r=>by
  rw[aG,dI,K1 r,nA];cases f x
  .rfl
  .show (true ||_)=_;rw[vu,af rfl,aR];exact(fR (by lia)).symm
theorem K2:∀s:List m,(!((s.map λh=>P.bl (f h)).any λy=>b9 (pd y) (pd (.bl false))))=decide (((s.filter f).length:Int)=(s.length:Int))
 | []=>rfl
 |x::r=>by
  have l:=ig f r;rw[aG,dI,nA];cases f x
  .show (!(true ||_))=_;rw[vu,ah (by simp),aR];exact(be (by lia)).symm
  .show (!(false ||_))=_;rw[nH,K2 r,af rfl,aR,aR];exact uZ.mpr (by lia)
theorem KY:∀s:List m,((jD (s.map λh=>P.bl (f h))).countP λz=>b9 z (pd (.bl true)))=(s.filter f).length
 | []=>rfl
 |x::r=>by
  rw[aG,jD,List.countP_cons,KY r,nA];cases f x
  .rfl
  .rfl
theorem MA(s:List m):(s.map λh=>P.bl (f h)).all (cm 19)=true:=bw.mpr λy x=>by obtain⟨h,_,rfl⟩:=bN.mp x;rfl
end
theorem xc{a n:Nat}{b:ES}{s:List P}(h:s.length=a):bU (m5 a n b) s=(cE (b (s.map (λp=>O p)++List.replicate (n-s.length) none) [])).bind λz=>(toP 9 z.1 z.2).map (·.1):=by
 unfold bU m5;rw [aZ,af h,lU];show (match cE (b (s.map (fun p=>some (D.p p))++List.replicate (n-s.length) none) []) with
  |some (d,S)=>(toP 9 d S).map (λ(x:P×aA)=>x.1)
  |none=>none)=_
 cases cE (b (s.map (λp=>some (D.p p))++List.replicate (n-s.length) none) [])<;>rfl
section
variable{B:BD}(M:BP B){H:Str}{u:Str}{l:P}{C:P->Bool}{y:P}(T:∀h ∈ a_ B.N H,∀n,bU (Ph (n+10) "_law_fits") [bg B,y,.int (h:Int),.str u,l]=some (.bl (C (eW y h))))
include M T
theorem FY{k:Str}{c:List P}{t:P->Bool}(hk:(k="some"/\t=λy=>decide (0 < (kW C B.N H y:Int)))\/(k="all"/\t=λy=>decide ((kW C B.N H y:Int)=((a_ B.N H).length:Int)))\/(k="many"/\∃(w:Str) (z:Int),c=[.str w,.int z]/\∀n,bU (Ph (n+2) "_law_relation") [.str w,.int (kW C B.N H y:Int),.int z]=some (.bl (t y))))(n:Nat) :
  bU (Ph (n+11) "_law_plain") [bg B,y,.tup (.str k::.str H::.str u::l::c)]=some (.bl (t y)):=by
 have o:(a_ B.N H).length≤4:=aI (dW _ _) (lD M);have q:=pb (n:=n+7) M.hf M.f0.2 (.lst B.roads) (.lst B.wishes) H;generalize f:P.tup (.str k::.str H::.str u::l::c)=a;have m:=K1 (λh=>C (eW y h)) (a_ B.N H);have r:=K2 (λh=>C (eW y h)) (a_ B.N H);have p:=KY (λh=>C (eW y h)) (a_ B.N H);have s:=MA (λh=>C (eW y h)) (a_ B.N H);have e:sW a (.int 0)=some (.str k):=by rw[<- f];simp
 have b:¬k="true"/\¬k="dry"/\¬k="letters":=by rcases hk with ⟨rfl,_⟩|⟨rfl,_⟩|⟨rfl,_⟩<;>simp
 rw[ip,xc (a:=3) rfl];show(cE (eO _ [O (bg B),O y,O a,none] [])).bind _=_;unfold eO;rw[b6 (by simp[e,b]),b6 (by simp[e,b]),b6 (by simp[e,b]),ak (by rw[aq,U,om (h:=[]) (x:=a_ B.N H) (F:=λ(h:Nat)=>P.int (h:Int)) (G:=λh=>.bl (C (eW y h))) (by simp[<- f,q];rfl) (by lia) λh S=>by simp[<- f,T h S n]];rfl)];generalize i:(a_ B.N H).map (λh=>P.bl (C (eW y h)))=bs at m r p s ⊢;have g:Hk (.bl true) (.lst bs)=some (decide (0 < (kW C B.N H y:Int))):=by show(if (bs.all (cm 19) && cm 19 (.bl true))=true then _ else _)=_;rw[s];exact dh some m
 have v:Hk (.bl false) (.lst bs)=some (!decide ((kW C B.N H y:Int)=((a_ B.N H).length:Int))):=by show(if (bs.all (cm 19) && cm 19 (.bl false))=true then _ else _)=_;rw[s];exact dh some (by rw[show decide ((kW C B.N H y:Int)=((a_ B.N H).length:Int))=_ from r.symm,Bool.not_not])
 have d:G1 bs (.bl true)=some (kW C B.N H y):=by unfold G1;rw[s];exact dh some p
 rcases hk with ⟨rfl,rfl⟩|⟨rfl,rfl⟩|⟨rfl,w,z,rfl,j⟩
 .rw [gf (by simp[e])];simp[i_,jx,DQ,g,cE]
 .rw [b6 (by simp[e]),gf (by simp[e])];simp[j4,DQ,v,cE]
 .rw [b6 (by simp[e]),b6 (by simp[e])];have K:=j (n+8);simp[d,<- f,Nw,QS,K,cE]
end
def isM(mk:Str)(l:P):Bool:=decide (mk="") ||decide (bu l=mk)
def Nm(mk:Str)(r:P):Int:=(((Ls r).filter (isM mk)).length:Int)
noncomputable def sumK(f:Nat->Int):List Nat->Int
 | []=>0
 |k::r=>f k+sumK f r
def mW(r:List P)(mk:Str)(k:Nat):Int:=Nm mk (r[k]?.getD .non)
def Ks(y:P):List P:=Ls (xl y 1)
theorem sY{m:Type}{g:ki}{c:EB}{e:EV}{Inv:Lc->Prop}{S:aA}{p:m->Bool}{F f:m->P}:∀{s:List m}{L:Lc},(∀v ∈ s,∀L,Inv L->∃x,g (F v) L=some x/\Inv x/\c x S=some (p v,S)/\(p v=true->e x S=some (f v,S)))->Inv L ->
  bG g c e (s.map F) L S=some ((s.filter p).map f,S)
 | [],L,_,h=>rfl
 |v::r,L,t,h=>by
  obtain⟨x,n,i,a,q⟩:=t v aF L h;have b:=sY (s:=r) (L:=x) (λw hw=>t w (aH _ hw)) i;cases k:p v with
  |false=>rw[k]at a;simp[bG,n,a,b,k]
  |true=>rw[k]at a;simp[bG,n,a,b,k,q k]
theorem Cd{z:Str->GF}{B:BD}{d:List P}(j:bR B d)(s:P)(mk:Str)(l:P):∀(ks:List Nat),(∀k ∈ ks,k < d.length)->∀(c:Int)(n:Option D),∃a,bc (ai 4) (fj z) (bJ ks) [qt [s,.tup d],O l,qs mk,qi c,n] []=some (.nx,[qt [s,.tup d],O l,qs mk,qi (c+sumK (mW d mk) ks),a],[])
 | [],_,c,n=>⟨n,by simp[bJ,bc,sumK]⟩
 |k::r,h,c,n=>by
  have hk:=h k aF;have b:d[k]? = some d[k]:=bA hk;obtain⟨y,u,e⟩:=j.2 d[k] (eC _);rw[e]at b;obtain⟨a,o⟩:=Cd (z:=z) j s mk l r (λx K=>h x (aH _ K)) (c+mW d mk k) (qi (k:Int));refine⟨a,?_⟩;rw[show c+sumK (mW d mk) (k::r)=c+mW d mk k+sumK (mW d mk) r by rw[uM];rfl];refine(bj (h:=[qt [s,.tup d],O l,qs mk,qi c,qi (k:Int)]) rfl ?_).trans o;have t:=cT (g:=ai 5) (c:=tX (aK gq (U (vt ""))) (aK (U (Y iy bZ)) gq)) (e:=vv 5) (S:=[]) (p:=isM mk) (f:=id) (Inv:=λL=>∃q,L=[qt [s,.tup d],O l,qs mk,qi c,qi (k:Int),q]) (s:=y) (λv F L A=>by obtain⟨q,H⟩:=A;subst H;obtain⟨m,i,E,_,rfl⟩:=u.2 v F;exact⟨_,rfl,⟨_,rfl⟩,by by_cases C:mk=""<;>simp[isM,bu,C]<;>rfl,λ_=>rfl⟩) ⟨none,rfl⟩
  rw[i5]at t;have w:y.length≤1000000:=by have:=u.1;lia
  unfold fj;simp[yX,aX,lZ,bH b,t,di,d5,mW,Nm,b,w]
theorem PC(x:bR B r)(s:P)(mk:Str)(h:∀k ∈ ks,k < r.length)(n:Nat):bU (Ph (n+2) "letter_number") [.tup [s,.tup r],.lst (bJ ks),.str mk]=some (.int (sumK (mW r mk) ks)):=by obtain⟨q,e⟩:=Cd (z:=Ph (n+1)) x s mk (.lst (bJ ks)) ks h 0 none;rw[cG]at e;rw[oa,aw];simp[jW,e]
def sG(B:BD)(a b:Str)(k:Nat):Bool:=decide (a=rA (xl (B.PR[k]?.getD .non) 0)) && decide (b=rB (xl (B.PR[k]?.getD .non) 0))
def C_(B:BD)(a b:Str):List Nat:=(List.range B.PR.length).filter (sG B a b)
noncomputable def NP(B:BD)(k:Nat):P:=.tup [.int (k:Int),(B.PR[k]?).getD .non]
theorem Ux{a b c d:Str}(G:az a=true)(I:az b=true)(h:az c=true)(hd:az d=true):Cz (.tup [.str a,.str b]) (.tup [.str c,.str d])=some (decide (c=a) && decide (d=b)):=by unfold Cz;show(if (cm 20 (.tup [.str a,.str b]) && cm 20 (.tup [.str c,.str d]))=true then some (b9 (pd (.tup [.str a,.str b])) (pd (.tup [.str c,.str d]))) else none)=_;rw[af (by simp[G,I,h,hd]),show b9 (pd (.tup [.str a,.str b])) (pd (.tup [.str c,.str d]))=(b9 (pd (.str a)) (pd (.str c)) && (b9 (pd (.str b)) (pd (.str d)) && true)) from rfl,zn,zn,lY]
section
variable{B:BD}(M:BP B){a b:Str}(G:az a=true)(I:az b=true)
include M G I
theorem Kt{k:Nat}(hk:k < B.PR.length):∃(r:P)(t:List P)(x y:Str)(u:List P),(B.PR[k]?).getD .non=.tup (r::t)/\r=.tup (.str x::.str y::u)/\Cz (.tup [.str x,.str y]) (.tup [.str a,.str b])=some (sG B a b k):=by have h:B.PR[k]? = some B.PR[k]:=bA hk;obtain⟨r,f,i,j,e⟩:=tf (B:=B) (eC hk);obtain⟨x,y,kd,c,d,n,m,p,_,_,_,s⟩:=M.hr r f;rw[e]at h;refine⟨r,_,x,y,[.str kd,.int c,.bl d,.bl n],by rw[h];rfl,s,?_⟩;rw[Ux m p G I];unfold sG;rw[h,s];rfl
theorem Ci{ψ:Str->GF}{d:List P}(Q:bR B d)(l H:P){mk:Str}(X:az mk=true)(w:Str)(z:Int):∀(ks:List Nat),(∀k ∈ ks,k < B.PR.length)->∀(c:Int)(K A:Option D),∃s n,bc (aY [ai 4,ai 5]) (hU ψ) (ks.map (NP B)) [O H,qt [l,.tup d],qt [.str "letters",.str a,.str b,.str mk,.str w,.int z],qi c,K,A] []=some (.nx,[O H,qt [l,.tup d],qt [.str "letters",.str a,.str b,.str mk,.str w,.int z],qi (c+sumK (mW d mk) (ks.filter (sG B a b))),s,n],[])
 | [],_,c,K,A=>⟨K,A,by simp[bc,sumK]⟩
 |k::r,h,c,K,A=>by
  have hk:=h k aF;obtain⟨ro,t,x,y,u,e0,er,F⟩:=Kt M G I hk;subst er;have E:k < d.length:=by rw[Q.1];exact hk
  have C:d[k]? = some d[k]:=bA E;obtain⟨ls,W,e⟩:=Q.2 d[k] (eC _);rw[e]at C;obtain⟨s,n,e2⟩:=Ci (ψ:=ψ) Q l H X w z r (λx hx=>h x (aH _ hx)) (c+if sG B a b k=true then mW d mk k else 0) (qi (k:Int)) (qt (.tup (.str x::.str y::u)::t));refine⟨s,n,?_⟩;have o:c+sumK (mW d mk) ((k::r).filter (sG B a b))=c+(if sG B a b k=true then mW d mk k else 0)+sumK (mW d mk) (r.filter (sG B a b)):=by
   rw[nA];cases sG B a b k
   .simp
   .rw [af rfl,af rfl,uM];rfl
  rw [o];refine (bj (h:=[O H,qt [l,.tup d],qt [.str "letters",.str a,.str b,.str mk,.str w,.int z],qi c,qi (k:Int),qt (.tup (.str x::.str y::u)::t)]) (by rw [NP,e0];rfl) ?_).trans e2;have V:=cT (g:=ai 6) (c:=bV (cP i_ (U (Y b_ gY)) (U (aW (v2 (vt "") (Y g6 bZ)))))) (e:=vv 6) (S:=[]) (p:=isM mk) (f:=id) (Inv:=fun L=>∃q,L=[O H,qt [l,.tup d],qt [.str "letters",.str a,.str b,.str mk,.str w,.int z],qi c,qi (k:Int),qt (.tup (.str x::.str y::u)::t),q]) (s:=ls) (fun v hv L hz=>by
   obtain⟨q,hq⟩:=hz;subst hq;obtain⟨m,i,N,_,rfl⟩:=W.2 v hv;have q0:az ""=true:=by decide +kernel
   exact⟨_,rfl,⟨_,rfl⟩,by simp[i_,jx,DQ,eQ,Hk,X,N,q0,zn,isM,bu,eq_comm (a:=m)],λ_=>rfl⟩) ⟨none,rfl⟩
  rw[i5]at V;have j:ls.length≤1000000:=by have:=W.1;lia
  have R:cut [P.str "letters",.str a,.str b,.str mk,.str w,.int z] (some 1) (some 3)=[.str a,.str b]:=rfl;have T:cut (P.str x::.str y::u) none (some 2)=[.str x,.str y]:=lH 2;unfold hU;cases Z:sG B a b k
  .rw [Z]at F;simp[R,T,F]
  .rw [Z]at F;simp[R,T,F,aX,lZ,bH C,V,di,d5,mW,Nm,C,j]
theorem Jb(h:e ∈ C_ B a b):e < B.PR.length:=i6.mp (gA.mp h).1
end
end My
namespace My
open PySem L2 Ev
def sD(B:BD)(a b mk:Str)(H:P):Int:=sumK (mW (Ks H) mk) (C_ B a b)
section
variable{B:BD}(I:BP B){a b:Str}(o:az a=true)(M:az b=true)
include I o M
theorem Jy(h:gi B H)(m:az mk=true)(w:Str)(z:Int)(n:Nat):bU (Ph (n+5) "_law_count") [bg B,H,.tup [.str "letters",.str a,.str b,.str mk,.str w,.int z]]=some (.int (sD B a b mk H)):=by obtain⟨s,r,rfl,S⟩:=h;obtain⟨q,x,e⟩:=Ci I o M (ψ:=Ph (n+4)) S.hr (.tup s) (bg B) m w z (List.range B.PR.length) (λk hk=>i6.mp hk) 0 none none;have p:=B' (n:=n) I;rw[cG]at e;rw[tP,aw];rw[show(List.range B.PR.length).map (NP B)=bM 0 (bQ (aL B.fams) B.roads) from(xR _).symm]at e;simp[mI,p,e,sD,Ks,C_]
theorem PD{H:P}(h:gi B H){mk:Str}(m:az mk=true){w:Str}{z:Int}{t:P->Bool}(x:∀n,bU (Ph (n+2) "_law_relation") [.str w,.int (sD B a b mk H),.int z]=some (.bl (t H)))(n:Nat) :
  bU (Ph (n+11) "_law_plain") [bg B,H,.tup [.str "letters",.str a,.str b,.str mk,.str w,.int z]]=some (.bl (t H)):=by
 have e:=Jy I o M h m w z (n+5);have s:=x (n+8);rw[ip,aw];simp[eO,e,s,Nw,QS]
theorem PB{mk w:Str}{z:Int}{t:P->Bool}(ht:∀H n,bU (Ph (n+2) "compared") [.str w,.int (sD B a b mk H),.int z]=some (.bl (t H))){l:List P}(hw:∀H ∈ l,gi B H)(s:l.length≤100){C:P->Bool}{n N i j:Nat}{S:aA}(R:Sc B l C N i j S) :
  ∃d A,Ph (n+12) "letter_truths" [.ref i,.p (.tup [.str "letters",.str a,.str b,.str mk,.str w,.int z])] S=some (d,A)/\Fr N S A/\N1 S A d (bs t l):=by
 obtain⟨jh,K,jl,jmm,mk',mv,h⟩:=id R.bd;generalize v:P.tup [.str "letters",.str a,.str b,.str mk,.str w,.int z]=m;have Q:Fr N S (S.set K (.fz (.lst B.PR))):=Fr.frz h.bp h.pr;have hpl:=pu I;let L:Option D->Lc:=λq=>[qr i,O m,qs a,qs b,qs mk,qs w,qi z,q]
 have X:=sY (g:=aY [ai 8,ai 9]) (c:=(aK (U (kH (Y jC bZ) gH (fJ dD))) (U (aP (v2 b_ cD))))) (e:=vv 8) (S:=S.set K (.fz (.lst B.PR))) (p:=sG B a b) (F:=NP B) (f:=λk=>P.int (k:Int)) (Inv:=λW=>∃q8 q9,W=L none++[q8,q9]) (s:=List.range B.PR.length) (λk hk W hz=>by obtain⟨q8,q9,T⟩:=hz;subst T;obtain⟨ro,t,x,y,u,e0,er,eq⟩:=Kt I o M (i6.mp hk);subst er;have e6:cut (P.str x::.str y::u) none (some 2)=[.str x,.str y]:=lH 2;exact⟨L none++[qi (k:Int),qt (.tup (.str x::.str y::u)::t)],by rw[NP,e0];rfl,⟨_,_,rfl⟩,by simp[L,e6,eq],λ_=>rfl⟩) (L:=L none++[none,none]) ⟨none,none,rfl⟩
 rw[show(List.range B.PR.length).map (NP B)=bM 0 B.PR from(xR _).symm]at X;refine⟨.ref (S.set K (.fz (.lst B.PR))).length,S.set K (.fz (.lst B.PR))++[.lst ((bs t l).map .p)],?_,Q.trans (Fr.app _ _ _),_,Q.len,rfl,dR _ _⟩;rw[n_];show cE (gP _ [qr i,O m,none,none,none,none,none,none] S)=_;unfold gP;rw[ak (e:=L none) (c:=S) (by have e5:cut [P.str "letters",.str a,.str b,.str mk,.str w,.int z] (some 1) none=[.str a,.str b,.str mk,.str w,.int z]:=rfl;rw[<- v];simp[e5,L,<- v])]
 rw [ak (e:=L (ql (bJ (C_ B a b)))) (c:=S.set K (.fz (.lst B.PR))) (by
  have T:(bM 0 B.PR).length≤1000000:=by rw[xR];simp;lia
  rw[aq,U,aX,q_,vE,h.pairs (R.board rfl),am,h.pr.frz,am];show a6 (a6 (if few (bM 0 B.PR)=true then _ else _) _) _=_;rw[af (by rw[j5];exact T)];show a6 (a6 (a6 (bG _ _ _ (bM 0 B.PR) (L none++[none,none]) _) _) _) _=_;rw[X];rfl)]
 rw[au,iF,om (x:=l) (F:=id) (G:=λH=>.bl (t H)) (by rw[fK,vE,(R.fr Q).stand rfl,i5];rfl) (by lia) λH V=>by have x1:=ht H (n+9);obtain⟨Z,E,rfl,r⟩:=hw H V;have x2:=PC r.hr (.tup Z) mk (ks:=C_ B a b) (λk hk=>by rw[r.hr.1];exact Jb I o M hk) (n+9);have x3:bU (Ph (n+11) "compared") [.str w,.int (sumK (mW E mk) (C_ B a b)),.int z]=some (.bl (t (.tup [.tup Z,.tup E]))):=x1;simp[L,x2,x3]]
 rfl
end
def Lo(b:Nat)(S A:aA):Prop:=b≤A.length/\∀k,k < b->A[k]? = S[k]?
section
variable{b i j k n:Nat}{S A x:aA}
theorem Lo.set(M:b≤S.length)(hk:b≤k)(o:SO):Lo b S (S.set k o):=⟨by simpa using M,λq h=>aO (by lia)⟩
theorem Lo.app(M:b≤S.length)(T:aA):Lo b S (S++T):=⟨by simp;lia,λk hk=>bF (by lia)⟩
theorem Lo.trunc(M:b≤S.length)(h:b≤n):Lo b S (trunc n S):=by
 unfold Ev.trunc;split
 .exact⟨by rw[ib];lia,λk hk=>ik (by lia)⟩
 .exact⟨M,λ_ _=>rfl⟩
theorem Bd.keep(h:Bd B b i S)(m:b≤A.length)(f:∀k o,k < b->S[k]? = some o->(∀e d,o≠.ins "Scene" e d)->A[k]? = some o):Bd B b i A:=by
 obtain⟨t,v,p,q,mk,w,h⟩:=h;have l:∀{k:Nat}{a:List P},k < b->kj S k a->kj A k a:=λhk h=>by
  rcases h with h|h
  .exact .inl (f _ _ hk h λ_ _ z=>by cases z)
  .exact .inr (f _ _ hk h λ_ _ z=>by cases z)
 exact⟨t,v,p,q,mk,w,f _ _ h.bi h.ins (λ_ _ z=>by have:("Board":Str)="Scene":=(SO.ins.inj z).1;exact absurd this (by decide +kernel)),l h.bh h.ho,l h.bp h.pr,f _ _ h.bl h.pl (λ_ _ z=>by cases z),f _ _ h.bm h.me (λ_ _ z=>by cases z),λs r=>by obtain⟨j,x,n,c⟩:=h.mm s r;exact⟨j,x,n,l x c⟩,h.bi,h.bh,h.bp,h.bl,h.bm,m⟩
theorem Fr.ins(f:Fr b S A)(x:i < b)(h:S[i]? = some (.ins r w p)):A[i]? = some (.ins r w p):=by
 rcases f.low i _ x h with e|⟨_,q,_⟩
 .exact e
 .cases q
variable{B:BD}{l:List P}{C:P->Bool}
theorem Sc.lo(h:Sc B l C b i j S)(f:Lo b S A):Sc B l C b i j A:=by obtain⟨dr,e,hd⟩:=h.sc;exact⟨h.bd.keep f.1 λk o hk e _=>(f.2 k hk).trans e,⟨dr,(f.2 i h.hi).trans e,hd⟩,h.hi⟩
theorem Py(h:Str->GF):mT Tb h "Scene" "dry_truths"=some (h "Scene.dry_truths"):=by kernel_rfl
theorem P6:yW.contains "dry_truths"=false:=by decide +kernel
theorem OZ:putK "dries" yW=yW:=by decide +kernel
theorem O0{a b c d y:D}:mP "dries" y yW [a,b,c,d]=[a,b,c,y]:=by simp[mP,yW]
def Kh(B:BD)(C:P->Bool):Prop:=∀H,gi B H->∀(n b i:Nat)(S:aA),Bd B b i S->∃A,Ph (n+14) "is_dry" [.ref i,.p H] S=some (.p (.bl (C H)),A)/\Fr b S A
theorem P9(hd:Kh B C)(hw:∀H ∈ l,gi B H)(s:l.length≤100)(h:Sc B l C b i j S):∃k A,Ph (n+15) "Scene.dry_truths" [.ref i] S=some (.ref k,A)/\Sc B l C b i j A/\b≤k/\A[k]? = some (.lst ((bs C l).map .p)):=by
 have M:=h.bd.le;rw[lG];show ∃k A,cE (fq _ [qr i] S)=_/\_;unfold fq;have r:∀f,Sc B l C b i j f->(∃x y z,f[i]? = some (.ins "Scene" yW [x,y,z,.p (.lst (bs C l))]))->∃k A,cE (au (xV (vE (cc (aT Att) cC "dries"))) [qr i] f)=some (.ref k,A)/\Sc B l C b i j A/\b≤k/\A[k]? = some (.lst ((bs C l).map .p)):=λf K V=>by obtain⟨x,y,z,e⟩:=V;refine⟨f.length,_,?_,K.lo (Lo.app K.bd.le _),K.bd.le,dR _ _⟩;rw[au,xV,vE,cc];show cE (a6 (a6 (a6 (a6 (some (D.ref i,f)) _) _) _) _)=_;rw[am];simp only[e,nQ,IG,gw];rfl
 obtain⟨dr,e,P⟩:=h.sc;have m:∀a,a[0]? = some (some (D.ref i))->cc (aT Att) cC "dries" a S=some (dr,S):=λa Q=>by rw[cc,show cC a S=some (.ref i,S) by simp only[CB,Q],am];simp only[e,nQ,IG,gw];rfl
 rcases P with rfl|rfl
 .obtain⟨c,w,d⟩:=pe (i:=fK (vE (cc (aT Att) cC "standings"))) (g:=ai 1) (e:=(cv (Ph (n+14) "is_dry") (rV (cc (aT Att) cC "board") gj))) (x:=l) (F:=id) (G:=fun H=>.bl (C H)) (L:=[qr i]) (S:=S) (k:=S) (Sp:=fun A=>Fr b S A) (by rw [fK,vE,h.stand rfl,i5];rfl) (by lia) (n:=1) (Inv:=fun a=>∃q,a=[qr i,q]) (fun H E a A ⟨q,T⟩ t=>by
   subst T;have p:=h.fr t;obtain⟨f,I,N⟩:=hd H (hw H E) n b j A p.bd;obtain⟨c,w,d⟩:=CK (b:=b) (g:=Ph (n+14) "is_dry") (q:=rV (cc (aT Att) cC "board") gj) (L:=[qr i,O H]) (S:=A) (l:=[.ref j,.p H]) (by unfold rV;rw[bY,p.board rfl];rfl) I N;exact⟨[qr i,O H],c,rfl,⟨_,rfl⟩,w,t.trans d⟩) ⟨none,rfl⟩ (Fr.refl _ _)
  have p:=h.fr d;have v:=d.ins h.hi e;have R:Sc B l C b i j (c.set i (.ins "Scene" yW [.ref j,.p (.lst l),.ref i,.p (.lst (bs C l))])):=by
   refine⟨p.bd.keep (by rw[dn];exact p.bd.le) λk o hk u W=>?_,⟨_,gc v,.inr rfl⟩,h.hi⟩;rw[aO λz=>?_]
   .exact u
   .subst z;rw[v]at u;cases u;exact W _ _ rfl
  rw[ak (e:=[qr i]) (c:=c.set i (.ins "Scene" yW [.ref j,.p (.lst l),.ref i,.p (.lst (bs C l))])) (by rw[b8,bV,cP,m _ rfl];show iU (aT Att) cC "dries" _ [qr i] S=_;rw[iU,U,w,am,am];show a6 (some (D.ref i,c)) _=_;rw[am];simp only[v,nQ,OZ,O0];rfl)]
  exact r _ R ⟨_,_,_,gc v⟩
 .rw [ak (e:=[qr i]) (c:=S) (by
   rw[b8,bV,cP,m _ rfl];rfl)]
  exact r _ h ⟨_,_,_,e⟩
end
def TI(B:BD)(l:List P)(C:P->Bool)(n:Nat)(v:P)(t:P->Bool):Prop:=∀(b i j:Nat)(S:aA),Sc B l C b i j S->∃k A,Ph n "truths_in" [.ref i,.p v] S=some (.ref k,A)/\Sc B l C b i j A/\b≤k/\A[k]? = some (.lst ((bs t l).map .p))
@[simp] theorem Ua:az "some"=true/\az "all"=true/\az "many"=true/\az "letters"=true/\az "dry"=true:=by decide +kernel
theorem QP{k a b:Str}{S:aA}(h:az k=true)(x:az a=true)(e:az b=true):i_ (.p (.str k)) (.p (.tup [.str a,.str b])) S=some (.bl (decide (k=a) ||decide (k=b))):=by simp[i_,jx,DQ,eQ,Hk,h,x,e,zn]
theorem Sx(h:az k=true)(x:az a=true)(s:az b=true)(n:az e=true):i_ (.p (.str k)) (.p (.tup [.str a,.str b,.str e])) S=some (.bl (decide (k=a) ||(decide (k=b) ||decide (k=e)))):=by simp[i_,jx,DQ,eQ,Hk,h,x,s,n,zn]
abbrev T3(i:Nat)(v:P)(k:Str):Lc:=[qr i,O v,qs k]
section
variable{B:BD}{l:List P}{C:P->Bool}{n:Nat}{t u:P->Bool}
theorem G6{v:P}(h:TI B l C n v t){b i j:Nat}{S:aA}(s:Sc B l C b i j S){a:tm}{L:Lc}(o:a L S=some ([.ref i,.p v],S)):∃A,cv (Ph n "truths_in") a L S=some (.lst (bs t l),A)/\Sc B l C b i j A:=by obtain⟨k,A,e,x,hk,f⟩:=h b i j S s;refine⟨_,by rw[cv,o,am,e,am,eU f,am],(x.lo (Lo.set x.bd.le hk _)).lo (Lo.trunc (by rw[dn];exact x.bd.le) s.bd.le)⟩
theorem Iz(s:l.length≤100):TI B l C (n+3) (.tup [.str "true"]) λ_=>true:=λb i j S h=>by
 refine⟨S.length,S++[.lst ((l.map λ_=>P.bl true).map .p)],?_,h.lo (Lo.app h.bd.le _),h.bd.le,dR _ _⟩;rw[eM];show cE (bD _ [qr i,qt [.str "true"],none] S)=_;unfold bD;have x:l.length≤1000000:=by lia
 have a:l.length < 1000000:=by lia
 rw[ak (e:=T3 i (.tup [.str "true"]) "true") (c:=S) (by simp),gf (by simp),au,JU];rw[show aW (v1 (vC (.bl true))) (T3 i (.tup [.str "true"]) "true") S=some (.lst [.bl true],S) from rfl,am,vH,h.stand rfl];simp[di,d5,x,a,List.map_const']
theorem LB(s:l.length≤100){v:P}(h:TI B l C (n+2) v t):TI B l C (n+3) (.tup [.str "not",v]) λH=>!t H:=λb i j S k=>by obtain⟨a,e,x⟩:=G6 h k (a:=rV cC (U (Y bI ce))) (L:=T3 i (.tup [.str "not",v]) "not") (by simp);refine⟨a.length,a++[.lst ((l.map λH=>P.bl (!t H)).map .p)],?_,x.lo (Lo.app x.bd.le _),x.bd.le,dR _ _⟩;rw[eM];show cE (bD _ [qr i,qt [.str "not",v],none] S)=_;unfold bD;rw[ak (e:=T3 i (.tup [.str "not",v]) "not") (c:=S) (by simp),b6 (by simp),gf (by simp),au,iF,om (x:=l) (F:=λH=>.bl (t H)) (G:=λH=>.bl (!t H)) (by rw[fK,e];rfl) (by lia) λH _=>by simp];rfl
theorem vG(f g:P->P):∀s:List P,rS (s.map f) (s.map g)=s.map λH=>.tup [f H,g H]
 | []=>rfl
 |w::r=>by have:=vG f g r;unfold rS at this ⊢;simp only[aG,vk,this]
theorem Dn(s:l.length≤100){w:Str}{o:Bool->Bool->Bool}(hw:(w="and"/\o=and)\/(w="or"/\o=or))(S:aA):Ph (n+2) "joined" [.p (.str w),.p (.lst (bs t l)),.p (.lst (bs u l))] S=some (.ref S.length,S++[.lst ((l.map λH=>P.bl (o (t H) (u H))).map .p)]):=by
 let L:Lc:=[qs w,ql (bs t l),ql (bs u l)]
 suffices h:∀(e:EV),(∀H,e (L++[O (.bl (t H)),O (.bl (u H))]) S=some (.bl (o (t H) (u H)),S))->iF (aX (JE bI b_) [] 2 (aY [ai 3,ai 4]) dF e) L S=some (.ref S.length,S++[.lst ((l.map λH=>P.bl (o (t H) (u H))).map .p)]) by
  rw[zp];show cE (nh _ L S)=_;unfold nh;rcases hw with ⟨rfl,rfl⟩|⟨rfl,rfl⟩
  .rw [gf (by simp[L]),au,h _ λH=>by cases a:t H<;>simp[L,a]];rfl
  .rw [b6 (by simp[L]),au,h _ λH=>by cases a:t H<;>simp[L,a]];rfl
 intro e b;obtain⟨p,f,rfl⟩:=pe (i:=JE bI b_) (g:=aY [ai 3,ai 4]) (e:=e) (x:=l) (F:=λH=>.tup [.bl (t H),.bl (u H)]) (G:=λH=>.bl (o (t H) (u H))) (L:=L) (S:=S) (k:=S) (Sp:=λA=>A=S) (by simp[L,vG]) (by lia) (n:=2) (Inv:=λk=>∃q r,k=L++[q,r]) (λH m k A ⟨q,r,c⟩ x=>by subst c x;exact⟨_,_,rfl,⟨_,_,rfl⟩,b H,rfl⟩) ⟨none,none,rfl⟩ rfl
 rw[iF,f];rfl
theorem LF(s:l.length≤100){w:Str}{o:Bool->Bool->Bool}(hw:(w="and"/\o=and)\/(w="or"/\o=or)){v1 v2:P}(c:TI B l C (n+2) v1 t)(m:TI B l C (n+2) v2 u):TI B l C (n+3) (.tup [.str w,v1,v2]) λH=>o (t H) (u H):=λb i j S r=>by
 obtain⟨v,e,q⟩:=G6 c r (a:=rV cC (U (Y bI ce))) (L:=T3 i (.tup [.str w,v1,v2]) w) (by simp);obtain⟨h,a,k⟩:=G6 m q (a:=rV cC (U (Y bI dD))) (L:=T3 i (.tup [.str w,v1,v2]) w) (by simp);refine⟨h.length,h++[.lst ((l.map λH=>P.bl (o (t H) (u H))).map .p)],?_,k.lo (Lo.app k.bd.le _),k.bd.le,dR _ _⟩;rw[eM];show cE (bD _ [qr i,qt [.str w,v1,v2],none] S)=_;unfold bD;have f:=Dn (n:=n) (t:=t) (u:=u) s hw h;have p:i_ (.p (.str w)) (.p (.tup [.str "and",.str "or"])) S=some (.bl true):=by rw[QP (by rcases hw with ⟨rfl,_⟩|⟨rfl,_⟩<;>simp) (by simp) (by simp)];rcases hw with ⟨rfl,_⟩|⟨rfl,_⟩<;>simp
 have x:¬w="true"/\¬w="not":=by rcases hw with ⟨rfl,_⟩|⟨rfl,_⟩<;>simp
 rw[ak (e:=T3 i (.tup [.str w,v1,v2]) w) (c:=S) (by simp),b6 (by simp[x]),b6 (by simp[x]),gf (by simp[p]),au,eI];unfold yI;rw[bY];show cE (a6 (a6 (a6 (some (D.p (.str w),S)) _) _) _)=_;rw[am,bY,U,e,am,am,bY,U,a,am,am];show cE (a6 (Ph (n+2) "joined" [.p (.str w),.p (.lst (bs t l)),.p (.lst (bs u l))] h) _)=_;rw[f];rfl
theorem N1.low{S A:aA}{d:D}{y:List P}(h:N1 S A d y){b:Nat}(M:b≤S.length):∃k,d=.ref k/\b≤k/\A[k]? = some (.lst (y.map .p)):=by obtain⟨k,e,x,a⟩:=h;exact⟨k,x,by lia,a⟩
theorem vM{x:Str}{a:List P}(hk:x="some"\/x="all"\/x="many")(h:∀(b i j:Nat) (S:aA),Sc B l C b i j S->∃d A,Ph (n+2) "hand_truths" [.ref i,.p (.tup (.str x::a))] S=some (d,A)/\Fr b S A/\N1 S A d (bs t l)):TI B l C (n+3) (.tup (.str x::a)) t:=λb i j S c=>by
 obtain⟨d,A,e,f,o⟩:=h b i j S c;obtain⟨k,rfl,m,r⟩:=o.low c.bd.le;refine⟨k,A,?_,c.fr f,m,r⟩;rw[eM];show cE (bD _ [qr i,qt (.str x::a),none] S)=_;unfold bD;have s:¬x="true"/\¬x="not"/\¬x="and"/\¬x="or"/\az x=true:=by rcases hk with rfl|rfl|rfl<;>simp
 have p:i_ (.p (.str x)) (.p (.tup [.str "some",.str "all",.str "many"])) S=some (.bl true):=by rw[Sx s.2.2.2.2 (by simp) (by simp) (by simp)];rcases hk with rfl|rfl|rfl<;>simp
 rw[ak (e:=T3 i (.tup (.str x::a)) x) (c:=S) (by simp),b6 (by simp[s]),b6 (by simp[s]),b6 (by simp[QP,s]),gf (by simp[p]),au,eI];show cE (a6 (Ph (n+2) "hand_truths" [.ref i,.p (.tup (.str x::a))] S) _)=_;rw[e];rfl
theorem LC(h:∀(b i j:Nat) (S:aA),Sc B l C b i j S->∃d A,Ph (n+2) "letter_truths" [.ref i,.p (.tup (.str "letters"::r))] S=some (d,A)/\Fr b S A/\N1 S A d (bs t l)):TI B l C (n+3) (.tup (.str "letters"::r)) t:=λb i j S x=>by obtain⟨d,A,e,f,o⟩:=h b i j S x;obtain⟨k,rfl,a,s⟩:=o.low x.bd.le;refine⟨k,A,?_,x.fr f,a,s⟩;rw[eM];show cE (bD _ [qr i,qt (.str "letters"::r),none] S)=_;unfold bD;rw[ak (e:=T3 i (.tup (.str "letters"::r)) "letters") (c:=S) (by simp),b6 (by simp),b6 (by simp),b6 (by simp[QP]),b6 (by simp[Sx]),gf (by simp),au,eI];show cE (a6 (Ph (n+2) "letter_truths" [.ref i,.p (.tup (.str "letters"::r))] S) _)=_;rw[e];rfl
theorem LD(hd:Kh B C)(hw:∀H ∈ l,gi B H)(s:l.length≤100):TI B l C (n+16) (.tup [.str "dry"]) C:=λb i j S a=>by obtain⟨k,A,e,h,x,c⟩:=P9 (n:=n) hd hw s a;refine⟨k,A,?_,h,x,c⟩;rw[eM];show cE (bD _ [qr i,qt [.str "dry"],none] S)=_;unfold bD;rw[ak (e:=T3 i (.tup [.str "dry"]) "dry") (c:=S) (by simp),b6 (by simp),b6 (by simp),b6 (by simp[QP]),b6 (by simp[Sx]),b6 (by simp),gf (by simp),au,dU];obtain⟨dr,f,_⟩:=a.sc;show cE (a6 (a6 (some (D.ref i,S)) _) _)=_;rw[am];simp only[f,Py,P6];show cE (a6 (Ph (n+15) "Scene.dry_truths" [.ref i] S) _)=_;rw[e];rfl
end
theorem OK:∀n:Nat,Ph (n+14) "ends_on"=Ph 14 "ends_on"
 |0=>rfl
 |n+1=>by rw[<- OK n];have M:kB 14 (n+14)=true:=AL (by lia);exact oU (n:=n+14) (by unfold stays;rw[M];generalize kB 13 (n+14)=c;revert c;decide +kernel)
variable{B:BD}
theorem Na(I:BP B)(c:B=y4 B.fams B.roads B.wishes):∃C:P->Bool,Kh B C/\∀H,gi B H->∀n,bU (Ph (n+20) "_law_plain") [bg B,H,.tup [.str "dry"]]=some (.bl (C H)):=by
 have X:Places B:=by rw[c];exact Dj ..
 have all:∀H,∃t:Bool,gi B H->(∃E:List P,E.length≤40000/\(∀z ∈ E,okE z)/\E.isEmpty=t/\∀(b i:Nat)(S:aA),Bd B b i S->∃d A,Ph 14 "ends_on" [.ref i,.p H] S=some (d,A)/\Fr b S A/\oJ S A d E)/\∀(n b i:Nat)(S:aA),Bd B b i S->∃A,Ph (n+14) "is_dry" [.ref i,.p H] S=some (.p (.bl t),A)/\Fr b S A:=λH=>by
  by_cases h:gi B H
  .obtain⟨s,rds,rfl,Z⟩:=h;obtain⟨t,p,k⟩:=M' I X Z;exact⟨t,λ_=>⟨p,k⟩⟩
  .exact⟨true,λz=>absurd z h⟩
 refine⟨λH=>Classical.choose (all H),λH s=>(rQ (all H) s).2,λH s n=>?_⟩;obtain⟨E,p,k,R,T⟩:=(rQ (all H) s).1;show _=some (P.bl (Classical.choose (all H)));rw[<- R];obtain⟨A,j,M,_⟩:=yc I (n:=n+12) [];rw[<- c]at M;obtain⟨d,w,r,N,u⟩:=T _ _ _ M;rw[<- OK (n+3)]at r;obtain⟨S3,l,_⟩:=u.toP N M.le;have x:Ph (n+16) "Board.__init__" [.ref 0,.p (bg B)] [.ins "Board" [] []]=some (.p .non,A):=j;have o:bU (Ph (n+18) "ends_from") [bg B,H]=some (.lst E):=by have a:Ph (n+17) "ends_on" [.ref 0,.p H] A=some (d,w):=r;rw[tU,aw];simp[mK,x,a,l]
 have f:E.length≤1000000:=by lia
 obtain⟨m,F,V,W⟩:=kU (g:=ai 2) (e:=Y b_ bZ) (Inv:=λL=>∃q,L=[O (bg B),O H,q]) (Q:=λy=>cm 19 y=true) (S:=[]) (s:=E) (L:=[O (bg B),O H,none]) (λv hv L hz=>by obtain⟨q,f⟩:=hz;subst f;obtain⟨d,e,rfl,hd⟩:=k v hv;exact⟨_,d,rfl,⟨_,rfl⟩,by simp,eL hd (by lia)⟩) ⟨none,rfl⟩
 have K:bU (Ph (n+19) "deeds") [bg B,H]=some (.lst m):=by rw[DA,aw];simp[uG,o,aX,lZ,F,f]
 have D:m.isEmpty=E.isEmpty:=by cases m<;>cases E<;>first|rfl|simp at W
 have G:=wn (FN (n:=19) V);rw[ip,aw];simp[eO,K,G,D]
def FT(B:BD)(C:P->Bool)(m:Nat)(v:P)(t:P->Bool):Prop:=(∀l:List P,(∀H ∈ l,gi B H)->l.length≤100->∀n,TI B l C (n+m) v t)/\∀H,gi B H->∀n,bU (Ph (n+m) "_law_held") [bg B,.lst [],H,v]=some (.bl (t H))
section
variable{B:BD}{C t u:P->Bool}{m:Nat}
theorem FT.up(h:FT B C m v t)(k:Nat):FT B C (k+m) v t:=⟨λl x a n=>by rw[<- ee];exact h.1 l x a _,λH s n=>by rw[<- ee];exact h.2 H s _⟩
theorem Sj(h:az k=true)(x:az a=true)(e:az b=true):j4 (.p (.str k)) (.p (.lst [.str a,.str b])) S=some (.bl (!(decide (k=a) ||decide (k=b)))):=by simp[j4,DQ,eQ,Hk,h,x,e,zn]
@[simp] theorem T':az "some knows"=true/\az "each knows"=true:=by decide +kernel
theorem g7{H:P}{k:Str}{t:List P}{x:Bool}{n:Nat}(hk:¬k="not"/\¬k="and"/\¬k="or"/\¬k="some knows"/\¬k="each knows"/\az k=true)(h:bU (Ph (n+1) "_law_plain") [bg B,H,.tup (.str k::t)]=some (.bl x)):bU (Ph (n+2) "_law_held") [bg B,.lst [],H,.tup (.str k::t)]=some (.bl x):=by rw[kQ,aw];simp[gR,hk,Sj,h]
theorem GB(h:FT B C (m+2) v t):FT B C (m+3) (.tup [.str "not",v]) λH=>!t H:=⟨λl e x n=>LB (n:=n+m) x (h.1 l e x n),λH s n=>by have a:=h.2 H s n;rw[<- ee]at a;rw[<- ee,kQ,aw];simp[gR,a]⟩
theorem M7 {w:Str}{o:Bool->Bool->Bool} (hw:(w="and"/\o=and)\/(w="or"/\o=or)) {v1 v2:P} (e:FT B C (m+2) v1 t) (s:FT B C (m+2) v2 u):FT B C (m+3) (.tup [.str w,v1,v2]) fun H=>o (t H) (u H):=⟨fun l b k n=>LF (n:=n+m) k hw (e.1 l b k n) (s.1 l b k n),fun H f n=>by
 have x:=e.2 H f n;have a:=s.2 H f n;rw[<- ee]at x a;rw[<- ee,kQ,aw];rcases hw with ⟨rfl,rfl⟩|⟨rfl,rfl⟩
 .cases h:t H<;>rw[h]at x<;>simp[gR,x,a,h]
 .cases h:t H<;>rw[h]at x<;>simp[gR,x,a,h]⟩
inductive isPart(B:BD):P->Prop
 |hand {nm:Str}{crew:Nat}{rooms cells whos steps:List P}{kind room:Str}{cond:P}{tl:List P} (hF:Fam B.roads nm crew rooms cells whos steps) (hfa:d8 nm crew rooms cells whos steps ∈ B.fams) (hro:az room=true) (hc:kO (qU cells) cond) (hk:kind="some"\/kind="all"\/(kind="many"/\∃(w:Str)(z:Int),tl=[.str w,.int z])):isPart B (.tup (.str kind::.str nm::.str room::cond::tl))
 |lett {a b mk:Str} (w:Str) (z:Int) (ha:az a=true) (hb:az b=true) (hm:az mk=true):isPart B (.tup [.str "letters",.str a,.str b,.str mk,.str w,.int z])
 |dry:isPart B (.tup [.str "dry"])
 |tru:isPart B (.tup [.str "true"])
theorem G2(w:Str)(c:P->Int)(z:Int):∃t:P->Bool,(∀H n,bU (Ph (n+2) "compared") [.str w,.int (c H),.int z]=some (.bl (t H)))/\∀H n,bU (Ph (n+2) "_law_relation") [.str w,.int (c H),.int z]=some (.bl (t H)):=
 ⟨λH=>Classical.choose (on w (c H) z),λH=>(rQ (on w (c H) z)).1,λH=>(rQ (on w (c H) z)).2⟩
theorem Jj(I:BP B)(hd:Kh B C)(d:∀H,gi B H->∀n,bU (Ph (n+20) "_law_plain") [bg B,H,.tup [.str "dry"]]=some (.bl (C H))){v:P}(h:isPart B v):∃t,FT B C 21 v t:=by
 cases h with
 | @hand T E y q L K k G cond W F m g Q hk=>
  obtain⟨N,f⟩:=JP I F m g Q;have u:¬k="not"/\¬k="and"/\¬k="or"/\¬k="some knows"/\¬k="each knows"/\az k=true:=by rcases hk with rfl|rfl|⟨rfl,_⟩<;>simp
  have p:k="some"\/k="all"\/k="many":=hk.imp id (Or.imp id (·.1));rcases hk with rfl|rfl|⟨rfl,w,z,rfl⟩
  .exact⟨_,λl c x n=>vM (n:=n+18) p λb i j S r=>Gr (n:=n+8) I F m (λH s h e=>(f H s h e).1) (.inl ⟨rfl,rfl⟩) c x r,λH s n=>g7 (n:=n+19) u (FY I (λh e=>(f H s h e).2) (.inl ⟨rfl,rfl⟩) (n+9))⟩
  .exact⟨_,λl c x n=>vM (n:=n+18) p λb i j S r=>Gr (n:=n+8) I F m (λH s h e=>(f H s h e).1) (.inr (.inl ⟨rfl,rfl⟩)) c x r,λH s n=>g7 (n:=n+19) u (FY I (λh e=>(f H s h e).2) (.inr (.inl ⟨rfl,rfl⟩)) (n+9))⟩
  .obtain⟨t,A,D⟩:=G2 w (λH=>(kW N B.N T H:Int)) z;exact⟨t,λl c x n=>vM (n:=n+18) p λb i j S r=>Gr (n:=n+8) I F m (λH s h e=>(f H s h e).1) (.inr (.inr ⟨rfl,w,z,rfl,A⟩)) c x r,λH s n=>g7 (n:=n+19) u (FY I (λh e=>(f H s h e).2) (.inr (.inr ⟨rfl,w,z,rfl,D H⟩)) (n+9))⟩
 | @lett a b mk w z o M R=>obtain⟨t,A,D⟩:=G2 w (sD B a b mk) z;exact⟨t,λl c x n=>LC (n:=n+18) λV i j S r=>PB (n:=n+8) I o M A c x r,λH s n=>g7 (n:=n+19) (by simp) (PD I o M s R (D H) (n+9))⟩
 |dry=>exact⟨C,λl c x n=>LD (n:=n+5) hd c x,λH s n=>g7 (n:=n+19) (by simp) (d H s n)⟩
 |tru=>exact⟨_,λl c x n=>Iz (n:=n+18) x,λH s n=>g7 (n:=n+19) (by simp) (by rw[ip,aw];simp[eO])⟩
end
variable{v:P}
theorem isStep.ok(q:yf r)(n:∀x ∈ p,km x)(h:isStep e p r w y v):cm 8 v=true:=by
 obtain⟨i,f,j,k,g,b,m,s,S,rfl⟩:=h;have N:=mV q.1;have M:∀x ∈ qU r++more k,km x:=λx a=>(cI.mp a).elim (N x) (qW k x);have o:cm 7 (.lst g)=true:=FN λc h=>by obtain⟨x,t,a,d,rfl⟩:=S.ch c h;simp[a,eL (d.ok M) (show 4≤5 by lia)]
 have u:cm 7 (.lst b)=true:=FN λc h=>eL ((S.hsn c h).ok M) (by lia);show(List.all [P.str i,f,j,k,.lst g,.lst b,m] (cm 7))=true;simp only[fx,qB,o,u,v0,s,(n f S.h1).ok 7,(n m S.h2).ok 7,S.wh.ok N,eL S.htk.ok (show 2≤7 by lia),lY]
theorem Db(I:BP B):cm 19 (.tup [.lst B.fams,.lst B.roads,.lst B.wishes])=true:=by
 have S:cm 18 (.lst B.fams)=true:=FN λf p=>by
  obtain⟨H,n,m,e,w,t,F,rfl⟩:=I.hf f p;have u:cm 16 (.lst m)=true:=gI F.hro 15;have g:cm 16 (.lst e)=true:=FN λc h=>by obtain⟨x,lo,E,l,z,_,_,_,_,rfl⟩:=F.hce.1 c h;have v:az x=true:=z;simp[v]
  have i:cm 16 (.lst w)=true:=gI F.hwh 15;have j:cm 16 (.lst t)=true:=FN λc h=>eL ((F.hst c h).ok F.hce F.hro) (by lia);show(List.all [P.str H,.int (n:Int),.lst m,.lst e,.lst w,.lst t] (cm 16))=true;simp only[fx,qB,u,g,i,j,v0,v9,F.hnm,lY]
 have K:cm 18 (.lst B.roads)=true:=FN λr q=>by
  obtain⟨a,b,kd,c,C,D,o,M,d,_,_,rfl⟩:=I.hr r q;have:az kd=true:=by rcases d with rfl|rfl<;>simp
  simp[o,M,this]
 have A:cm 18 (.lst B.wishes)=true:=FN λr q=>by
  obtain⟨k,f,s,hk,p,y,rfl⟩:=I.hw r q;have:az k=true:=by rcases hk with rfl|rfl<;>simp
  simp[p,y,this]
 show(List.all [P.lst B.fams,.lst B.roads,.lst B.wishes] (cm 18))=true;simp only[fx,qB,S,K,A,lY]
variable{H:P}
theorem gi.ok(h:gi B H):cm 5 H=true:=by
 obtain⟨k,d,rfl,S⟩:=h;have f:cm 4 (.tup k)=true:=bw.mpr λx a=>by
  obtain⟨i,n,rfl⟩:=lX.mp a;obtain⟨_,_,_,_,_,_,_,r,s,w,e,_,m,_,hw⟩:=S.hh i _ _ (bA (by rw[<- S.hl];exact n)) (bA n);have o:cm 2 (.tup s)=true:=bw.mpr λc h=>by obtain⟨i,_,rfl⟩:=m.2 c h;simp
  have p:cm 2 (.tup w)=true:=bw.mpr λc h=>(hw c h).ok 1;rw[e];show(List.all [_,P.tup s,P.tup w] (cm 2))=true;rw[fx,fx,fx,o,p];simp
 have b:cm 4 (.tup d)=true:=bw.mpr λx a=>by obtain⟨q,t,rfl⟩:=S.hr.2 x a;exact bw.mpr λl h=>eL (t.2 l h).ok (by lia)
 show(List.all [P.tup k,P.tup d] (cm 4))=true;rw[fx,fx,f,b];rfl
theorem Ha(I:BP B):gi B (.tup [.tup ((aU B.fams).map jR),.tup (List.replicate B.PR.length (.tup []))]):=by refine⟨_,_,rfl,by simp,λk f x n b=>?_,by simp,λr q=>⟨[],⟨by simp,λ_ h=>(by cases h)⟩,(qI.mp q).2⟩⟩;rw[dJ,n]at b;cases b;obtain⟨v,a,m,e,o,s,F,rfl⟩:=j8 I.hf (bq n);refine⟨v,a,m,e,o,s,rfl,0,e.map sM,List.replicate o.length (.int (-1)),rfl,len_pos F.r0,⟨by simp,λc p=>?_⟩,by simp,λw hw=>⟨_,(qI.mp hw).2⟩⟩;obtain⟨d,hd,rfl⟩:=bN.mp p;obtain⟨x,lo,l,t,_,u,g,i,j,rfl⟩:=F.hce.1 d hd;exact⟨t,by lia,rfl⟩
variable{n:Nat}
theorem E7(I:Pln e r w)(T:aA)(l:List P)(C:P->Bool):∃A,Ph (n+6) "Scene.__init__" [.ref T.length,.p (.tup [.lst e,.lst r,.lst w]),.p (.lst l),.p .non] (T++[.ins "Scene" [] []])=some (.p .non,A)/\Sc (y4 e r w) l C A.length T.length (T.length+1) A:=by
 obtain⟨A,x,M,lo⟩:=yc I (n:=n) (T++[.ins "Scene" [] []]);have h:(T++[SO.ins "Scene" [] []]).length=T.length+1:=by simp
 rw[h]at x M lo;have i:A[T.length]? = some (.ins "Scene" [] []):=by rw[lo T.length (by lia)];exact dR _ _
 have c:=bx i;generalize p:P.tup [.lst e,.lst r,.lst w]=f at x;have m:∀(a b:SO),(A.set T.length a).set T.length b=A.set T.length b:=λa b=>cR ..;have t:∀(a:SO),(A.set T.length a)[T.length]? = some a:=λa=>gc i;refine⟨A.set T.length (.ins "Scene" yW [.ref (T.length+1),.p (.lst l),.ref T.length,.p .non]),?_,?_⟩
 .rw [sT];show cE (jA _ _ [qr T.length,O f,ql l,O .non] (T++[.ins "Scene" [] []]))=_;unfold jA;rw [ak (e:=[qr T.length,O f,ql l,O .non]) (c:=A.set T.length (.ins "Scene" ["board"] [.ref (T.length+1)])) (by
   rw[iU,oj];show a6 (match Ph (n+4) "Board.__init__" (.ref (T++[SO.ins "Scene" [] []]).length::[.p f]) (T++[SO.ins "Scene" [] []]++[.ins "Board" [] []]) with|some (.p .non,S)=>some (D.ref (T++[SO.ins "Scene" [] []]).length,S)|_=>none) _=_;rw[h,x];show a6 (some (D.ref (T.length+1),A)) _=_;rw[am];show a6 (some (D.ref T.length,A)) _=_;rw[am];simp only[i,nQ];rfl)]
  rw[ak (e:=[qr T.length,O f,ql l,O .non]) (c:=A.set T.length (.ins "Scene" ["board","standings"] [.ref (T.length+1),.p (.lst l)])) (by simp[t,nQ,Ev.putK,Ev.mP])];rw[ak (e:=[qr T.length,O f,ql l,O .non]) (c:=A.set T.length (.ins "Scene" ["board","standings","around"] [.ref (T.length+1),.p (.lst l),.ref T.length])) (by simp[t,nQ,Ev.putK,Ev.mP,tH,fg])];simp[t,nQ,Ev.putK,Ev.mP,yW,cE]
 .rw [dn];refine⟨M.keep (by simp) λk o hk s q=>?_,⟨_,t _,.inl rfl⟩,c⟩;rw[aO λz=>?_]
  .exact s
  .subst z;rw[i]at s;cases s;exact q _ _ rfl
section
variable{B:BD}(c:B=y4 B.fams B.roads B.wishes)(I:BP B){C t:P->Bool}{v:P}(h:FT B C 25 v t){l:List P}(hw:∀H ∈ l,gi B H)(s:l.length≤100){n:Nat}
include c I h hw s
theorem uc(S:aA):∃k A,Ph (n+26) "truths" [.p (bg B),.p v,.p (.lst l)] S=some (.ref k,A)/\A[k]? = some (.lst ((bs t l).map .p)):=by obtain⟨e,f,a⟩:=E7 I (n:=n+18) S l C;rw[<- c]at a;obtain⟨k,x,b,_,_,m⟩:=h.1 l hw s n _ _ _ _ a;refine⟨k,x,?_,m⟩;rw[zo];show cE (m_ _ _ [O (bg B),O v,ql l] S)=_;unfold m_;rw[au,eI];unfold rV;rw[bY,oj];show cE (a6 (a6 (a6 (match gD (Ph (n+24) "Scene.__init__") (.ref S.length::[.p (bg B),.p (.lst l)]) (S++[.ins "Scene" [] []]) with|some (.p .non,x)=>some (D.ref S.length,x)|_=>none) _) _) _)=_;rw[gD];show cE (a6 (a6 (a6 (match Ph (n+24) "Scene.__init__" [.ref S.length,.p (bg B),.p (.lst l),.p .non] (S++[.ins "Scene" [] []]) with|some (.p .non,x)=>some (D.ref S.length,x)|_=>none) _) _) _)=_;rw[f];show cE (a6 (Ph (n+25) "truths_in" [.ref S.length,.p v] e) _)=_;rw[b];rfl
theorem pB:bU (Ph (n+26) "truths") [bg B,v,.lst l]=some (.lst (bs t l)):=by obtain⟨k,A,e,x⟩:=uc c I h hw s (n:=n) [];unfold bU;show(match Ph (n+26) "truths" [.p (bg B),.p v,.p (.lst l)] [] with|some (d,S)=>(toP 9 d S).map _|none=>none)=_;rw[e];show(toP 9 (.ref k) A).map _=_;rw[eU x];rfl
end
theorem Dr(c:B=y4 B.fams B.roads B.wishes)(I:BP B)(h:FT B C 25 v t)(s:gi B H):bU (Ph (n+27) "holds_at") [bg B,v,H]=some (.bl (t H)):=by have e:=pB c I h (l:=[H]) (λx a=>by rw[fU.mp a];exact s) (by simp) (n:=n);rw[wA,aw];simp only[aG,eS]at e;simp[oF,e]
theorem m3(a:Int):∃w:Str,az w=true/\L2.atI [P.str "",.str "ma",.str "mb"] (a % 3)=some (.str w):=by
 obtain⟨w,hw,e⟩:=wK (s:=[P.str "",.str "ma",.str "mb"]) (k:=a % 3) (by lia) (by simp;lia);simp only[aQ,cJ,cH]at hw;have h:az ""=true/\az "ma"=true/\az "mb"=true:=by decide +kernel
 rcases hw with rfl|rfl|rfl
 .exact⟨_,h.1,e⟩
 .exact⟨_,h.2.1,e⟩
 .exact⟨_,h.2.2,e⟩
theorem B3(I:BP B)(d:Int):∃v,isPart B v/\bU (Ph (n+4) "_law_part") [.int d,bg B,.bl false]=some v:=by
 have k:B.fams≠[]:=λz=>by have:=I.f0.1;rw[z]at this;simp at this
 have l:0 < B.fams.length:=I.f0.1;obtain⟨f,t,G⟩:=dY k d;obtain⟨nm,a,r,c,b,s,F,rfl⟩:=I.hf f t;obtain⟨g,Z,L⟩:=dY k (d / 4);obtain⟨nm',u,p,m,K,q,j,rfl⟩:=I.hf g Z;obtain⟨C,H,A⟩:=dY (s:=.str ""::r) (by simp) (d / 2);have S:km C:=by
  rcases aQ.mp H with rfl|h
  .exact⟨_,by decide +kernel,rfl⟩
  .exact F.hro C h
 obtain⟨E,o,rfl⟩:=S;obtain⟨cond,y,M⟩:=cond_ok (n:=n) (d / 12 % 27000) (mV F.hce.1);obtain⟨w,hw,N⟩:=w6 (d / 360);obtain⟨mk,hm,Q⟩:=m3 (d / 24);have X:=F.cl;have hrl:=F.rl;have T:c.length≤1000000:=by lia
 have V:r.length+1≤1000000:=by lia
 have W:(0:Int) < (r.length:Int)+1:=by lia
 rw[aR,jj]at A;have R:=pi F.hce.1 [qi d,O (bg B),O (.bl false),O (d8 nm a r c b s),none,none,none,none,none,none,none,none] 11 (by simp) [];have hd:d / 8640 % 6=0\/d / 8640 % 6=1\/d / 8640 % 6=2\/d / 8640 % 6=3\/d / 8640 % 6=4\/d / 8640 % 6=5:=by lia
 have i:∀{v:P}{x:Option (D×aA)},isPart B v->x=some (.p v,[])->∃v,isPart B v/\(x.bind λz=>(toP 9 z.1 z.2).map (·.1))=some v:=λ{v x} h e=>⟨v,h,by rw[e];rfl⟩;rw[wv,xc (a:=3) rfl];show ∃v,isPart B v/\(cE (k8 _ [qi d,O (bg B),O (.bl false),none,none,none,none,none,none,none,none] [])).bind _=_;unfold k8;rw[ak (by simp[di,d5,l,G];exact⟨rfl,rfl⟩),ak (by simp[aX,lZ,Kb,T,R];exact⟨rfl,rfl⟩),ak (by simp[M9,di,d5,V,W,A,u3 1];exact⟨rfl,rfl⟩),ak (by simp[M];exact⟨rfl,rfl⟩),ak (by simp[N];exact⟨rfl,rfl⟩),ak (by simp;exact⟨rfl,rfl⟩),ak (by simp;exact⟨rfl,rfl⟩)];rcases hd with hd|hd|hd|hd|hd|hd<;>rw[hd]
 .exact i (.hand F t o y (tl:=[]) (.inr (.inl rfl))) (by rw[gf (by simp)];simp[cE])
 .exact i (.hand F t o y (.inr (.inr ⟨rfl,w,d / 2160 % 4,rfl⟩))) (by rw[b6 (by simp),gf (by simp)];simp[cE])
 .exact i (.lett w (d / 2160 % 4) F.hnm j.hnm hm) (by rw[b6 (by simp),b6 (by simp)];simp[cE,di,d5,l,L,Q])
 .exact i .dry (by rw[b6 (by simp),b6 (by simp),b6 (by simp),gf (by simp)];simp[cE])
 .exact i .tru (by rw[b6 (by simp),b6 (by simp),b6 (by simp),b6 (by simp),gf (by simp)];simp[cE])
 .exact i (.hand F t o y (tl:=[]) (.inl rfl)) (by rw[b6 (by simp),b6 (by simp),b6 (by simp),b6 (by simp),b6 (by simp)];simp[cE])
theorem JR{B:BD}(I:BP B){C:P->Bool}(u:∀v,isPart B v->∃t,FT B C 21 v t)(g:List Int){f:Int}(l:0≤f):∀(d:Nat)(k:Nat),2 ^ (3-d)≤k+1->k≤14->∀n,∃v t,bU (Ph (n+(d+6)) "_law_fact") [fI g,bg B,.int f,.int (k:Int),.bl false]=some v/\FT B C (d+21) v t:=by
 intro d;induction d with
 |zero=>
  intro k hk S n;obtain⟨c,r,Z,e,x⟩:=iq (n:=n+3) g (k:=f) (p:=3+(k:Int)) l (by lia) (by lia);obtain⟨v,D,y⟩:=B3 I (n:=n+1) (r / 8);obtain⟨t,A⟩:=u v D;have F:(6:Int) < (k:Int):=by have:2 ^ (3-0)=8:=rfl;lia
  refine⟨v,t,?_,A⟩;rw[show n+(0+6)=n+4+2 from rfl,i',aw];simp[fF,e,x,y,F]
 |succ d Q=>
  intro k hk S n;obtain⟨c,r,Z,e,x⟩:=iq (n:=n+d+4) g (k:=f) (p:=3+(k:Int)) l (by lia) (by lia);by_cases h:(6:Int) < (k:Int)\/r % 8 < 2
  .obtain⟨v,D,y⟩:=B3 I (n:=n+d+2) (r / 8);obtain⟨t,A⟩:=u v D;refine⟨v,t,?_,A.up (d+1)⟩;rw[show n+(d+1+6)=n+d+5+2 from rfl,i',aw];by_cases s:(6:Int) < (k:Int)
   .simp [fF,e,x,y,s]
   .have H:=h.resolve_left s;simp[fF,e,x,y,s,H]
  have s:¬(6:Int) < (k:Int):=λz=>h (.inl z);have H:¬r % 8 < 2:=λz=>h (.inr z);have N:2 ^ (3-d)≤2 * (k+1):=by
   by_cases h3:d < 3
   .have:3-d=(3-(d+1))+1:=by lia
    rw[this,u4];lia
   .rw [show 3-d=0 by lia];lia
  obtain⟨v1,t1,T,G⟩:=Q (2 * k+1) (by lia) (by lia) n;obtain⟨v2,t2,V,W⟩:=Q (2 * k+2) (by lia) (by lia) n;have M:=bW (i:=2) (j:=(k:Int)) (by decide) (by lia);have q:bU (Ph (n+d+6) "_law_fact") [fI g,bg B,.int f,.int (2 * (k:Int)+1),.bl false]=some v1:=T;have o:bU (Ph (n+d+6) "_law_fact") [fI g,bg B,.int f,.int (2 * (k:Int)+2),.bl false]=some v2:=V;by_cases L:r % 8=2
  .refine⟨_,_,?_,GB (m:=d+19) G⟩;rw[show n+(d+1+6)=n+d+5+2 from rfl,i',aw];simp[fF,e,x,s,L,M,q]
  .obtain⟨w,hw,R⟩:=oX (a:="and") (b:="or") (r / 8);obtain⟨E,K⟩:∃E:Bool->Bool->Bool,(w="and"/\E=and)\/(w="or"/\E=or):=by
    rcases hw with rfl|rfl
    .exact⟨and,.inl ⟨rfl,rfl⟩⟩
    .exact⟨or,.inr ⟨rfl,rfl⟩⟩
   refine⟨_,_,?_,M7 (m:=d+19) K G W⟩;rw[show n+(d+1+6)=n+d+5+2 from rfl,i',aw];by_cases X:r % 8 < 5<;>simp[fF,e,x,s,H,L,X,M,R,q,o]
theorem KO{ok:aA->Prop}{S:aA}(h:ok S){t:P->Bool}(a:Option D->Lc)(o:∀q v,(a q).set 10 v=a v/\(a q)[10]? = some q):∀(s:List P)(q:Option D),g8 ok (ai 10) (jc (bT (U (jJ "bool" i8)))) gp (s.map λH=>P.bl (t H)) (a q) S=some ([],S)
 | [],q=>af h
 |w::r,q=>by
  have x:(jc (bT (U (jJ "bool" i8)))) (a (O (.bl (t w)))) S=some (false,S):=by
   have:i8 (a (O (.bl (t w)))) S=some (.p (.bl (t w)),S):=by unfold i8;rw[CB,(o _ none).2]
   rw[jc,bT,U,jJ,this];rfl
  rw[aG];unfold g8;rw[af h];show a6 ((jc (bT (U (jJ "bool" i8)))) ((a q).set 10 (O (.bl (t w)))) S) _=_;rw[(o q _).1,x,am,ah (by decide)];exact KO h a o r _
section
variable{B:BD}(c:B=y4 B.fams B.roads B.wishes)(I:BP B){C t:P->Bool}{v:P}(h:FT B C 25 v t){l:List P}(hw:∀H ∈ l,gi B H)(s:l.length≤100){n:Nat}(d:Option D)(f:P)
abbrev LM(d:Option D)(B:BD)(l:List P)(f:P)(h x a e s q:Option D):Lc:=[d,O (bg B),ql l,qt [bg B,.lst l],O f,h,x,a,e,s,q]
abbrev LL(d:Option D)(B:BD)(l:List P)(f v:P)(t:P->Bool):Option D->Option D->Option D->Option D->Lc:=LM d B l f (O v) (ql (bs t l))
theorem FM:cm 20 (.lst (bs t l))=true:=FN λx h=>by obtain⟨H,_,rfl⟩:=bN.mp h;rfl
include c I h hw s
theorem KD(w M u b:Option D)(S:aA):∃F A,k_ (Ph (n+26)) (LL d B l f v t w M u b) S=some (.nx,LL d B l f v t w F u b,A):=by
 obtain⟨k,e,G,g⟩:=uc c I h hw s (n:=n) S;have z:Dh (.lst (bs t l)) (.lst (bs t l))=some false:=xp FM;have H:eQ e 9 (.ref k)=some (.lst (bs t l)):=by unfold eQ;simp only[g];rw[B9];rfl
 have o:∀i:List P,C6 (i.map .p)=some i:=λi=>by
  induction i with
  |nil=>rfl
  |cons p i L=>show(C6 (i.map .p)).map _=_;rw[L];rfl
 have m:(bs t l).length≤1000000:=by simp;lia
 refine⟨qr k,e.set k (.lst (((bs t l)++[P.bl true]).map .p)),?_⟩;unfold k_;rw[ak (e:=LL d B l f v t w (qr k) u b) (c:=e) (by rw[aq,eI];show a6 (Ph (n+26) "truths" [.p (bg B),.p v,.p (.lst l)] S) _=_;rw[G];rfl)]
 rw [b6 (by
  have K:jc (bT (U (jJ "list" wN))) (LL d B l f v t w (qr k) u b) e=some (false,e):=by rw[jc,bT,U,jJ];show a6 (a6 (a6 ((sF "list" (.ref k) e).map _) _) _) _=_;rw[show sF "list" (.ref k) e=some true by unfold sF;simp only[g];rfl];rfl
  have C:eT wN CT (LL d B l f v t w (qr k) u b) e=some (false,e):=by unfold eT;rw[bV,cP];show a6 (a6 (some (D.ref k,e)) λx S=>a6 (some (D.p (.lst (bs t l)),S)) λy S=>(Hl x y S).map λv=>(v,S)) _=_;rw[am,am,Hl,H];show a6 (((Dh (.lst (bs t l)) (.lst (bs t l))).map _).map _) _=_;rw[z];rfl
  have E:eT (U (rY wN [10] 0 (ai 10) (jc (bT (U (jJ "bool" i8)))) gp)) (U (aW a8)) (LL d B l f v t w (qr k) u b) e=some (false,e):=by unfold eT;rw[bV,cP,U,rY];show a6 (a6 (a6 ((B5 (.ref k) e).bind _) _) _) _=_;rw[show B5 (.ref k) e=some (k,bs t l) by unfold B5 eZ;simp only[g];show(C6 _).map _=_;rw[o];rfl];show a6 (a6 (a6 (if few (bs t l)=true then a6 (g8 (λj=>j[k]? = some (.lst ((bs t l).map .p))) (ai 10) (jc (bT (U (jJ "bool" i8)))) gp (bs t l) (LL d B l f v t w (qr k) u none) e) _ else _) _) _) _=_;rw[af (by rw[j5];exact m),KO (ok:=λj=>j[k]? = some (.lst ((bs t l).map .p))) g (λq=>LL d B l f v t w (qr k) u q) (λq v=>⟨rfl,rfl⟩) l none];rfl
  rw[tX,K,am];show tX _ _ _ e=_;rw[tX,C,am];exact E)]
 exact jX (r:=bo 8) (a:=U (vC (.bl true))) (k:=k) (e:=e) (y:=.bl true) rfl g rfl g m
theorem KE:∀(u:List P),(∀H ∈ u,H ∈ l)->∀(a m p x:Option D)(S:aA),∃k b q,bc (aY [ai 9,ai 10]) (ng (Ph (n+27))) (u.map λH=>.tup [H,.bl (t H)]) (LL d B l f v t a m p x) S=some (.nx,LL d B l f v t a k b q,S)
 | [],_,a,m,p,x,S=>⟨m,p,x,rfl⟩
 |H::r,w,a,m,p,x,S=>by obtain⟨k,b,q,e⟩:=KE r (λs g=>w s (aH _ g)) a (O (.bl (t H))) (O H) (O (.bl (t H))) S;refine⟨k,b,q,(bj (h:=LL d B l f v t a m (O H) (O (.bl (t H)))) rfl ?_).trans e⟩;have i:=Dr c I h (hw H (w H aF)) (n:=n);unfold ng;rw[ak (e:=LL d B l f v t a (O (.bl (t H))) (O H) (O (.bl (t H)))) (c:=S) (by simp[i])];simp[sF]
end
theorem PF(c:B=y4 B.fams B.roads B.wishes)(I:BP B)(T:∀v,isPart B v->∃t,FT B C 21 v t)(d:List Int){f:Int}(V:0≤f)(hw:∀H ∈ l,gi B H)(s:l.length≤100)(q5 Q y w k x:Option D)(S:aA) :
  ∃X Z q7' u z b A,k9 (Ph (n+29)) (LM (O (fI d)) B l (.int f) q5 Q y w k x) S=some (.nx,(LM (O (fI d)) B l (.int f) X Z q7' u z b),A):=by
 let M:=LM (O (fI d)) B l (.int f)
 obtain⟨v,t,ev,hF⟩:=JR I T d V 3 0 (by decide) (by lia) (n+20);let N:=LL (O (fI d)) B l (.int f) v t
 have p:FT B C 25 v t:=hF.up 1;have hN:=GB (m:=22) hF;have R:bU (Ph (n+29) "_law_fact") [fI d,bg B,.int f,.int 0,.bl false]=some v:=ev;have i:l.length≤1000000:=by lia
 obtain⟨K,e6,rfl⟩:=ol (g:=ai 9) (e:=bL (Ph (n+29) "_law_held") (v4 bI (aW a8) jC iy)) (x:=l) (F:=id) (G:=λH=>.bl (t H)) (S:=S) (Sp:=λA=>A=S) (Inv:=λo=>∃q,o=(M (O v) Q y w q x)) (L:=(M (O v) Q y w none x)) (λH E o A ⟨q,W⟩ j=>by subst W j;have x1:=p.2 H (hw H E) (n+4);exact⟨_,_,rfl,⟨_,rfl⟩,by simp[M,x1],rfl⟩) ⟨none,rfl⟩ rfl
 rw[i5]at e6;obtain⟨u,Sa,ea⟩:=KD c I p hw s (n:=n+3) (O (fI d)) (.int f) (qi 0) w k x K;obtain⟨a,Sb,eb⟩:=KD c I p hw s (n:=n+3) (O (fI d)) (.int f) (qi 1) u k x Sa;have en:=pB c I hN hw s (n:=n+3);obtain⟨r,e7,h7⟩:=ol (g:=ai 10) (e:=vB (jc (bV gp))) (x:=l) (F:=λH=>.bl (t H)) (G:=λH=>.bl (!t H)) (S:=Sb) (Sp:=λA=>A=Sb) (Inv:=λo=>∃q,o=N (qi 1) a k q) (L:=N (qi 1) a k none) (λH E o A ⟨q,W⟩ j=>by subst W j;exact⟨_,_,rfl,⟨_,rfl⟩,by simp[N],rfl⟩) ⟨none,rfl⟩ rfl
 subst h7;obtain⟨q8e,z,b,e8⟩:=KE c I p hw s (n:=n+2) (O (fI d)) (.int f) l (λ_ h=>h) (qi 1) a k x r;refine⟨O v,ql (bs t l),qi 1,q8e,z,b,r,?_⟩
 .unfold k9;rw [ak (e:=(M (O v) Q y w k x)) (c:=K) (by simp [M,R])];rw [ak (e:=N y w k x) (c:=K) (by
   rw[aq,U,aX];show a6 (a6 (if few l=true then a6 (bG _ dF _ l (M (O v) Q y w none x) K) _ else _) _) _=_;rw[af (by rw[j5];exact i),e6];rfl)]
  rw[ak (e:=N (qi 1) a k x) (c:=r) (by show bc (ai 7) (k_ (Ph (n+29))) [.int 0,.int 1] (N y w k x) K=_;rw[bj (h:=N (qi 0) w k x) rfl ea,bj (h:=N (qi 1) u k x) rfl eb];rfl)]
  rw [b6 (by
   have n1:U (bL (Ph (n+29) "truths") (v3 (Y cD bZ) (aP (v2 (vt "not") iy)) (Y cD ce))) (N (qi 1) a k x) r=some (.p (.lst (l.map λH=>P.bl (!t H))),r):=by simp[N,en]
   have n2:U (aX (fK g6) [10] 0 (ai 10) dF (vB (jc (bV gp)))) (N (qi 1) a k x) r=some (.p (.lst (l.map λH=>P.bl (!t H))),r):=by rw[U,aX];show a6 (if few (bs t l)=true then a6 (bG (ai 10) dF _ (bs t l) (N (qi 1) a k none) r) _ else _) _=_;rw[af (by rw[j5,aZ];exact i),e7];rfl
   unfold eT;rw[bV,cP,n1,am,n2,am];show a6 ((Hl (.p (.lst (l.map λH=>P.bl (!t H)))) (.p (.lst (l.map λH=>P.bl (!t H)))) r).map _) _=_;rw[P0,xp (FM (t:=λH=>!t H))];rfl)]
  rw[bE,JE];show a6 (if l.length≤(bs t l).length then some (rS l (bs t l),r) else none) _=_;rw[af (by simp),show rS l (bs t l)=l.map λH=>.tup [H,.bl (t H)] by have:=vG id (λH=>P.bl (t H)) l;rw[i5]at this;exact this];exact e8
theorem MM(a:List Int):bU (Ph (n+30) "law") [fI a]=some (.bl true):=by
 obtain⟨m,r,w,I,G⟩:=Jc (n:=n+23) a;generalize h:y4 m r w=B;have i:B.fams=m:=by rw[<- h];rfl
 have K:B.roads=r:=by rw[<- h];rfl
 have hw:B.wishes=w:=by rw[<- h];rfl
 have c:B=y4 B.fams B.roads B.wishes:=by rw[i,K,hw,h]
 rw[<- i,<- K,<- hw]at I G;clear h i K hw;obtain⟨H,A,R⟩:=LQ I (n:=n+24) a;have E:bU (Ph (n+29) "begin") [bg B]=some (.tup [.tup ((aU B.fams).map jR),.tup (List.replicate B.PR.length (.tup []))]):=Hb (n:=n+25) I;have g:=Ha I;generalize P.tup [.tup ((aU B.fams).map jR),.tup (List.replicate B.PR.length (.tup []))]=b at E g;obtain⟨C,hd,q⟩:=Na I c;have z:∀v,isPart B v->∃t,FT B C 21 v t:=λv T=>Jj I hd q T;have e:∀s ∈ [H,b],gi B s:=λs k=>by
  rcases aQ.mp k with rfl|k
  .exact A
  .rw [fU.mp k];exact g
 have L:=λ(f:Int)(F:0≤f)=>PF c I z a F e (by simp) (n:=n);have o:cm 20 (.tup [bg B,.lst [H,b]])=true:=by have V:=Db I;have W:cm 19 (.lst [H,b])=true:=FN λs k=>eL (e s k).ok (by lia);show(cm 19 (bg B) && (cm 19 (.lst [H,b]) && true))=true;rw[V,W];rfl
 have u:=GK o;have p:bU (Ph (n+29) "_law_plan") [fI a,.int 3]=some (bg B):=G;have l:B.fams.length≤1000000:=by have:=I.f0;lia
 have j:B.roads.length≤1000000:=by have:=I.rl;lia
 have y:B.wishes.length≤1000000:=by have:=I.wl;lia
 obtain⟨X,Z,q7,q8,q9,D,M,N⟩:=L 56 (by decide) none none none none none none [];obtain⟨r5,r6,r7,r8,r9,r10,S2,Q⟩:=L 57 (by decide) X Z q7 q8 q9 D M;rw[JT,aw];show(match wJ _ [O (fI a),none,none,none,none,none,none,none,none,none,none] [] with|some (.rt d,_,S)=>(toP 9 d S).map (λx=>x.fst)|some (.nx,_,_)=>some .non|_=>none)=some (P.bl true);unfold wJ;rw[ak (e:=[O (fI a),O (bg B),none,none,none,none,none,none,none,none,none]) (c:=[]) (by simp[p])];rw[ak (e:=[O (fI a),O (bg B),ql [H,b],none,none,none,none,none,none,none,none]) (c:=[]) (by simp[R,E])];rw[ak (e:=[O (fI a),O (bg B),ql [H,b],qt [bg B,.lst [H,b]],none,none,none,none,none,none,none]) (c:=[]) (by simp[jy,l,j,y])];rw[ak (by show bc (ai 4) (k9 (Ph (n+29))) [.int 56,.int 57] _ []=_;rw[bj rfl N,bj rfl Q];rfl)]
 simp[u]
theorem FZ{K:FG}{H:Hp}{a:Addr}{s:List Int}(l:s.length≤63)(h:DN H)(S:g0 K H a (s.map V.int)):sh K (K6 Gv Att Tb 200 "law") [.ref a] H (λv _=>v=.bl true) (λ_ _ _=>False):=by have e:=MM (n:=170) s;unfold Ph at e;exact MN h S e
end My
set_option tactic.hygienic true
namespace PySem.W.Fast
def tw16265395076513766657:=Nat
def tw12404514408377076032:=Nat
def tw10864143497817474684:=Nat
def tw8954300990260331842:=Nat
def tw2402332703574524709:=Nat
def tw15777529569835470360:=Nat
def tw9885366687782077634:=Nat
def tw1230291231220401988:=Nat
def tw6278330895346156933:=Nat
def tw15147222324304868362:=Nat
def tw10944895062753230117:=Nat
def tw3845695603719601575:=Nat
def tw6648240747762328248:=Nat
def tw8927236943019092343:=Nat
def tw17860986748078686119:=Nat
def tw15063355760618475896:=Nat
def tw11432841482346268811:=Nat
def tw11372889328004060080:=Nat
def tw13598649852286361780:=Nat
def tw5068793842092213176:=Nat
def tw3353736623146204828:=Nat
def tw12148465621574965099:=Nat
def tw11232719183446900671:=Nat
def tw2563068842617447457:=Nat
def tw4744507924720711585:=Nat
def tw7974610040960404097:=Nat
def tw10471321624144949283:=Nat
def tw3070319991499698988:=Nat
def tw1215497999895743591:=Nat
def tw5492037996964860615:=Nat
def tw478351702680214359:=Nat
def tw16925469416115706860:=Nat
def tw3746261130452722619:=Nat
def tw17401205561473627722:=Nat
def tw8206538999050490306:=Nat
def tw6825313191510087925:=Nat
def tw7329386098687859198:=Nat
def tw15753340747859877400:=Nat
def tw13467290484364679667:=Nat
def tw17090162266127607805:=Nat
def tw17640418179247240634:=Nat
def tw18331724025657785089:=Nat
def tw12146597453262529080:=Nat
def tw1143574395500227707:=Nat
def tw3267346086336855393:=Nat
def tw11026987646536660421:=Nat
def tw13124223135747557015:=Nat
def tw10958981800279307924:=Nat
def tw4050847047866028723:=Nat
def tw4980193477085700042:=Nat
def tw3432390884819200310:=Nat
def tw15818825305421005680:=Nat
def tw8773790097804826345:=Nat
def tw11536677676795001447:=Nat
def tw8524300470160375374:=Nat
def tw2749529527886453911:=Nat
def tw14731395307055785658:=Nat
def tw16147065846733495793:=Nat
def tw6303902984875624865:=Nat
def tw6282079499889086617:=Nat
def tw14330501383459525715:=Nat
def tw5137098394250670458:=Nat
def tw10530429910056616572:=Nat
def tw14932639709507383383:=Nat
def tw3134438562931701487:=Nat
def tw15702799631060864958:=Nat
def tw15173372330085635284:=Nat
def tw17991199478667610502:=Nat
def tw6503808231267708714:=Nat
def tw14952138383612855124:=Nat
def tw9058504000053835465:=Nat
def tw7795679550930596286:=Nat
def tw18390369524119122540:=Nat
def tw8603067821175644891:=Nat
def tw10678295849399895496:=Nat
def tw6254945294796091959:=Nat
def tw5126863226908174620:=Nat
def tw12952123115936033380:=Nat
def tw10454832308447213370:=Nat
def tw9171077605468785122:=Nat
def tw16246044277382166931:=Nat
def tw8856000374916991481:=Nat
def tw17427545783252621004:=Nat
def tw16252821733694687039:=Nat
def tw18150265241193698729:=Nat
def tw17964232919689359753:=Nat
def tw7513330495737774808:=Nat
def tw13750523470616556666:=Nat
def tw3417342741333570821:=Nat
def tw7353238196212838066:=Nat
def tw153828372788917130:=Nat
def tw9252555494029058146:=Nat
def tw9277651997023271329:=Nat
def tw2216812353763451198:=Nat
def tw15918288538196186659:=Nat
def tw15102296854302571534:=Nat
def tw4287721357954038617:=Nat
def tw3858033309174342179:=Nat
def tw5676464734076227105:=Nat
def tw16573067596334741336:=Nat
def tw8985478803688333364:=Nat
def tw14537606184099519036:=Nat
def tw1640141732095676499:=Nat
def tw544557501108231305:=Nat
def tw17188871074896682445:=Nat
def tw2649436548351365785:=Nat
def tw6663740607770301264:=Nat
def tw6622614319485797320:=Nat
def tw10560871315005832450:=Nat
def tw11307229263586643248:=Nat
def tw7186028655733614870:=Nat
def tw14657976087310292296:=Nat
def tw8347091733282151532:=Nat
def tw12727558851126009711:=Nat
def tw7205279220945476623:=Nat
def tw10051508625038224769:=Nat
def tw10494739277197446109:=Nat
def tw13721098739957559772:=Nat
def tw5901665657137904370:=Nat
def tw6967704816727368223:=Nat
def tw10522420518255691291:=Nat
def tw2243566319135114584:=Nat
def tw12062819655600639735:=Nat
def tw18350182295383445622:=Nat
def tw9212953534301314710:=Nat
def tw291722123227546655:=Nat
def tw3213377329778703948:=Nat
def tw3598175119494486585:=Nat
def tw4562006138726267260:=Nat
def tw2260344713295274512:=Nat
def tw1443842762177303377:=Nat
def tw9117227195819408405:=Nat
def tw2153340253864731348:=Nat
def tw641247851741417533:=Nat
def tw76293624589485122:=Nat
def tw11481848698246685859:=Nat
def tw13175903919773501613:=Nat
def tw4468952440738897950:=Nat
def tw9180845932778567860:=Nat
def tw14441602469827727305:=Nat
def tw2637792900400323313:=Nat
def tw7368607702235805635:=Nat
def tw16966140677587319268:=Nat
def tw6780991829981220603:=Nat
def tw10245129329355693859:=Nat
def tw15722489216717896375:=Nat
def tw3999767199569204760:=Nat
def tw8157208420248434738:=Nat
def tw18052938040216603398:=Nat
def tw9620960070498737683:=Nat
def tw11844510331454516958:=Nat
def tw14003766978928232559:=Nat
def tw14146795722637188741:=Nat
def tw15392570044643879662:=Nat
def tw7976863822157358190:=Nat
def tw118148470730804833:=Nat
def tw6125793311456767300:=Nat
def tw13852906784450927383:=Nat
def tw6469735121029620315:=Nat
def tw14013812705785520840:=Nat
def tw15019914595272105874:=Nat
def tw12289382936902067212:=Nat
def tw4489221989086838761:=Nat
def tw10891927825713155080:=Nat
def tw521686861776527053:=Nat
def tw17821027655285701851:=Nat
def tw17230723223525453366:=Nat
def tw11060085285617238052:=Nat
def tw3034260227981954811:=Nat
def tw7499309192494873847:=Nat
def tw10322211590531229655:=Nat
def tw16829651656188287893:=Nat
def tw12491927312857716241:=Nat
def tw13610378589528707087:=Nat
def tw15504760268783795157:=Nat
def tw14940622314520073537:=Nat
def tw5310509096357597678:=Nat
def tw17807158930987250756:=Nat
def tw8081325718651211471:=Nat
def tw16766428559413310897:=Nat
def tw476534856863252931:=Nat
def tw9712161784794314829:=Nat
def tw16111196157491659832:=Nat
def tw4602875160143161165:=Nat
def tw11758418243753820973:=Nat
def tw16258260392016462060:=Nat
def tw7042799283622585197:=Nat
def tw6987669538517436636:=Nat
def tw16734579995129246999:=Nat
def tw3997333063606408103:=Nat
def tw14394224424865039616:=Nat
def tw7500013655276575581:=Nat
def tw5191576539555290389:=Nat
def tw7147181775408183233:=Nat
def tw10777695970896461803:=Nat
def tw14238910495638753349:=Nat
def tw9562398461908196216:=Nat
def tw2640214585559622463:=Nat
def tw10340096939628316940:=Nat
def tw11598328088919119282:=Nat
def tw11160907466558208220:=Nat
def tw15659664374578232933:=Nat
def tw859491799949683369:=Nat
def tw11185910598653010266:=Nat
def tw12687306576511634658:=Nat
def tw18391356405703732783:=Nat
def tw10173861555384743922:=Nat
def tw1670276376490370634:=Nat
def tw4754638511563185821:=Nat
def tw13274235596376704571:=Nat
def tw13651209098049396076:=Nat
def tw16219130059013668828:=Nat
def tw10784031181102007002:=Nat
def tw17949505368278179174:=Nat
def tw13153877273476593702:=Nat
def tw15107813907200728445:=Nat
def tw15345409513780461967:=Nat
def tw5961965951797360223:=Nat
def tw7805168833518839148:=Nat
def tw3610651842815449820:=Nat
def tw13641504154372014092:=Nat
def tw7305010267624718435:=Nat
def tw2393484959743128952:=Nat
def tw18293793746153806796:=Nat
def tw9253892940605599789:=Nat
def tw6555255230013891454:=Nat
def tw5317352024819884178:=Nat
def tw9614903373032167611:=Nat
def tw2507716967539548599:=Nat
def tw14707254308353780829:=Nat
def tw7589973661527028761:=Nat
def tw14430865001857166423:=Nat
def tw1041509885982498263:=Nat
def tw17725220558284762011:=Nat
def tw8607496361985782516:=Nat
def tw859101567832421160:=Nat
def tw2920541265966243942:=Nat
def tw8419796389418657248:=Nat
def tw3516124918876129351:=Nat
def tw16238740148536064821:=Nat
def tw9227805889302946861:=Nat
def tw14071312905162482255:=Nat
def tw2530814960772363070:=Nat
def tw15411685046589633441:=Nat
def tw1960133595145748382:=Nat
def tw15332782995036781870:=Nat
def tw18161304588681240414:=Nat
def tw8648407878446407390:=Nat
def tw4460563876076923046:=Nat
def tw10991219427147468004:=Nat
def tw14033192966606185972:=Nat
def tw12328447880161027909:=Nat
def tw11229879261328358126:=Nat
def tw12955848262880955705:=Nat
def tw12357956169382965874:=Nat
def tw5635747563323864724:=Nat
def tw10089456468873133477:=Nat
def tw13614954339057807914:=Nat
def tw9309749031373572260:=Nat
def tw16759284121711136004:=Nat
def tw1136533961271326444:=Nat
def tw7768709863966728062:=Nat
def tw14735819579114223776:=Nat
def tw13051240500330752562:=Nat
def tw15058988278225304543:=Nat
def tw13011514340089331456:=Nat
def tw16693408824191661433:=Nat
def tw9296819943435070693:=Nat
def tw450621826758969441:=Nat
def tw6636372175280062581:=Nat
def tw12221411784401388674:=Nat
def tw9920519831546084876:=Nat
def tw1426294284075263185:=Nat
def tw18062270701162763662:=Nat
def tw1743265867935543051:=Nat
def tw3651729581146768188:=Nat
def tw13267654303936897522:=Nat
def tw18147530362964616141:=Nat
def tw16439128023163945357:=Nat
def tw10667347196567105097:=Nat
def tw17150901030123056349:=Nat
def tw6794943128964437901:=Nat
def tw2005429358615355466:=Nat
def tw18253727709249630149:=Nat
def tw12417493007710909487:=Nat
def tw13173998596317691543:=Nat
def tw16736773527539329413:=Nat
def tw347894929154426333:=Nat
def tw14073991020939896801:=Nat
def tw30785601648940691:=Nat
def tw10828819939856009809:=Nat
def tw2749486051023752961:=Nat
def tw18419063471493831755:=Nat
end PySem.W.Fast
open PySem PySem.W PyProof.Rows
set_option maxRecDepth 100000 in
set_option maxHeartbeats 0 in
theorem PySem.Challenge.cw_roadsall_k41_facts_without_knowing_holds : PySem.Challenge.rw_roadsall_k41_facts_without_knowing.Holds := by
 w_on;o_law;k_head;(case hw=>w_witness2)
 k_fill
 refine L2.Ez (l:=PySem.Challenge.rw_roadsall_k41_facts_without_knowing) (n:=63) (k:=200) (x:="_law_script") (CX:=L2.tu) (sp:=fun K=>Ev.sh K (Ev.K6 My.Gv My.Att My.Tb 200 "law")) rfl (by decide) rfl ⟨rfl,by decide,by decide⟩ (fun w h Y=>PySem.W.kIn_of Y) ?F ?S ?C
 case F=>
  intro w mg fa h KX G hmg
  have T:Ev.TOk w My.Gv My.Att My.Tb (L2.TH KX) mg:=by
   dsimp only [L2.TH]
   refine' My.Nx KX G ?cb ?cs ?hh ?gvs ?gv0 ?gv1 ?z
   case cb=>exact⟨⟨by k_is,by k_is,by k_is,by k_is,by k_is,by k_is,by k_is⟩,by k_is,by k_is,by k_is,by k_is,by k_is,⟨_,_,_,_,_,_,_,_,_,_,by k_is,by k_is,by k_is,by k_is,by k_is⟩,⟨_,_,_,_,_,_,_,_,_,_,by k_is,by k_is,by k_is,by k_is,by k_is⟩,⟨_,_,_,_,_,_,_,_,_,_,by k_is,by k_is,by k_is,by k_is,by k_is⟩⟩
   case cs=>exact⟨⟨by k_is,by k_is,by k_is,by k_is,by k_is,by k_is,by k_is⟩,by k_is,by k_is,by k_is,by k_is,⟨_,_,_,_,_,_,_,_,_,_,by k_is,by k_is,by k_is,by k_is,by k_is⟩,⟨_,_,_,_,_,_,_,_,_,_,by k_is,by k_is,by k_is,by k_is,by k_is⟩,⟨_,_,by k_is,by first|rfl|kernel_rfl⟩⟩
   case hh=>
    intro d hd
    simp only [My.N0,List.mem_cons,List.not_mem_nil,or_false] at hd
    rcases hd with rfl|rfl|rfl|rfl|rfl|rfl|rfl|rfl|rfl|rfl|rfl|rfl|rfl|rfl|rfl|rfl|rfl|rfl|rfl|rfl|rfl|rfl|rfl|rfl|rfl|rfl|rfl|rfl|rfl|rfl|rfl|rfl|rfl|rfl|rfl|rfl|rfl|rfl|rfl|rfl|rfl|rfl|rfl|rfl|rfl|rfl|rfl|rfl|rfl|rfl|rfl|rfl|rfl|rfl|rfl|rfl|rfl|rfl|rfl|rfl|rfl|rfl <;> (dsimp only [My.re,My.gu,My.Pz];exact⟨_,_,_,_,_,_,_,_,_,_,by k_is,by k_is,by k_is,by k_is⟩)
   case gvs=>exact⟨_,_,_,_,_,_,by k_is,by k_is⟩
   case gv0|gv1=>exact⟨_,by k_is⟩
   case z=>
    intro x hx
    simp only [Ev.J_,List.mem_cons,List.not_mem_nil,or_false] at hx
    rcases hx with rfl|rfl|rfl|rfl|rfl|rfl|rfl|rfl|rfl|rfl|rfl|rfl|rfl|rfl|rfl|rfl|rfl|rfl|rfl <;> k_is
  obtain⟨f,fd,h1⟩:=T.fn My.re (by simp [My.Tb,My.N0])
  have e0:=hmg.symm.trans (h1.gl (by decide +kernel))
  cases e0
  refine⟨fd,?_,fun base kb nb=>(Ev.CC T 200).1 My.re (by simp [My.Tb,My.N0]) _ fd h1.fn⟩
  obtain⟨kV,doc,pm,an,cdv,ct,rfl⟩:=h1.pl (by decide +kernel)
  exact fun s v=>.of_eq rfl
 case S=>exact fun w H a ns hl hO hS=>My.FZ hl hO hS
 case C=>exact fun _ _ _ _ z=>z
