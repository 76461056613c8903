import PyProof.Rows.All
import Wide.All
import OpenK.AllK
import Wide.FinOn
import Lean
import PyProof.EqAt
import PyProof.EqKinds
import PyProof.TupleCall
import PySem.Challenge.RW_roadsall_k91_facts_as_texts
set_option Elab.async false
set_option linter.all false
set_option maxRecDepth 100000
set_option maxHeartbeats 4000000
noncomputable section
abbrev VP:=PySem.Value->PySem.Shared->Prop
abbrev PN:=List (PySem.Addr×PySem.Obj)
abbrev SV:=PySem.Str->Option PySem.Value
abbrev Aa:=PySem.Addr->Prop
abbrev LS:=List PySem.Str
abbrev LV:=List PySem.Value
abbrev Ab:=List PySem.Expr
abbrev OV:=Option PySem.Value
abbrev FG:=PySem.W.Frag
open PySem.PyData renaming strOk->fj,eqv->eF,depthAll->o4,canLayAll0->uu,depth->qw,eqvAll->ut,canLay0->A9
open PySem.Builtin.Tuple renaming tupleExact->xq,tupleItemsOf->A8,tupleHashOf->GJ,tupleTooMany->HA
open PySem.W renaming findIn->bL,nsIn->c7,keepIn->eT,emptyDict->iU,codeIn->gd,fnOf->gc,instObj->jH,mg_of->dM,plainGet->o5,callWith_K->sn,hasDictIn->sm,cellsFrom_some->wA,tabObj->si,lookIn->rZ,plainGet_of->wz,plainOver->wy,methodObj->wx,kitx_list->ww,isFn->rV,takerIn->wv,makesIn->wu,noTabs->wr,CodeHd->wq,methodCall_KW->Bf,pyHash_slot->Be,codeRec_of->Bd,specialIn->Bc,handedIn->Bb,OpenLaw->Ba,WalkO->A',KitX->A_
open PySem renaming wpAny_bind->ag,wpAny_pure->aF,wpAny_passesOwn->de,wpAny_mono->bC,wpAny_loadName_local->k8,wpAny_field->eS,wpAny_truthy_bool->jG,wpAny_execs_nil->jF,wpAny_callSpecial?_slot->o3,wpAny_pyIter_tuple->mJ,wpAny_Call_Name_kw->mI,wpAny_pyIter_list->mH,mem_of_lookup->o0,wpAny_holding->k0,wpAny_loadPart'->mG,wpAny_setField_rec->oZ,wpAny_Constant_str->oY,wpAny_getItem_str_slice->rG,wpAny_seqItems->mF,wpAny_newObj_type->oX,wpAny_call_entry->oW,wpAny_Name->jE,call_meets->jD,wpAny_execs_cons->rF,wpAny_pyNext_list_item->wo,codeAny_mono->oV,post_val_or_str->rD,wpAny_pyNext_list_end->wn,sizeLine_eq->oU,codeAny_forLoop_any->wm,wpAny_List_spliced->wj,typeIs_str->oT,typeIs_int->oS,tupleKind_room_in1->wg,wpAny_assign_Name->wf,noFill_tuple_add->we,wpAny_BinOp->rB,Within->wb,JoinOk->wa,wpAny_newFunctionEnv_cells->A7,wpAny_binaryOp_repeat_ref->A6,wpAny_standAt->v_,wpAny_onRaise->v9,seq_tuple_add->v7,wpAny_typeOf->v6,wpAny_Call_method_late->A5,seqSlot_of->A4,meets_dict_get_default->A3,concat_meets->v0,call_meetsIn->vZ,callType_new->vY,wpAny_storeName_local->A2,codeAny_call_function->A1,wpAny_updateSeq_pair->A0,intText?->AZ,wpAny_loadName_cell->AY,wpAny_rule->vX,wpAny_pyIter_ascii->AX,wpAny_call->sK,wpAny_Constant_int->yU,wpAny_sequenceKey->yS,wpAny_Call_method->yR,wpAny_Assign_Name->yQ,slot_list_getitem->yP,slot_dict_getitem->yO,wpAny_pyIter_zip->yN,wpAny_pyHash_str->yM,wpAny_pyHash_int->yL,wpAny_isInstance->yK,wpAny_getItem_of->yJ,wpAny_For->sJ,beq_builtin_none->yI,wpAny_specialOf->yH,wpAny_toks_of->yG,evalPart_none->yF
open Array renaming toList_append->lV,length_toList->sI,toList->sH,getElem?_toList->yE,forIn_toList->yD,size_append->yC
open Bool renaming and_eq_true->aE,false_ne_true->aX,not_eq_true'->lU,eq_iff_iff->lT,false_eq_true->oy,not_true->sG,or_eq_true->yB,not_false->yA,and_self->yz
open List renaming length_cons->ak,mem_cons_self->aM,length_append->aL,mem_cons_of_mem->aW,getElem?_eq_some_iff->bK,mem_cons->aU,length_nil->a',map_cons->a6,size_toArray->bu,all_eq_true->bj,mem_append_right->b5,count_append->bE,replicate_succ->b4,getElem?_append_left->eE,not_mem_nil->ci,append_nil->cg,mem_of_getElem?->d6,lookup->bz,getElem?_set_ne->d5,nil_append->cI,getElem?_append_right->fS,getElem?_set_self->e_,count_cons_self->eD,eq_nil_of_length_eq_zero->iT,mem_append->dD,nodup_cons->d4,length_map->d3,flatten_cons->e6,append_assoc->eZ,length_replicate->iR,length_set->fR,drop_eq_getElem_cons->lS,foldl_cons->hE,count_cons->g_,any_cons->fQ,length_take->iQ,cons_append->iP,mem_map->fP,find?_cons->iO,map_nil->gZ,count_replicate_self->ox,filterMap_cons->lR,zip_cons_cons->lQ,take_of_length_le->ow,getElem?_map->lP,drop_zero->kt,lookup_cons->lO,drop_length->lN,forIn_cons->lM,mem_singleton->ov,mem_replicate->ou,mem_filterMap->oq,mem_of_find?_eq_some->sF,isEmpty_iff->oo,getElem?_replicate->sE,any_eq_true->om,of_mem_zip->ol,mem_filter->oj,replicate_succ'->sD,replicate_zero->sC,map_map->oi,any_eq_false->sB,length_drop->sv,all_toArray->su,find?_some->sr,foldl->oh,getElem?_take_of_lt->yy,take_append_drop->yx,lookup_cons_self->yw,length_singleton->yv,getElem?_eq_none->yu,dropLast_eq_take->yt,mem_append_left->yr,length_pos_iff->yq,reverse_cons->yp,nodup_append->yo,take_length->yn,mem_reverse->ym,getElem_mem->yk,map_append->yj,length_zip->yi,mem_range->yh,drop_drop->yg,length->yf
open Nat renaming le_refl->aq,lt_of_lt_of_le->be,le_trans->a9,ne_of_lt->bg,zero_le->bJ,lt_succ_self->d0,ne_of_gt->fO,add_assoc->iN,mul_comm->iM,lt_irrefl->kr,pow_succ->kq,le_succ->ko,le_of_lt->lL,mul_le_mul_right->sj,succ_ne_zero->sf,le_max_right->se,log2_lt->og,le_max_left->sd,mul_assoc->r_,succ_mul->r9,lt_of_le_of_lt->ye,succ_le_succ->yd,reduceSub->yc,reduceAdd->yb,zero_add->ya,le_of_eq->x',not_lt->x_
abbrev aG:=@of_decide_eq_true
abbrev ac:=@if_pos
abbrev ae:=@if_neg
abbrev a7:=@decide_eq_false
abbrev eY:=@decide_eq_true
abbrev gY:=@decide_eq_true_eq
abbrev ce:=@or_false
abbrev cc:=@congrArg
abbrev km:=@beq_eq_false_iff_ne
abbrev fN:=@if_false
abbrev fM:=@if_true
abbrev lK:=@beq_iff_eq
abbrev oe:=@iff_false
abbrev x9:=@decide_eq_false_iff_not
abbrev rY:=@decide_false
open PySem.Heap renaming get?_push_of_some->aJ,get?_push_size->aS,lt_size->az,SameBut->dC,ExtBut->kj,IsTuple->oa,size_push->rX,IsList->x8
open Option.some renaming inj->iL,injEq->Ey
open Ne renaming symm->bB
open PySem.Calls renaming spliced_cons->eC,callWith_builtin->lJ,spliced_nil->ki,evalArgs_plain->n_,Name_function_global->x6
open PyProof.Rows renaming slot_tuple_getitem->iK,callWith_type1->n7,boot_str->x5,reads_list_at->rW,subscriptTail_builtinR->xZ,iadd_int->xY,tail_any->nZ,entry_tuple_getitem->xX,args_tuple_getitem->xW,replace_dbl->Ex,callWith_builtin1->Ew,boot_zip->Eu,boot_tuple->Et,boot_min->Es,boot_isinstance->Er,boot_int->Ep,boot_bool->Eo,boot_all->En,slicePart_none->xV,tupleItemsOf_->xU
open Int renaming emod_nonneg->gX,emod_lt_of_pos->lI,fdiv_eq_ediv_of_nonneg->xT,toNat_of_nonneg->xS,toNat_natCast->xR,natCast_zero->xQ,natCast_mul->xP,le_of_lt->xO
open PySem.EqNone renaming ne_str_none->Em,ne_none_str->El,ne_none_none->Ek,ne_none_int->Ej,ne_none_bool->Ei,ne_int_none->Eh,ne_bool_none->Eg,eq_str_none->Ef,eq_none_str->Ee,eq_none_none->Ed,eq_none_int->Ec,eq_none_bool->Eb,eq_int_none->Ea,eq_bool_none->D'
open PySem.EqMixed renaming ne_str_int->D_,ne_str_bool->D9,ne_int_str->D8,ne_bool_str->D7,eq_str_int->D6,eq_str_bool->D5,eq_int_str->D4,eq_bool_str->D3
open PySem.Builtin.Str renaming occurrences->lH,strSub->nY,strSliceIndices->xN,glued->xM
open Option renaming map_eq_some_iff->fK,bind_some->lG,map->lF,isSome_iff_exists->xL,getD_none->xK
open PySem.F renaming slot_dict_get->lE,slot_tuple_mul->nX,args_tuple_add_2->rT,entry_tuple_add->rS,args_dict_get_3->rR,slot_tuple_add->rQ,plainAttrs_str->rO,entry_dict_get->rN,slot_str_partition->xJ,args_tuple_mul_2->xI,slot_tuple_rmul->xH,plainAttrs_list->xG,plainAttrs_dict->xF,entry_tuple_mul->xE,type_dict_get->xD,slot_int_rmul->xB
open PySem.Builtin.Slice renaming slicePlaces->nW,sliceAdjust->rM,sliceApplied->xA,slicePartIndex->D2,sliceFields->D1
open PySem.Str renaming cps_append->kh,ofString_eq_toList->rL,length->kg,ext'->rK
open PySem.Builtin.List renaming listTooLong->rJ
open PySem.AutoSeq1 renaming sub_tuple_tuple->xz,idx_int->xy
open List.cons renaming injEq->kf
open PySem.Txt renaming slice_le->nV
open PySem.Builtin.SmallTypes renaming nextOf->fJ,ownedTupleIsFree->xw,ownedTupleHandOut->D0
open PySem.Shared renaming heap->kc
open PySem.PassesOwn renaming never->lD
open PySem.StrLaws renaming sliceText->nU,glued_eq_join->rH,dbl->nT,strSub_toList->xu,partsFrom->xt,sliceText_to->DZ,sliceText_plain->DY
set_option tactic.hygienic false
namespace Nk
open PySem
mutual
noncomputable def kd:PyData->Bool
 | .none=>true
 | .int _=>true
 | .str x=>A9 (.str x)
 | .tuple xs=>Aw xs
 | .bool _=>false
 | .list _=>false
 | .dict _=>false
noncomputable def Aw:List PyData->Bool
 | []=>true
 |x::xs=>kd x && Aw xs
end
mutual
noncomputable def hk(w:World):PyData->Int
 | .none=>PySem.W.hashW w.params .none
 | .int i=>hashInt i
 | .str x=>hashStr w x
 | .tuple xs=>reduceHash (GJ (M9 w xs))
 | .bool _=>0
 | .list _=>0
 | .dict _=>0
noncomputable def M9(w:World):List PyData->List Int
 | []=>[]
 |x::xs=>hk w x::M9 w xs
end
mutual
noncomputable def dr:PyData->Nat
 | .tuple xs=>Og xs+1
 | .none=>1
 | .int _=>1
 | .str _=>1
 | .bool _=>0
 | .list _=>0
 | .dict _=>0
noncomputable def Og:List PyData->Nat
 | []=>0
 |x::xs=>dr x+Og xs
end
noncomputable instance decPD:DecidableEq PyData:=λa b=>Classical.propDecidable (a=b)
section
variable{f:Program}{w:World}{E:VP}
mutual
theorem zE:∀(d:PyData)(v:Value)(as:List Addr)(A:Around)(s:Shared)(Q:Int->Shared->Prop),kd d=true->Reads s.heap v d as->A.units+d.depth < cLine->Q (hk w d) { s with toks:=s.toks+dr d }->wpAny (model f w) A (pyHash v) Q E s
 | .none,_,_,A,s,Q,_,r,hu,h=>by cases r;exact Be (T:="NoneType") rfl F.slot_NoneType_hash F.entry_NoneType_hash (F.args_NoneType_hash_1 _) (yI _) (.inr (by lia)) (ag (aF (ag (wpAny_mkInt (aF ⟨_,_,rfl,h⟩)))))
 | .int _,_,_,_,_,_,_,r,_,h=>by cases r;exact yL h
 | .str _,_,_,_,_,_,_,r,_,h=>by cases r;exact yM h
 | .tuple xs,_,_,A,s,Q,k,r,hu,h=>by
  cases r with
  | @tuple a o vs n _ _ g1 g2 g3 g4=>simp only[qw]at hu;refine Be ⟨o,g1,g2⟩ F.slot_tuple_hash F.entry_tuple_hash (F.args_tuple_hash_1 _) (yI _) (.inr (by lia)) ?_;show wpAny _ _ (A8 (.ref a) >>= _) _ _ s;refine ag (wpAny_tupleItemsOf g1 g3 (ag ?_));rw[<- yD];refine ve xs vs.toList _ A.in1 s #[] _ k g4 (by rw[Around.in1_units];lia) λb e=>?_;show wpAny _ _ (retInt (GJ b.toList)) _ _ _;rw[e];exact ag (wpAny_mkInt (aF ⟨_,_,rfl,h⟩))
 | .bool _,_,_,_,_,_,k,_,_,_ | .list _,_,_,_,_,_,k,_,_,_ | .dict _,_,_,_,_,_,k,_,_,_=>nomatch k
theorem ve:∀(xs:List PyData)(vs:LV)(as:List Addr)(A:Around)(s:Shared)(b:Array Int)(Q:Array Int->Shared->Prop),Aw xs=true->ReadsAll s.heap vs xs as->A.units+o4 xs < cLine ->
  (∀b',b'.toList=b.toList++M9 w xs->Q b' { s with toks:=s.toks+Og xs })->wpAny (model f w) A (forIn vs b λx r=>do let h <- pyHash x;pure PUnit.unit;pure (ForInStep.yield (r.push h))) Q E s
 | [],_,_,_,s,b,_,_,r,_,h=>by cases r;exact aF (h b (by simp[M9]))
 |d::xs,_,_,A,s,b,Q,k,r,hu,h=>by
  cases r with
  |cons r1 r2=>
   simp only[Aw,aE]at k;simp only[o4]at hu;rw[lM];refine ag (ag (zE d _ _ A s _ k.1 r1 (by lia) ?_));refine aF (ve xs _ _ A { s with toks:=s.toks+dr d } _ Q k.2 r2 (by lia) λb' e=>?_);have:=h b' (by rw[e];simp[M9])
   simpa[Og,iN] using this
end
end
mutual
theorem FR:∀d:PyData,kd d=true->d.canLay0=true
 | .none,_ | .int _,_=>rfl
 | .str _,k=>k
 | .tuple xs,k=>by have:=uX xs k;simpa[A9] using this
 | .bool _,k | .list _,k | .dict _,k=>nomatch k
theorem uX:∀xs:List PyData,Aw xs=true->uu xs=true
 | [],_=>rfl
 |d::xs,k=>by simp only[Aw,aE]at k;simp[uu,FR d k.1,uX xs k.2]
end
mutual
theorem Dl:∀a b:PyData,kd a=true->kd b=true->(eF a b=true↔a=b)
 | .none,.none,_,_=>by simp[eF]
 | .none,.int _,_,_ | .none,.str _,_,_ | .none,.tuple _,_,_=>by simp[eF]
 | .int _,.none,_,_ | .int _,.str _,_,_ | .int _,.tuple _,_,_ | .int _,.int _,_,_=>by simp[eF]
 | .str _,.none,_,_ | .str _,.str _,_,_ | .str _,.tuple _,_,_ | .str _,.int _,_,_=>by simp[eF]
 | .tuple _,.none,_,_ | .tuple _,.str _,_,_ | .tuple _,.int _,_,_=>by simp[eF]
 | .tuple xs,.tuple ys,h,k=>by have:=zK xs ys h k;simp[eF,this]
 | .bool _,_,k,_ | .list _,_,k,_ | .dict _,_,k,_=>nomatch k
 | .none,.bool _,_,k | .none,.list _,_,k | .none,.dict _,_,k | .int _,.bool _,_,k | .int _,.list _,_,k | .int _,.dict _,_,k=>nomatch k
 | .str _,.bool _,_,k | .str _,.list _,_,k | .str _,.dict _,_,k | .tuple _,.bool _,_,k | .tuple _,.list _,_,k | .tuple _,.dict _,_,k=>nomatch k
theorem zK:∀xs ys:List PyData,Aw xs=true->Aw ys=true->(ut xs ys=true↔xs=ys)
 | [],[],_,_=>by simp[ut]
 | [],_::_,_,_|_::_,[],_,_=>by simp[ut]
 |x::xs,y::ys,h,k=>by simp only[Aw,aE]at h k;simp[ut,Dl x y h.1 k.1,zK xs ys h.2 k.2]
end
mutual
theorem stay:∀(x:PyData){h h':Heap}{v:Value}{as:List Addr},kd x=true->Reads h v x as->(∀b o,h.get? b=some o->o.cls=.type "tuple"->(∃vs n,o.data=.seq vs n)->h'.get? b=some o)->Reads h' v x as
 | .none,_,_,_,_,_,r,_ | .int _,_,_,_,_,_,r,_ | .str _,_,_,_,_,_,r,_=>by cases r;constructor
 | .tuple xs,_,_,_,_,k,r,q=>by
  cases r with
  |tuple g1 g2 g3 g4=>exact .tuple (q _ _ g1 g2 ⟨_,_,g3⟩) g2 g3 (GV xs k g4 q)
 | .bool _,_,_,_,_,k,_,_ | .list _,_,_,_,_,k,_,_ | .dict _,_,_,_,_,k,_,_=>nomatch k
theorem GV:∀(xs:List PyData){h h':Heap}{vs:LV}{as:List Addr},Aw xs=true->ReadsAll h vs xs as->(∀b o,h.get? b=some o->o.cls=.type "tuple"->(∃vs n,o.data=.seq vs n)->h'.get? b=some o)->ReadsAll h' vs xs as
 | [],_,_,_,_,_,r,_=>by cases r;constructor
 |x::xs,_,_,_,_,k,r,q=>by
  simp only[Aw,aE]at k;cases r with
  |cons r1 r2=>exact .cons (stay x k.1 r1 q) (GV xs k.2 r2 q)
end
section
variable{f:Program}{w:World}{E:VP}
mutual
theorem uL:∀(d:PyData)(n:Nat)(v:Value)(as:List Addr)(A:Around)(s:Shared)(Q:Bool->Shared->Prop),kd d=true->d.depth≤n->Reads s.heap v d as->Q true s->wpAny (model f w) A (eqIsQuiet n v) Q E s
 | .none,n,_,_,_,_,_,_,_,r,q | .int _,n,_,_,_,_,_,_,_,r,q | .str _,n,_,_,_,_,_,_,_,r,q=>by cases r;rw[eqIsQuiet_byValue n rfl];exact aF q
 | .tuple xs,n,_,_,A,s,Q,k,l,r,q=>by
  simp only[qw]at l;obtain⟨n,rfl⟩:∃m,n=m+1:=⟨n-1,by lia⟩;cases r with
  | @tuple a o vs m _ _ g1 g2 g3 g4=>
   have T:s.TypeIs (.ref a) "tuple":=⟨o,g1,g2⟩;unfold eqIsQuiet;refine ag (yH T F.slot_tuple_eq.lookup ?_);show wpAny _ _ (isInstance (.ref a) (.type "tuple") >>= _) _ _ s;refine ag (yK T isSubtype_tuple_tuple ?_);simp only[sG,oy,fN];refine ag (mF g1 g3 (ag ?_));show wpAny _ _ (forIn vs _ _) _ _ s;rw[<- yD];have all:=qJ xs n vs.toList _ A s k (by lia) g4;refine wpAny_forIn_list _ (λrest r s'=>r.1=none/\s'=s/\∀v ∈ rest,∀Q:Bool->Shared->Prop,Q true s->wpAny (model f w) A (eqIsQuiet n v) Q E s) _ ?_ ?_ _ _ ⟨rfl,rfl,λv hv Q=>all v hv Q⟩
   .rintro v rest ⟨r1,r2⟩ s' ⟨e1,e2,hall⟩;subst e2;refine ag (hall v aM _ ?_);simp only[sG,oy,fN];exact aF ⟨rfl,rfl,λu hu=>hall u (aW _ hu)⟩
   .rintro ⟨r1,r2⟩ s' ⟨e1,e2,_⟩;cases e1;cases e2;exact aF q
 | .bool _,_,_,_,_,_,_,k,_,_,_ | .list _,_,_,_,_,_,_,k,_,_,_ | .dict _,_,_,_,_,_,_,k,_,_,_=>nomatch k
theorem qJ:∀(xs:List PyData)(n:Nat)(vs:LV)(as:List Addr)(A:Around)(s:Shared),Aw xs=true->o4 xs≤n->ReadsAll s.heap vs xs as->∀v ∈ vs,∀Q:Bool->Shared->Prop,Q true s->wpAny (model f w) A (eqIsQuiet n v) Q E s
 | [],_,_,_,_,_,_,_,r,v,hv,_,_=>by cases r;cases hv
 |x::xs,n,_,_,A,s,k,l,r,v,hv,Q,q=>by
  simp only[Aw,aE]at k;simp only[o4]at l;cases r with
  |cons r1 r2=>
   rcases aU.mp hv with rfl|hv
   .exact uL x n _ _ A s Q k.1 (by lia) r1 q
   .exact qJ xs n _ _ A s k.2 (by lia) r2 v hv Q q
end
end
def nest(f:Program)(w:World):HeapKind f w PyData where
 is:=λh d a=>kd d=true/\d.depth≤8/\∃n,Reads h (.ref a) d n
 hash:=hk w
 draws:=dr
 room:=λA=>A.units+8 < cLine
 inj:=λx y=>by obtain⟨k,_,_,r⟩:=x;obtain⟨_,_,_,t⟩:=y;exact PySem.SeqAt.Reads.unique _ _ _ _ _ (FR _ k) r t
 keeps:=λx g u H=>by obtain⟨k,l,n,r⟩:=x;refine⟨k,l,n,stay _ k r λb o m _ c=>?_⟩;refine(H.2 b λe=>?_).trans m;subst e;obtain⟨_,_,c⟩:=c;rw[g]at m;cases m;rw[u]at c;cases c
 pyHash:=λi x q=>by obtain⟨k,l,n,r⟩:=x;exact zE _ _ _ _ _ _ k r (by lia) q
 eqBool:=λ{A E s x y a b Q} i j z q=>by
  obtain⟨k,l,n,r⟩:=j;obtain⟨p,S,v,t⟩:=z;have e:=PySem.SeqAt.eqAt_reads x y A s _ _ n v r t (FR _ k) (FR _ p) (by lia);refine e f w E Q ?_;have:eF x y=decide (x=y):=by rw[lT,Dl x y k p,decide_eq_true_iff]
  rw[this];exact q
 quiet:=λx q=>by obtain⟨k,l,n,r⟩:=x;exact uL _ 8 _ _ _ _ _ k l r q
end Nk
set_option Elab.async false
set_option linter.all false
set_option maxRecDepth 100000
namespace L2
open PySem PySem.Spec PyProof.Rows
noncomputable abbrev d8:=Sum Int Str
noncomputable def qM:d8->Value->Bool
 | .inl k,v=>Value.isInt k v
 | .inr x,v=>Value.isStrOf x v
noncomputable def P_(w:World):d8->Int
 | .inl k=>hashInt k
 | .inr x=>hashStr w x
theorem cq:∀{k:d8}{v:Value},qM k v=true->(∃i t,k=Sum.inl i/\v=Value.int i t)\/(∃x t,k=Sum.inr x/\v=Value.str x t)
 | .inl i,v,h=>by obtain⟨t,e⟩:=Value.isInt_shape (k:=i) (v:=v) h;exact .inl ⟨i,t,rfl,e⟩
 | .inr x,v,h=>by obtain⟨t,e⟩:=Value.isStrOf_shape (x:=x) (v:=v) h;exact .inr ⟨x,t,rfl,e⟩
theorem Av(i:Int)(t:Tok):qM (.inl i) (.int i t)=true:=by simp[qM,Value.isInt]
theorem Au(x:Str)(t:Tok):qM (.inr x) (.str x t)=true:=by simp[qM,Value.isStrOf]
theorem Jr(a b:Int):decide ((Sum.inl a:d8)=Sum.inl b)=(a == b):=by
 by_cases e:a=b
 .subst e;simp
 .have h:¬(Sum.inl a:d8)=Sum.inl b:=λq=>e (Sum.inl.inj q);rw[a7 h];exact(km.mpr e).symm
theorem Jo(a b:Str):decide ((Sum.inr a:d8)=Sum.inr b)=decide (a=b):=by
 by_cases e:a=b
 .subst e;simp
 .have h:¬(Sum.inr a:d8)=Sum.inr b:=λq=>e (Sum.inr.inj q);rw[a7 h,a7 e]
theorem Jq(a:Int)(b:Str):decide ((Sum.inl a:d8)=Sum.inr b)=false:=a7 (λq=>nomatch q)
theorem Jp(a:Str)(b:Int):decide ((Sum.inr a:d8)=Sum.inl b)=false:=a7 (λq=>nomatch q)
def bv(prog:Program)(w:World):PySem.KeyKind prog w d8 where
 is:=qM
 hash:=P_ w
 inj:=λv a b c f=>by
  rcases cq c with ⟨i,t,rfl,rfl⟩|⟨x,t,rfl,rfl⟩
  .rcases cq f with ⟨j,u,rfl,e⟩|⟨y,u,rfl,e⟩
   .injection e with s _;rw[s]
   .exact nomatch e
  .rcases cq f with ⟨j,u,rfl,e⟩|⟨y,u,rfl,e⟩
   .exact nomatch e
   .injection e with s _;rw[s]
 byValue:=λk v h=>by rcases cq h with ⟨i,t,rfl,rfl⟩|⟨x,t,rfl,rfl⟩<;>rfl
 pyHash:=λn h=>by
  rcases cq n with ⟨i,t,rfl,rfl⟩|⟨x,t,rfl,rfl⟩
  .exact yL h
  .exact yM h
 eqBool:=λm n h=>by
  rcases cq m with ⟨i,t,rfl,rfl⟩|⟨x,t,rfl,rfl⟩
  .rcases cq n with ⟨j,u,rfl,rfl⟩|⟨y,u,rfl,rfl⟩
   .rw [Jr]at h;exact wpAny_eqBool_int h
   .rw [Jq]at h;exact SeqAt.EqAt.int_str i t y u _ _ _ _ h
  .rcases cq n with ⟨j,u,rfl,rfl⟩|⟨y,u,rfl,rfl⟩
   .rw [Jp]at h;exact SeqAt.EqAt.str_int x t j u _ _ _ _ h
   .rw [Jo]at h;exact wpAny_eqBool_str h
 «strs»:=λk x t v h=>by
  rcases cq h with ⟨i,u,rfl,e⟩|⟨y,u,rfl,e⟩
  .exact nomatch e
  .injection e with s _;subst s;cases v<;>rfl
theorem uT(prog:Program)(w:World)(i:Int)(t:Tok):(bv prog w).is (.inl i) (.int i t)=true:=Av i t
theorem hR(prog:Program)(w:World)(x:Str)(t:Tok):(bv prog w).is (.inr x) (.str x t)=true:=Au x t
inductive V where
 |non|bl (b:Bool)|int (i:Int)|str (x:Str)|byt (b:Array UInt8)|flt (b:UInt64)|ref (a:Addr)|ty (n:String)
 deriving DecidableEq
def RelV:V->Value->Prop
 | .non,u=>u=Value.none
 | .bl b,u=>u=Value.bool b
 | .int i,u=>∃t,u=Value.int i t
 | .str x,u=>∃t,u=Value.str x t
 | .byt b,u=>∃t,u=Value.bytes b t
 | .flt b,u=>∃t,u=Value.float b t
 | .ref a,u=>u=Value.ref a
 | .ty n,u=>u=Value.type n
abbrev a8:List V->LV->Prop:=Paired RelV
variable{j:LV}
theorem a8.length(r:a8 xs j):xs.length=j.length:=Paired.length r
theorem a8.get:∀{xs:List V}{j:LV}{i:Nat}{x:V},a8 xs j->xs[i]? = some x->∃u,j[i]? = some u/\RelV x u
 |_,_,_,_,.nil,e=>by simp at e
 |_,_,0,_,.cons r _,e=>by simp at e;subst e;exact⟨_,rfl,r⟩
 |_,_,i+1,x,.cons _ t,e=>by obtain⟨u,h1,h2⟩:=a8.get (i:=i) (x:=x) t (by simpa using e);exact⟨u,by simpa using h1,h2⟩
theorem a8.append:∀{xs ys:List V}{j w:LV},a8 xs j->a8 ys w->a8 (xs++ys) (j++w)
 |_,_,_,_,.nil,s=>s
 |_,_,_,_,.cons r t,s=>.cons r (a8.append t s)
theorem a8.take:∀{xs:List V}{j:LV}(n:Nat),a8 xs j->a8 (xs.take n) (j.take n)
 |_,_,0,_=>.nil
 |_,_,_+1,.nil=>.nil
 |_,_,n+1,.cons r t=>.cons r (a8.take n t)
theorem a8.drop:∀{xs:List V}{j:LV}(n:Nat),a8 xs j->a8 (xs.drop n) (j.drop n)
 |_,_,0,r=>r
 |_,_,_+1,.nil=>.nil
 |_,_,n+1,.cons _ t=>a8.drop n t
def jB:Option V->OV->Prop
 |some v,some u=>RelV v u
 |none,none=>True
 |_,_=>False
def KV:List (κ×V)->List (κ×Value)->Prop:=Paired λ(p:κ×V)(q:κ×Value)=>p.1=q.1/\RelV p.2 q.2
noncomputable def kV:d8->V
 | .inl i=>.int i
 | .inr x=>.str x
def nR(h:Heap)(a:Addr)(i:Array Value):Prop:=∃o,h.get? a=some o/\(o.cls=.type "tuple"/\∃n,o.data=.seq i n)/\o.dict=none
variable{h:Heap}{a:Addr}
theorem nR.tup(x:nR h a i):IsTup h a i:=by obtain⟨o,e,c,_⟩:=x;exact⟨o,e,c⟩
theorem nR.lt(x:nR h a i):a < h.objs.size:=x.tup.lt
theorem nR.new(h:Heap)(i:Array Value):nR (h.push { cls:=.type "tuple",data:=.seq i }) h.objs.size i:=⟨_,aS _ rfl,⟨rfl,_,rfl⟩,rfl⟩
inductive HO where
 |lst (xs:List V)
 |tup (xs:List V)
 |dK (kvs:List (d8×V))|dT (kvs:List (List d8×V))|dN (kvs:List (PyData×V×V))
 |set (S:Int->Bool) (n:Nat)
 |ins (C dx:Addr) (fs:List (Str×V))
 |own (x:Addr)
 |xd (fs:List (Str×V))
 |met (f x:Addr)
 |rng (lo hi:Int)
 |frz (o:Obj) (u:HO)
 |tbl
 |ext (φ:Heap->Prop)
noncomputable abbrev Hp:=Addr->Option HO
noncomputable def cJ(H:Hp)(a:Addr)(o:HO):Hp:=λb=>if b=a then some o else H b
variable{H:Hp}
theorem ba:cJ H a o a=some o:=by unfold cJ;rw[ac rfl]
variable{b:Addr}
theorem aN(h:b≠a):cJ H a o b=H b:=by unfold cJ;rw[ae h]
theorem bZ(h:H a=some o)(h':H b=none):a≠b:=by intro e;subst e;rw[h]at h';cases h'
noncomputable def MU:Bool->Str
 |false=>"is_closed"
 |true=>"bad_and_final_at"
noncomputable def MS:Bool->Str
 |false=>"is_closed.<locals>.<lambda>"
 |true=>"bad_and_final_at.<locals>.<lambda>"
noncomputable def MT:Bool->Pos
 |false=>⟨551,43,551,83⟩
 |true=>⟨577,39,577,84⟩
def Lq(p:Addr×Obj):Option Addr:=match p.2.data with
 | .fields v=>match (v[1]?:OV),(v[11]?:OV) with
  |some (.str q _),some (.ref P)=>if q=MU false\/q=MU true then some P else none
  |_,_=>none
 |_=>none
def cD(K:FG):List Addr:=K.filterMap Lq
def CY(k:Bool)(o:Obj):Prop:=∃v t,o.data=.fields v/\v[1]? = some (.str (MS k) t)
def He(es:List (Bool×Addr)):LV:=es.flatMap λz=>[rawInt (MT z.1).line,rawInt (MT z.1).col,.ref z.2]
def vP(H:Hp)(h:Heap)(a:Addr):Prop:=∃es,h.get? a=some (si (He es).toArray)/\∀z ∈ es,∃o,H z.2=some (.frz o (.own a))/\CY z.1 o
section
variable(P:Program)(w:World)
def ey(H:Hp)(h:Heap)(a:Addr):HO->Prop
 | .lst xs=>xs.length≤sizeLine/\∃(its:LV)(n:Nat),a8 xs its/\h.get? a=some { cls:=.type "list",data:=.seq its.toArray n }
 | .tup xs=>xs.length≤sizeLine/\∃its:LV,a8 xs its/\nR h a its.toArray
 | .dK kvs=>kvs.length≤sizeLine/\(a == sysModules)=false/\∃vs,KV kvs vs/\h.DictOf (bv P w) a vs
 | .dT kvs=>kvs.length≤sizeLine/\(a == sysModules)=false/\∃xs:List (List d8×Addr×Value),
   Paired (λ(p:List d8×V)(q:List d8×Addr×Value)=>p.1=q.1/\H q.2.1=some (.tup (p.1.map kV))/\RelV p.2 q.2.2) kvs xs /\
   ∃o es ep,h.get? a=some o/\o.ExactDict/\o.data=.dict es ep/\es.toList=xs.map (entryOfKey (tupleKind (bv P w)))/\(xs.map (·.1)).Nodup
 | .dN kvs=>kvs.length≤sizeLine/\(a == sysModules)=false/\∃xs:List (PyData×Addr×Value),Paired (λ(p:PyData×V×V)(q:PyData×Addr×Value)=>p.1=q.1/\p.2.1=V.ref q.2.1/\RelV p.2.2 q.2.2) kvs xs /\
   ∃o es ep,h.get? a=some o/\o.ExactDict/\o.data=.dict es ep/\es.toList=xs.map (entryOfKey (Nk.nest P w))/\(xs.map (·.1)).Nodup
 | .set S n=>h.SetOf (intKind P w) a S n
 | .ins C dx fs=>H dx=some (.own a)/\fs.length≤1000/\dx≠a/\h.get? a=some (jH C dx) /\
   ∃mA,h.Ns1 dx mA/\(∀f,jB (fs.lookup f) (mA f))/\wb mA (fs.map (·.1))
 | .own _=>∃o,h.get? a=some o
 | .xd fs=>∃mA,h.Ns1 a mA/\∀f,jB (fs.lookup f) (mA f)
 | .rng lo hi=>∃t u v,h.get? a=some { cls:=.type "range",data:=.fields #[.int lo t,.int hi u,.int 1 v] }
 | .frz o u=>h.get? a=some o/\ey H h a u
 | .tbl=>vP H h a
 | .met f x=>h.get? a=some (wx (.ref f) (.ref x))
 | .ext φ=>φ h/\(∃o,h.get? a=some o)/\∀h1 h2:Heap,φ h1->(∀o,h1.get? a=some o->h2.get? a=some o)->φ h2
def kN(H:Hp)(h:Heap):Prop:=∀a o,H a=some o->ey P w H h a o
end
section
variable{P:Program}{w:World}{H H':Hp}{h h':Heap}{a:Addr}{o:HO}
theorem ey.lt(x:ey P w H h a o):a < h.objs.size:=by
 cases o with
 |lst xs=>obtain⟨_,_,_,_,e⟩:=x;exact az e
 |tup xs=>obtain⟨_,_,_,p⟩:=x;exact p.lt
 |dK kvs=>obtain⟨_,_,_,_,o,_,_,e,_⟩:=x;exact az e
 |dT kvs=>obtain⟨_,_,_,_,o,_,_,e,_⟩:=x;exact az e
 |dN kvs=>obtain⟨_,_,_,_,o,_,_,e,_⟩:=x;exact az e
 |set S n=>obtain⟨o,_,_,_,e,_⟩:=x;exact az e
 |ins C dx fs=>obtain⟨_,_,_,e,_⟩:=x;exact az e
 |own y=>obtain⟨_,e⟩:=x;exact az e
 |xd fs=>obtain⟨_,⟨_,_,_,e,_⟩,_⟩:=x;exact az e
 |rng lo hi=>obtain⟨_,_,_,e⟩:=x;exact az e
 |frz ob u=>obtain⟨e,_⟩:=x;exact az e
 |tbl=>obtain⟨_,e,_⟩:=(show vP H h a from x);exact az e
 |met f y=>exact az (show h.get? a=some _ from x)
 |ext φ=>obtain⟨_,⟨_,e⟩,_⟩:=x;exact az e
theorem Paired.mapP:∀{l:List α}{h:List i},Paired F l h->(∀a b,F a b->q a b)->Paired q l h
 |_,_,.nil,_=>.nil
 |_,_,.cons r t,f=>.cons (f _ _ r) (Paired.mapP t f)
theorem ey.stay(x:ey P w H h a o)(k:∀b u,(b=a\/H b=some (.own a))->h.get? b=some u->h'.get? b=some u)
  (ho:∀b,H b=some (.own a)->H' b=some (.own a)) (ht:∀b xs,H b=some (.tup xs)->H' b=some (.tup xs))
  (hf:∀b oc,H b=some (.frz oc (.own a))->H' b=some (.frz oc (.own a)):=by first|exact λ_ _ q=>q|exact λ_ _ q=>(aN (bZ q (by assumption))).trans q):ey P w H' h' a o:=by
 induction o with
 |lst xs=>obtain⟨z,its,n,r,e⟩:=x;exact⟨z,its,n,r,k _ _ (.inl rfl) e⟩
 |tup xs=>obtain⟨z,its,r,ob,e,c⟩:=x;exact⟨z,its,r,ob,k _ _ (.inl rfl) e,c⟩
 |dK kvs=>obtain⟨z,y,vs,r,ob,es,ep,e,c⟩:=x;exact⟨z,y,vs,r,ob,es,ep,k _ _ (.inl rfl) e,c⟩
 |dT kvs=>obtain⟨z,y,xs,r,ob,es,ep,e,c⟩:=x;exact⟨z,y,xs,Paired.mapP r λp q z=>⟨z.1,ht _ _ z.2.1,z.2.2⟩,ob,es,ep,k _ _ (.inl rfl) e,c⟩
 |dN kvs=>obtain⟨z,y,xs,r,ob,es,ep,e,c⟩:=x;exact⟨z,y,xs,r,ob,es,ep,k _ _ (.inl rfl) e,c⟩
 |set S n=>obtain⟨ob,es,ep,t,e,c⟩:=x;exact⟨ob,es,ep,t,k _ _ (.inl rfl) e,c⟩
 |ins C dx fs=>obtain⟨d,z,ne,e,mA,⟨od,es,ep,e2,c⟩,r⟩:=x;exact⟨ho _ d,z,ne,k _ _ (.inl rfl) e,mA,⟨od,es,ep,k _ _ (.inr d) e2,c⟩,r⟩
 |own y=>obtain⟨ob,e⟩:=x;exact⟨ob,k _ _ (.inl rfl) e⟩
 |xd fs=>obtain⟨mA,⟨od,es,ep,e,c⟩,r⟩:=x;exact⟨mA,⟨od,es,ep,k _ _ (.inl rfl) e,c⟩,r⟩
 |rng lo hi=>obtain⟨t,u,v,e⟩:=x;exact⟨t,u,v,k _ _ (.inl rfl) e⟩
 |frz ob u ih=>obtain⟨e,q⟩:=x;exact⟨k _ _ (.inl rfl) e,ih q⟩
 |tbl=>obtain⟨ps,e,z⟩:=(show vP H h a from x);refine⟨ps,k a _ (.inl rfl) e,λy hy=>?_⟩;obtain⟨oc,e2,e3⟩:=z y hy;exact⟨oc,hf _ _ e2,e3⟩
 |met f y=>have e:h.get? a=some (wx (.ref f) (.ref y)):=x;show h'.get? a=some (wx (.ref f) (.ref y));exact k a _ (.inl rfl) e
 |ext φ=>obtain⟨p,⟨o,e⟩,st⟩:=x;exact⟨st _ _ p λo q=>k _ _ (.inl rfl) q,⟨o,k _ _ (.inl rfl) e⟩,st⟩
theorem kN.lt(x:kN P w H h)(e:H a=some o):a < h.objs.size:=(x a o e).lt
theorem kN.fresh(x:kN P w H h)(e:h.objs.size≤a):H a=none:=by
 cases q:H a with
 |none=>rfl
 |some u=>exact absurd (be (x.lt q) e) (kr _)
theorem kN.kept(x:kN P w H h)(k:∀b u,h.get? b=some u->h'.get? b=some u):kN P w H h':=λa o e=>
 (x a o e).stay (λb u _ q=>k b u q) (λ_ q=>q) λ_ _ q=>q
theorem kN.laid(x:kN P w H h)(k:∀b u,h.get? b=some u->h'.get? b=some u)(p:h.objs.size≤a)(n:ey P w (cJ H a o) h' a o):kN P w (cJ H a o) h':=λb u e=>by
 have f:=x.fresh p;by_cases s:b=a
 .subst s;rw[ba]at e;cases e;exact n
 .rw [aN s]at e;exact(x b u e).stay (λc v _ q=>k c v q) (λc q=>by rw[aN (bZ q f)];exact q) λc xs q=>by rw[aN (bZ q f)];exact q
end
def Rd(H:Hp)(a:Addr)(u:HO):Prop:=H a=some u\/∃o,H a=some (.frz o u)
theorem Rd.ok{P:Program}{w:World}{H:Hp}{h:Heap}{a:Addr}{u:HO}(r:Rd H a u)(x:kN P w H h):ey P w H h a u:=by
 rcases r with r|⟨o,r⟩
 .exact x a u r
 .obtain⟨_,q⟩:=x a _ r;exact q
def NL:Option HO->Prop
 |some (.lst _)=>True
 |some (.dK _)=>True
 |some (.dT _)=>True
 |some (.dN _)=>True
 |some (.set _ _)=>True
 |some (.ins _ _ _)=>True
 |some (.ext _)=>True
 |_=>False
section
variable{P:Program}{w:World}{H:Hp}{h h':Heap}{x e:Addr}{o':HO}
theorem kN.write(ok:kN P w H h)(m:NL (H x))(i:e=x\/H e=some (.own x))(k:∀b u,b≠e->h.get? b=some u->h'.get? b=some u)(d:∃u,h'.get? e=some u)
  (g:ey P w (cJ H x o') h' x o'):kN P w (cJ H x o') h':=λb u q=>by
 have n:∀c y,H c=some (.own y)->c≠x:=λc y r z=>by subst z;rw[r]at m;exact m
 have t:∀c xs,H c=some (.tup xs)->c≠x:=λc xs r z=>by subst z;rw[r]at m;exact m
 have f:∀c o u,H c=some (.frz o u)->c≠x:=λc o u r z=>by subst z;rw[r]at m;exact m
 by_cases s:b=x
 .subst s;rw[ba]at q;cases q;exact g
 .rw [aN s]at q;by_cases a:b=e
  .have j:H b=some (.own x):=by
    rcases i with z|z
    .exact absurd (a.trans z) s
    .rw [a];exact z
   rw[q]at j;cases j;obtain⟨v,l⟩:=d;exact⟨v,by rw[a];exact l⟩
  .refine (ok b u q).stay (λc v p r=>k c v ?_ r) (λc r=>by rw[aN (n c b r)];exact r) (λc xs r=>by rw[aN (t c xs r)];exact r) (λc S r=>by rw[aN (f c _ _ r)];exact r);rcases p with rfl|p
   .exact a
   .rintro rfl;rcases i with z|z
    .exact n c b p z
    .rw [p]at z;cases z;exact s rfl
end
structure Un(fs ex:List Addr)(H H':Hp)(h h':Heap):Prop where
 keep:∀b o,h.get? b=some o->H b=none->b ∉ fs->b ∉ ex->h'.get? b=some o
 slot:∀b o,h.get? b=some o->H b=none->b ∈ fs->b ∉ ex->∃sl,h'.get? b=some { o with slots:=sl }
 free:∀b o,h.get? b=some o->H b=none->b ∉ ex->H' b=none
 there:∀b o,h.get? b=some o->b ∉ ex->∃o',h'.get? b=some o'
 tups:∀b xs,H b=some (.tup xs)->H' b=some (.tup xs)
 frzs:∀b o u,H b=some (.frz o u)->H' b=some (.frz o u)
 tbls:∀b,H b=some .tbl->H' b=some .tbl
section
variable{fs fs' ex ex':List Addr}{H G H2:Hp}{h h1 h2 h':Heap}{a x e:Addr}{o:HO}
theorem Un.any(u:Un fs ex H G h h1)(q:h.get? b=some i)(n:H b=none)(a:b ∉ ex):∃s,h1.get? b=some { i with slots:=s }:=by
 by_cases x:b ∈ fs
 .exact u.slot b i q n x a
 .exact⟨i.slots,u.keep b i q n x a⟩
theorem Un.kept(k:∀b u,h.get? b=some u->h'.get? b=some u):Un fs ex H H h h':=
 ⟨λb o q _ _ _=>k b o q,λb o q _ _ _=>⟨o.slots,k b o q⟩,λ_ _ _ n _=>n,λb o q _=>⟨o,k b o q⟩,λ_ _ q=>q,λ_ _ _ q=>q,λ_ q=>q⟩
theorem Un.refl:Un fs ex H H h h:=Un.kept λ_ _ q=>q
theorem Un.laid(k:∀b u,h.get? b=some u->h'.get? b=some u)(p:h.objs.size≤a)(x:H a=none):Un fs ex H (cJ H a o) h h' where
 keep:=λb u q _ _ _=>k b u q
 slot:=λb u q _ _ _=>⟨u.slots,k b u q⟩
 free:=λb u q n _=>by rw[aN (bg (be (az q) p))];exact n
 there:=λb u q _=>⟨u,k b u q⟩
 tups:=λb xs q=>by rw[aN (bZ q x)];exact q
 frzs:=λb u xs q=>by rw[aN (bZ q x)];exact q
 tbls:=λb q=>by rw[aN (bZ q x)];exact q
theorem Un.write(m:NL (H x))(p:e=x\/H e=some (.own x))(k:∀b u,b≠e->h.get? b=some u->h'.get? b=some u)(s:∃u,h'.get? e=some u):Un fs ex H (cJ H x o) h h':=by
 have t:∀b,H b=none->b≠x:=λb n z=>by subst z;rw[n]at m;exact m
 have c:∀b,H b=none->b≠e:=λb n z=>by
  subst z;rcases p with r|r
  .exact t b n r
  .rw [n]at r;cases r
 have f:∀b u,H b=some u->¬NL (some u)->b≠x:=λb u q nm z=>by subst z;rw[q]at m;exact nm m
 refine⟨fun b u q n _ _=>k b u (c b n) q,fun b u q n _ _=>⟨u.slots,k b u (c b n) q⟩,fun b u q n _=>by rw [aN (t b n)];exact n,fun b u q _=>?_,
  λb xs q=>by rw[aN (f b _ q λz=>z)];exact q,λb u xs q=>by rw[aN (f b _ q λz=>z)];exact q,λb q=>by rw[aN (f b _ q λz=>z)];exact q⟩
 by_cases a:b=e
 .subst a;exact s
 .exact⟨u,k b u a q⟩
end
noncomputable def trk(h:Heap)(H:Hp):List Addr:=(List.range h.objs.size).filter λa=>(H a).isSome
def ua(h:Heap)(H:Hp):Heap:=PySem.W.hideAll h (trk h H)
theorem Ay(h:Heap)(H:Hp):(ua h H).objs.size=h.objs.size:=PySem.W.hideAll_size _ _
variable{o:Obj}
theorem C6(e:h.get? b=some o)(n:H b=none):(ua h H).get? b=some o:=
 PySem.W.hideAll_get _ e λm=>by have q:(H b).isSome=true:=(oj.mp m).2;rw[n]at q;simp at q
theorem FJ(e:(ua h H).get? b=some o):h.get? b=some o/\H b=none:=by
 have a:h.get? b=some o:=PySem.W.of_hideAll (trk h H) e;refine⟨a,?_⟩;cases q:H b with
 |none=>rfl
 |some x=>have m:b ∈ trk h H:=oj.mpr ⟨yh.mpr (az a),by simp[q]⟩;have z:(ua h H).get? b=none:=PySem.W.hideAll_none (trk h H) m;rw[z]at e;cases e
noncomputable def oR(g h:Heap)(L:Addr):PN:=(List.range h.objs.size).filterMap λa=>if a=L\/(g.get? a).isSome=true then none else (h.get? a).map λo=>(a,o)
variable{g:Heap}{L:Addr}
theorem uU(h1:a≠L)(h2:g.get? a=none)(x:h.get? a=some o):(a,o) ∈ oR g h L:=
 oq.mpr ⟨a,yh.mpr (az x),by simp[h1,h2,x]⟩
set_option tactic.hygienic true in
theorem pB(x:p ∈ oR g h L):p.1≠L/\g.get? p.1=none/\h.get? p.1=some p.2:=by
 obtain⟨b,_,e⟩:=oq.mp x;split at e
 .cases e
 .rename_i n;cases q:h.get? b with
  |none=>rw[q]at e;simp at e
  |some u=>
   rw[q]at e;simp only[Option.map_some,Ey]at e;subst e;refine⟨λz=>n (.inl z),?_,q⟩;show g.get? b=none;cases r:g.get? b with
   |none=>rfl
   |some v=>exact(n (.inr (by simp[r]))).elim
theorem Ct:News g L h (oR g h L):=λp x=>let ⟨a,b,c⟩:=pB x;⟨c,a,b⟩
structure Mod(K:FG)(mg:SV)(base:Heap):Prop where
 kin:K.In base
 glob:base.Ns mainGlobals mg
 blt:∃mb,base.Ns builtinsNs mb/\∀x:Str,x≠"__name__"->mb x=bootBuiltins x
 nolimit:base.NoLimit
 bmain:∃bm ob,mg "__builtins__"=some (.ref bm)/\bm≠builtinsNs/\base.get? bm=some ob/\ob.cls=.type "module"/\ob.dict=some builtinsNs/\ob.data=.plain
structure Cx where
 p:Program
 w:World
 K:FG
 g:SV
 b:Heap
 A:Around
 N:LS
 z:Shared
 y:Hp
 e:Env
 o:List Env
 k:List Env
 ex:List Addr
 fn:Str->Bool
 c:Bool
 pn:PN
 xe:VP
noncomputable def Dd(l:List Env):List Addr:=l.filterMap (·.frame)
abbrev Cx.fs(X:Cx):List Addr:=Dd X.o
def Kf(sc:Scope)(x:Str):Prop:=sc.names.lookup x=some .local\/sc.names.lookup x=some .cell\/sc.names.lookup x=some .free
def Loc(sc:Scope)(x:Str):Prop:=sc.names.lookup x=some .local\/sc.names.lookup x=some .cell
def Look(e:Env)(h:Heap)(m:SV)(x:Str)(u:Value):Prop:=
 (e.kindOf x=some .local/\m x=some u)\/((e.kindOf x=some .cell\/e.kindOf x=some .free)/\∃c,e.cells.lookup x=some c/\h.IsCell c (some u))
structure Cx.Ok(X:Cx):Prop where
 mod:Mod X.K X.g X.b
 kind:X.e.scope.kind=.function
 glob:X.e.globals=mainGlobals
 blt:X.e.builtins=builtinsNs
 above:X.z.heap.objs.size≤X.e.locals
 inj:∀x y c,X.e.cells.lookup x=some c->X.e.cells.lookup y=some c->x=y
 has:∀x,(X.e.kindOf x=some .cell\/X.e.kindOf x=some .free)->∃c,X.e.cells.lookup x=some c
 cab:∀x c,X.fn x=true->X.e.cells.lookup x=some c->X.z.heap.objs.size≤c
 hd:X.c=true->X.A.handled=none
 frames:X.A.frames=some X.k
 stk:X.k=X.o\/(X.k=X.e::X.o/\X.e.frame=some X.e.locals)
 exf:∀b ∈ X.ex,b≠X.e.locals/\∀x c,X.e.cells.lookup x=some c->c≠b
 bs:∀b o,X.b.get? b=some o->X.z.heap.get? b=some o/\X.y b=none
 bsz:X.b.objs.size≤X.z.heap.objs.size
 noex:∀b o,X.b.get? b=some o->b ∉ X.ex
 exfs:∀b ∈ X.ex,b ∉ X.fs
 funs:X.z.heap.FunFrames X.b X.o
 frf:∀b ∈ X.fs,X.y b=none
 tab:∀P ∈ cD X.K,X.y P=some .tbl
structure Inv(X:Cx)(pins:PN)(J:List (Option V))(H:Hp)(s:Shared):Prop where
 o:X.Ok
 os:s.os=X.z.os
 bare:AllBare s.gens
 base:Un X.fs X.ex X.y H X.z.heap s.heap
 loc:∃m,s.heap.Ns X.e.locals m/\∀(i:Nat)(x:Str)(v:V),X.N[i]? = some x->J[i]? = some (some v)->Kf X.e.scope x->∃u,RelV v u/\Look X.e s.heap m x u
 cell:∀x c,X.e.cells.lookup x=some c->∃v,s.heap.IsCell c v
 free:H X.e.locals=none
 freeC:∀x c,X.e.cells.lookup x=some c->H c=none
 pin:∀p ∈ X.pn++pins,s.heap.get? p.1=some p.2/\H p.1=none/\p.1≠X.e.locals/\p.1 ∉ X.fs/\∀v,p.2.data≠.cell v
 h:kN X.p X.w H s.heap
 len:J.length=X.N.length
section
variable{X:Cx}{pins:PN}{J:List (Option V)}{H H':Hp}{s:Shared}{h':Heap}
theorem Cx.Ok.nofr(ok:X.Ok)(e:X.b.get? b=some o):b ∉ X.fs:=λh=>by have:=(ok.funs.mem h).1;rw[e]at this;cases this
theorem Inv.bs(I:Inv X pins J H s):∀b o,X.b.get? b=some o->s.heap.get? b=some o/\H b=none:=λb o e=>
 ⟨I.base.keep b o (I.o.bs b o e).1 (I.o.bs b o e).2 (I.o.nofr e) (I.o.noex b o e),I.base.free b o (I.o.bs b o e).1 (I.o.bs b o e).2 (I.o.noex b o e)⟩
theorem Inv.bk(I:Inv X pins J H s):∀b o,X.b.get? b=some o->s.heap.get? b=some o:=λb o e=>(I.bs b o e).1
theorem Inv.mod(I:Inv X pins J H s):Mod X.K X.g X.b:=I.o.mod
theorem Inv.kIn(I:Inv X pins J H s):X.K.In s.heap:=I.o.mod.kin.keeps I.bk
theorem Inv.fr(I:Inv X pins J H s):∃m,Fr X.b X.e.locals s.heap m:=
 let ⟨m,h,_⟩:=I.loc
 ⟨m,h,I.bk,a9 I.o.bsz I.o.above⟩
theorem Inv.lt(I:Inv X pins J H s):X.e.locals < s.heap.objs.size:=let ⟨_,h,_⟩:=I.loc;h.lt
theorem Inv.sz(I:Inv X pins J H s):X.z.heap.objs.size≤s.heap.objs.size:=a9 I.o.above (lL I.lt)
theorem Inv.nofs(I:Inv X pins J H s)(h:s.heap.objs.size≤a):a ∉ X.fs:=λb=>by obtain⟨_,o,x,_⟩:=I.o.funs.mem b;exact absurd (be (az x) (a9 I.sz h)) (kr _)
theorem Inv.cne(I:Inv X pins J H s):∀x c,X.e.cells.lookup x=some c->c≠X.e.locals:=λx c e z=>by obtain⟨v,o,n,d⟩:=I.cell x c e;obtain⟨m,⟨o',es,p,a,h,_⟩,_⟩:=I.loc;rw[z,a]at n;cases n;rw[h]at d;cases d
theorem Inv.funs(I:Inv X pins J H s):s.heap.FunFrames X.b X.o:=by
 have all:∀(l:List Env),(∀b ∈ Dd l,b ∈ X.fs)->X.z.heap.FunFrames X.b l->s.heap.FunFrames X.b l:=by
  intro l;induction l with
  |nil=>intro _ _;trivial
  |cons n r i=>
   intro a k;obtain⟨hk,⟨L,o,f,c,m,d⟩,t⟩:=k;have h:L ∈ X.fs:=a L (by unfold Dd;rw[lR,f];exact aM);obtain⟨p,e⟩:=I.base.slot L o m (I.o.frf L h) h λz=>I.o.exfs L z h
   exact⟨hk,⟨L,_,f,c,e,d⟩,i (λb x=>a b (by unfold Dd;rw[lR,f];exact aW _ x)) t⟩
 exact all X.o (λ_ x=>x) I.o.funs
theorem Inv.stack(I:Inv X pins J H s):s.heap.FunFrames X.b X.k:=by
 rcases I.o.stk with e|⟨e,h⟩
 .rw [e];exact I.funs
 .rw [e];obtain⟨m,n,_⟩:=I.loc;refine .cons (by rw[I.o.kind];decide) h n ?_ I.funs;exact Heap.get?_none_of_le (a9 I.o.bsz I.o.above)
theorem Inv.stkSub(I:Inv X pins J H s):∀b ∈ Dd X.k,b ∈ X.e.locals::X.fs:=λb h=>by
 rcases I.o.stk with e|⟨e,f⟩
 .rw [e]at h;exact aW _ h
 .rw [e]at h;unfold Dd at h;rw[lR,f]at h;exact h
theorem Inv.stkFree(I:Inv X pins J H s):∀b ∈ Dd X.k,H b=none:=λb h=>by
 rcases aU.mp (I.stkSub b h) with e|h
 .rw [e];exact I.free
 .obtain⟨_,o,x,_⟩:=I.o.funs.mem h;exact I.base.free b o x (I.o.frf b h) λz=>I.o.exfs b z h
theorem Inv.step{g':Array GenState}{t':Nat}{d':Drawn}{ch:List Addr}(I:Inv X pins J H s)
  (a:∀b ∈ ch,(b ∈ X.ex\/X.z.heap.objs.size≤b)/\b≠X.e.locals/\(∀x c,X.e.cells.lookup x=some c->c≠b)/\∀p ∈ X.pn++pins,p.1≠b)
  (t:∀b o,b≠X.e.locals->b ∉ X.fs->b ∉ ch->s.heap.get? b=some o->H b=none->h'.get? b=some o)
  (slot:∀b o,b≠X.e.locals->b ∈ X.fs->b ∉ ch->s.heap.get? b=some o->H b=none->∃G,h'.get? b=some { o with slots:=G }) (f:∀b o,b ∉ ch->s.heap.get? b=some o->H b=none->H' b=none)
  (y:∀b o,b ∉ ch->s.heap.get? b=some o->∃o',h'.get? b=some o')
  (A:∀b xs,H b=some (.tup xs)->H' b=some (.tup xs)) (F:∀b o u,H b=some (.frz o u)->H' b=some (.frz o u)) (P:∀b,H b=some .tbl->H' b=some .tbl)
  (ns:∀m,s.heap.Ns X.e.locals m->h'.Ns X.e.locals m) (E:kN X.p X.w H' h') (W:AllBare g') :
  Inv X pins J H' { s with heap:=h',gens:=g',drawn:=d',toks:=t' }:=by
 have L:∀b o,X.z.heap.get? b=some o->b≠X.e.locals:=λb o e=>bg (be (az e) I.o.above);have C:∀b o,X.z.heap.get? b=some o->b ∉ X.ex->b ∉ ch:=λb o e h j=>by
  rcases(a b j).1 with z|z
  .exact h z
  .exact absurd (be (az e) z) (kr _)
 have K:∀x c,X.e.cells.lookup x=some c->∀v,s.heap.IsCell c v->h'.IsCell c v:=λx c e v hz=>by
  obtain⟨o,S,D⟩:=hz;have w:c ∉ ch:=λz=>(a c z).2.2.1 x c e rfl;by_cases N:c ∈ X.fs
  .obtain⟨G,q⟩:=slot c o (I.cne x c e) N w S (I.freeC x c e);exact⟨_,q,D⟩
  .exact⟨o,t c o (I.cne x c e) N w S (I.freeC x c e),D⟩
 refine⟨I.o,I.os,W,⟨λb o e n j h=>?_,λb o e n j h=>?_,λb o e n h=>?_,λb o e h=>?_,λb xs e=>A b xs (I.base.tups b xs e),λb o xs e=>F b o xs (I.base.frzs b o xs e),λb e=>P b (I.base.tbls b e)⟩,?_,λx c e=>?_,?_,λx c e=>?_,λp Q=>?_,E,I.len⟩
 .exact t b o (L b o e) j (C b o e h) (I.base.keep b o e n j h) (I.base.free b o e n h)
 .obtain⟨G,g⟩:=I.base.slot b o e n j h;obtain⟨M,B⟩:=slot b _ (L b o e) j (C b o e h) g (I.base.free b o e n h);exact⟨M,B⟩
 .obtain⟨o',g⟩:=I.base.there b o e h;exact f b o' (C b o e h) g (I.base.free b o e n h)
 .obtain⟨o',g⟩:=I.base.there b o e h;exact y b o' (C b o e h) g
 .obtain⟨m,hn,Z⟩:=I.loc;refine⟨m,ns m hn,λi x v g B V=>?_⟩;obtain⟨u,r,l⟩:=Z i x v g B V;refine⟨u,r,?_⟩;rcases l with l|⟨k,c,e,z⟩
  .exact .inl l
  .exact .inr ⟨k,c,e,K x c e _ z⟩
 .obtain⟨v,z⟩:=I.cell x c e;exact⟨v,K x c e v z⟩
 .obtain⟨m,⟨o,_,_,S,_⟩,_⟩:=I.loc;exact f _ o (λz=>(a _ z).2.1 rfl) S I.free
 .obtain⟨v,o,S,D⟩:=I.cell x c e;exact f c o (λz=>(a c z).2.2.1 x c e rfl) S (I.freeC x c e)
 .obtain⟨e,n,R,T,d⟩:=I.pin p Q;have w:p.1 ∉ ch:=λz=>(a p.1 z).2.2.2 p Q rfl;exact⟨t p.1 p.2 R T w e n,f p.1 p.2 w e n,R,T,d⟩
theorem Inv.un{t':Nat}(I:Inv X pins J H s)(u:Un X.fs [] H H' s.heap h')(k:kN X.p X.w H' h'):Inv X pins J H' { s with heap:=h',toks:=t' }:=by
 obtain⟨m,⟨o,es,q,f,r⟩,_⟩:=id I.loc;obtain⟨l,L⟩:=u.any f I.free (by simp);exact I.step (g':=s.gens) (d':=s.drawn) (ch:=[]) (λ_ z=>nomatch z) (λb o _ a _ e n=>u.keep b o e n a (by simp)) (λb o _ a _ e n=>u.slot b o e n a (by simp)) (λb o _ e n=>u.free b o e n (by simp)) (λb o _ e=>u.there b o e (by simp)) u.tups u.frzs u.tbls (λv c=>by obtain⟨o',x,p,h,t⟩:=c;rw[f]at h;cases h;exact⟨_,x,p,L,t⟩) k I.bare
theorem Inv.call{g':Array GenState}{t':Nat}{d':Drawn}{ch:List Addr}(I:Inv X pins J H s)(u:Un (Dd X.k) ch H H' s.heap h')(q:kN X.p X.w H' h')(g:AllBare g')
  (a:∀b ∈ ch,(b ∈ X.ex\/X.z.heap.objs.size≤b)/\b≠X.e.locals/\(∀x c,X.e.cells.lookup x=some c->c≠b)/\∀p ∈ X.pn++pins,p.1≠b) :
  Inv X pins J H' { s with heap:=h',gens:=g',drawn:=d',toks:=t' }:=by
 obtain⟨m,⟨o,es,j,v,r⟩,_⟩:=id I.loc;obtain⟨y,L⟩:=u.any v I.free λz=>(a _ z).2.1 rfl;exact I.step (ch:=ch) a (λb o L d h e n=>u.keep b o e n (λz=>(aU.mp (I.stkSub b z)).elim L d) h) (λb o _ _ h e n=>u.any e n h) (λb o h e n=>u.free b o e n h) (λb o h e=>u.there b o e h) u.tups u.frzs u.tbls (λl w=>by obtain⟨o',t,f,k,i⟩:=w;rw[v]at k;cases k;exact⟨_,t,f,L,i⟩) q g
theorem Inv.turned{t':Nat}{i:Addr}(I:Inv X pins J H s)(k:∀b o,b≠i->s.heap.get? b=some o->h'.get? b=some o)(g:H i=none)(L:i≠X.e.locals)
  (h1:i ∈ X.ex\/X.z.heap.objs.size≤i) (h2:∀x c,X.e.cells.lookup x=some c->c≠i) (f:∀p ∈ X.pn++pins,p.1≠i):Inv X pins J H { s with heap:=h',toks:=t' }:=by
 have t:∀b u,H b=some u->b≠i:=λb u e z=>by rw[z,g]at e;cases e
 refine I.step (g':=s.gens) (d':=s.drawn) (ch:=[i]) (λb d=>?_) (λb o _ _ h e _=>k b o (λz=>h (by simp[z])) e) (λb o _ _ h e _=>⟨o.slots,k b o (λz=>h (by simp[z])) e⟩) (λ_ _ _ _ n=>n)
  (λb o h e=>⟨o,k b o (λz=>h (by simp[z])) e⟩) (λ_ _ e=>e) (λ_ _ _ e=>e) (λ_ e=>e) (λm w=>?_) (λb u e=>?_) I.bare
 .have e:b=i:=by simpa using d
  subst e;exact⟨h1,L,h2,f⟩
 .obtain⟨o,es,a,j,r⟩:=w;exact⟨o,es,a,k _ o (bB L) j,r⟩
 .refine (I.h b u e).stay (λc v h q=>k c v ?_ q) (λ_ q=>q) λ_ _ q=>q;rcases h with z|z
  .rw [z];exact t b u e
  .exact t c _ z
theorem Inv.tok(I:Inv X pins J H s)(t:Nat):Inv X pins J H { s with toks:=t }:=I.un (h':=s.heap) (t':=t) Un.refl I.h
theorem Inv.kept{t':Nat}(I:Inv X pins J H s)(k:∀b u,s.heap.get? b=some u->h'.get? b=some u):Inv X pins J H { s with heap:=h',toks:=t' }:=I.un (Un.kept k) (I.h.kept k)
theorem Inv.laid{a:Addr}{o:HO}{t':Nat}(I:Inv X pins J H s)(k:∀b u,s.heap.get? b=some u->h'.get? b=some u)(h:s.heap.objs.size≤a)(n:ey X.p X.w (cJ H a o) h' a o) :
  Inv X pins J (cJ H a o) { s with heap:=h',toks:=t' }:=I.un (Un.laid k h (I.h.fresh h)) (I.h.laid k h n)
theorem Inv.write{x e:Addr}{o:HO}{t:Nat}(I:Inv X pins J H s)(m:NL (H x))(a:e=x\/H e=some (.own x))(k:∀b u,b≠e->s.heap.get? b=some u->h'.get? b=some u)(h:∃u,h'.get? e=some u)
  (n:ey X.p X.w (cJ H x o) h' x o):Inv X pins J (cJ H x o) { s with heap:=h',toks:=t }:=I.un (Un.write m a k h) (I.h.write m a k h n)
theorem Inv.pins_of(I:Inv X pins J H s)(h:∀p ∈ i,s.heap.get? p.1=some p.2/\H p.1=none/\p.1≠X.e.locals/\p.1 ∉ X.fs/\∀v,p.2.data≠.cell v):Inv X i J H s:=
 ⟨I.o,I.os,I.bare,I.base,I.loc,I.cell,I.free,I.freeC,λp x=>(dD.mp x).elim (λz=>I.pin p (yr _ z)) (h p),I.h,I.len⟩
theorem pC{N:LS}(s:N.Nodup){i j:Nat}{x:Str}(a:N[i]? = some x)(b:N[j]? = some x):i=j:=by obtain⟨h1,e⟩:=bK.mp a;obtain⟨h2,h⟩:=bK.mp b;exact(List.getElem_inj s).mp (e.trans h.symm)
theorem qE{M:Model}{A:Around}{E:VP}{i:Nat}{x:Str}{v:V}{u:Value}{Q:Unit->Shared->Prop}(I:Inv X pins J H s)(hN:X.N.Nodup)(hi:X.N[i]? = some x)(l:Loc X.e.scope x)(r:RelV v u)
  (h:∀s',Inv X pins (J.set i (some v)) H s'->(∃a,dC a s.heap s'.heap/\(a=X.e.locals\/X.e.cells.lookup x=some a))->Q () s') (hf:X.fn x=true\/X.e.scope.names.lookup x=some .local:=by first|exact .inl rfl|exact .inr rfl|assumption):wpAny M A (storeName X.e x u) Q E s:=by
 obtain⟨m,hn,hl⟩:=id I.loc;have L:(X.e.scope.kind == .class ||(X.e.scope.kind == .module && X.e.locals != X.e.globals))=false:=by rw[I.o.kind];rfl
 have N:i < J.length:=by rw[I.len];exact(bK.mp hi).1
 have K:=I.cne;have w:∀{a:Addr}{h':Heap},(∃o,s.heap.get? a=some o/\H a=none)->dC a s.heap h'->kN X.p X.w H h':=λ{a h'} ha f b ob e=>by
  obtain⟨_,_,S⟩:=ha;refine(I.h b ob e).stay (λc w' g q=>(f.2 c ?_).trans q) (λ_ q=>q) λ_ _ q=>q;rintro rfl;rcases g with rfl|g
  .rw [S]at e;cases e
  .rw [S]at g;cases g
 rcases l with hk|hk
 .refine A2 hk hn (λh' hn' f=>?_) L;obtain⟨oL,_,_,hoL,_⟩:=id hn;refine h _ ⟨I.o,I.os,I.bare,⟨λb o e n P l=>?_,λb o e n P l=>?_,I.base.free,λb o e l=>?_,I.base.tups,I.base.frzs,I.base.tbls⟩,⟨_,hn',λj y v' t F e3=>?_⟩,λy c e=>?_,I.free,I.freeC,λp hp=>?_,w ⟨oL,hoL,I.free⟩ f,by simpa using I.len⟩ ⟨_,f,.inl rfl⟩
  .exact (f.2 b (bg (be (az e) I.o.above))).trans (I.base.keep b o e n P l)
  .obtain⟨sl,t⟩:=I.base.slot b o e n P l;exact⟨sl,(f.2 b (bg (be (az e) I.o.above))).trans t⟩
  .obtain⟨o',t⟩:=I.base.there b o e l;exact⟨o',(f.2 b (bg (be (az e) I.o.above))).trans t⟩
  .by_cases C:j=i
   .subst C;rw[hi]at t;cases t;rw[e_ N]at F;cases F;exact⟨u,r,.inl ⟨hk,by simp⟩⟩
   .rw [d5 (bB C)]at F;obtain⟨u',r',q⟩:=hl j y v' t F e3;refine⟨u',r',?_⟩;rcases q with ⟨k,e⟩|⟨k,c,e,z⟩
    .refine .inl ⟨k,?_⟩;have:y≠x:=λe=>C (pC hN t (e ▸ hi));simp[this,e]
    .exact .inr ⟨k,c,e,z.sameBut f (K y c e)⟩
  .obtain⟨w',z⟩:=I.cell y c e;exact⟨w',z.sameBut f (K y c e)⟩
  .obtain⟨e,n,Z,nf,d⟩:=I.pin p hp;exact⟨(f.2 p.1 Z).trans e,n,Z,nf,d⟩
 .have B:X.fn x=true:=by
   rcases hf with z|z
   .exact z
   .rw [z]at hk;cases hk
  obtain⟨c,g⟩:=I.o.has x (.inl hk);obtain⟨w',z⟩:=I.cell x c g;refine wpAny_storeName_cell I.o.kind hk g z (λh' D f=>?_);obtain⟨oc,R,T⟩:=id z;refine h { s with heap:=h' } ⟨I.o,I.os,I.bare,⟨λb o e n P l=>?_,λb o e n P l=>?_,I.base.free,λb o e l=>?_,I.base.tups,I.base.frzs,I.base.tbls⟩,⟨m,hn.sameBut f (bB (K x c g)),λj y v' t F e3=>?_⟩,λy W e=>?_,I.free,I.freeC,λp hp=>?_,w ⟨oc,R,I.freeC x c g⟩ f,by simpa using I.len⟩ ⟨c,f,.inr g⟩
  .exact (f.2 b (bg (be (az e) (I.o.cab x c B g)))).trans (I.base.keep b o e n P l)
  .obtain⟨sl,t⟩:=I.base.slot b o e n P l;exact⟨sl,(f.2 b (bg (be (az e) (I.o.cab x c B g)))).trans t⟩
  .obtain⟨o',t⟩:=I.base.there b o e l;exact⟨o',(f.2 b (bg (be (az e) (I.o.cab x c B g)))).trans t⟩
  .by_cases C:j=i
   .subst C;rw[hi]at t;cases t;rw[e_ N]at F;cases F;exact⟨u,r,.inr ⟨.inl hk,c,g,D⟩⟩
   .rw [d5 (bB C)]at F;obtain⟨u',r',q⟩:=hl j y v' t F e3;refine⟨u',r',?_⟩;rcases q with q|⟨k,W,e,z'⟩
    .exact .inl q
    .refine .inr ⟨k,W,e,z'.sameBut f ?_⟩;rintro rfl;exact C (pC hN t (I.o.inj _ _ _ e g ▸ hi))
  .by_cases G:W=c
   .subst G;exact⟨_,D⟩
   .obtain⟨w2,z2⟩:=I.cell y W e;exact⟨w2,z2.sameBut f G⟩
  .obtain⟨e,n,Z,nf,d⟩:=I.pin p hp;refine⟨(f.2 p.1 ?_).trans e,n,Z,nf,d⟩;intro q;rw[q,R]at e;have q':oc=p.2:=iL e;exact d w' (by rw[<- q'];exact T)
theorem lY(I:Inv X pins J H s)(N:X.N.Nodup)(hi:X.N[i]? = some x)(e:Loc X.e.scope x)(r:RelV v u)
  (h:∀s',Inv X pins (J.set i (some v)) H s'->Q () s') (f:X.fn x=true\/X.e.scope.names.lookup x=some .local:=by first|exact .inl rfl|exact .inr rfl|assumption):wpAny M A (storeName X.e x u) Q E s:=
 qE I N hi e r (λs' a _=>h s' a) f
theorem Inv.call'(I:Inv X pins J H s)(n:s'.os=s.os)(u:Un (Dd X.k) q H H' s.heap s'.heap)(o:kN X.p X.w H' s'.heap)(a:AllBare s'.gens)
  (h:∀b ∈ q,(b ∈ X.ex\/X.z.heap.objs.size≤b)/\b≠X.e.locals/\(∀x c,X.e.cells.lookup x=some c->c≠b)/\∀p ∈ X.pn++pins,p.1≠b):Inv X pins J H' s':=by
 obtain⟨h',g,d,t,o'⟩:=s';have e:o'=s.os:=n;subst e;exact I.call (g':=g) (t':=t) (d':=d) u o a h
end
noncomputable abbrev XK:=Value->Option Addr->Hp->Prop
noncomputable abbrev St:=List (Option V)
noncomputable abbrev VK:=V->Hp->Prop
noncomputable abbrev TE:=St->Hp->VK->Prop
noncomputable abbrev TT:=St->Hp->(Bool->Hp->Prop)->Prop
noncomputable abbrev TA:=St->Hp->(List V->Hp->Prop)->Prop
structure Ends where
 nx:St->Hp->Prop
 rt:VK
 bk:St->Hp->Prop:=λ_ _=>False
 ct:St->Hp->Prop:=λ_ _=>False
noncomputable abbrev TS:=Ends->St->Hp->Prop
def EP(X:Cx)(pins:PN)(J:St)(Q:VK)(u:Value)(s':Shared):Prop:=∃v H',Inv X pins J H' s'/\RelV v u/\Q v H'
def TP(X:Cx)(pins:PN)(J:St)(Q:Bool->Hp->Prop)(b:Bool)(s':Shared):Prop:=∃H',Inv X pins J H' s'/\Q b H'
def AP(X:Cx)(pins:PN)(J:St)(Q:List V->Hp->Prop)(j:LV)(s':Shared):Prop:=∃v H',Inv X pins J H' s'/\a8 v j/\Q v H'
def SP(X:Cx)(pins:PN)(D:Ends)(f:Flow)(s':Shared):Prop:=
 match f with
 | .next=>∃h H',Inv X pins h H' s'/\D.nx h H'
 | .brk=>∃h H',Inv X pins h H' s'/\D.bk h H'
 | .cont=>∃h H',Inv X pins h H' s'/\D.ct h H'
 | .ret u=>∃v h H',Inv X pins h H' s'/\RelV v u/\D.rt v H'
def PE(X:Cx)(e:Expr)(t:TE):Prop:=
 ∀(pins:PN)(s:Shared)(J:St)(H:Hp)(Q:VK),Inv X pins J H s->t J H Q->wpAny (model X.p X.w) X.A (eval e X.e) (EP X pins J Q) X.xe s
def PT(X:Cx)(e:Expr)(t:TT):Prop:=
 ∀(pins:PN)(s:Shared)(J:St)(H:Hp)(Q:Bool->Hp->Prop),Inv X pins J H s->t J H Q->wpAny (model X.p X.w) X.A (isTrue e X.e (eval e X.e)) (TP X pins J Q) X.xe s
def PW(X:Cx)(e:Expr)(t:TT):Prop:=
 ∀(w:Sem Value)(pins:PN)(s:Shared)(J:St)(H:Hp)(Q:Bool->Hp->Prop),Inv X pins J H s->t J H Q->wpAny (model X.p X.w) X.A (isTrue e X.e w) (TP X pins J Q) X.xe s
variable{X:Cx}{e:Expr}
theorem PW.pt(h:PW X e t):PT X e t:=h _
def PA(X:Cx)(es:Ab)(t:TA):Prop:=
 ∀(B:Pos)(pins:PN)(s:Shared)(J:St)(H:Hp)(Q:List V->Hp->Prop),Inv X pins J H s->t J H Q->wpAny (model X.p X.w) X.A (spliced (backTo B (starEach es X.e))) (AP X pins J Q) X.xe s
def PS(X:Cx)(st:Stmt)(t:TS):Prop:=
 ∀(pins:PN)(s:Shared)(J:St)(H:Hp)(D:Ends),Inv X pins J H s->t D J H->wpAny (model X.p X.w) X.A (exec st X.e) (SP X pins D) X.xe s
def mD(X:Cx)(st:List Stmt)(t:TS):Prop:=
 ∀(pins:PN)(s:Shared)(J:St)(H:Hp)(D:Ends),Inv X pins J H s->t D J H->wpAny (model X.p X.w) X.A (execs st X.e) (SP X pins D) X.xe s
variable{M:Model}{A:Around}{E:VP}{s:Shared}
theorem bF(h:wpAny M A t Q E s)(e:∀a s,Q a s->q a s):wpAny M A t q E s:=bC h e λ_ _ x=>x
section
variable{X:Cx}
noncomputable def O_(i:Nat):TE:=λJ H Q=>∃v,J[i]? = some (some v)/\Q v H
noncomputable def tC(v:V):TE:=λ_ H Q=>Q v H
theorem Iz(N:X.N[i]? = some x)(q:Kf X.e.scope x)(n:(x == ("__debug__":Str))=false:=by decide)(d:(x == ("__classdict__":Str))=false:=by decide):PE X (.Name x B) (O_ i):=by
 intro pins s J H Q I h;obtain⟨v,e,h⟩:=h;obtain⟨m,p,b⟩:=I.loc;obtain⟨u,r,l⟩:=b i x v N e q;have f:EP X pins J Q u s:=⟨v,H,I,r,h⟩;rcases l with ⟨hk,t⟩|⟨hk,c,k,a⟩
 .exact jE (k8 I.o.kind hk p t f) n
 .rcases hk with hk|hk
  .exact jE (AY I.o.kind hk k a f) n
  .exact jE (wpAny_loadName_free I.o.kind hk k a f d) n
theorem IF {i q B}:PE X (.Constant (.int i) q B) (tC (.int i)):=λ_ _ _ H _ I h=>yU ⟨.int i,H,I.tok _,⟨_,rfl⟩,h⟩
theorem L8 {b q B}:PE X (.Constant (.bool b) q B) (tC (.bl b)):=λ_ _ _ H _ I h=>Constant_bool ⟨.bl b,H,I,rfl,h⟩
theorem IE {q B}:PE X (.Constant .none q B) (tC .non):=λ_ _ _ H _ I h=>Constant_none ⟨.non,H,I,rfl,h⟩
theorem IB {x q B}:PE X (.Constant (.str x) q B) (tC (.str x)):=λ_ _ _ H _ I h=>Calls.Constant_str ⟨.str x,H,I.tok _,⟨_,rfl⟩,h⟩
def Gl(X:Cx)(x:Str):Prop:=X.e.kindOf x=some .globalImplicit
theorem oG(I:Inv X pins J H s)(g:Gl X x)(m:X.g x=some u)(h:Q u s)
  (d:(x == ("__debug__":Str))=false:=by decide):wpAny (model X.p X.w) X.A (eval (.Name x B) X.e) Q E s:=
 x6 I.o.kind g (Calls.loadGlobal_global (by rw[I.o.glob];exact I.mod.glob.keeps I.bk) m h) d
theorem mU(I:Inv X pins J H s)(g:Gl X x)(m:X.g x=none)(v:bootBuiltins x=some u)(h:Q u s)
  (n:x≠"__name__":=by decide) (d:(x == ("__debug__":Str))=false:=by decide):wpAny (model X.p X.w) X.A (eval (.Name x B) X.e) Q E s:=by
 obtain⟨b,h1,h2⟩:=I.mod.blt;exact x6 I.o.kind g (Calls.loadGlobal_builtin (by rw[I.o.glob];exact I.mod.glob.keeps I.bk) m (by rw[I.o.blt];exact h1.keeps I.bk) ((h2 x n).trans v) h) d
theorem tD(g:Gl X x)(m:X.g x=some u)(r:RelV v u)(d:(x == ("__debug__":Str))=false:=by decide):PE X (.Name x B) (tC v):=
 λ_ _ _ H _ I h=>oG I g m ⟨v,H,I,r,h⟩ d
theorem Fy(g:Gl X x)(m:X.g x=none)(a:bootBuiltins x=some u)(r:RelV v u)(n:x≠"__name__":=by decide)(d:(x == ("__debug__":Str))=false:=by decide):PE X (.Name x B) (tC v):=
 λ_ _ _ H _ I h=>mU I g m a ⟨v,H,I,r,h⟩ n d
variable{a b:Expr}{ta tb:TE}{B:Pos}
variable{tA tB':TT}{rest:Ab}
noncomputable def Pp(t u:TT):TT:=λJ H Q=>t J H λc G=>if c=true then u J G Q else Q false G
noncomputable def Q_(t u:TT):TT:=λJ H Q=>t J H λc G=>if c=true then Q true G else u J G Q
noncomputable def Pj(t:TT):TT:=λJ H Q=>t J H λc G=>Q (!c) G
theorem Fa(x:PT X a tA):PW X (.BoolOp .And [a] B) tA:=by
 intro w pins s J H Q I h;refine isTrue_and (bF (x pins s J H Q I h) λc n e=>?_);cases c with
 |true=>exact isTrue_and_nil e
 |false=>exact e
theorem Il(x:PT X a tA):PW X (.BoolOp .Or [a] B) tA:=by
 intro w pins s J H Q I h;refine isTrue_or (bF (x pins s J H Q I h) λc n e=>?_);cases c with
 |false=>exact isTrue_or_nil e
 |true=>exact e
theorem Im(e:PT X a tA)(n:PW X (.BoolOp .And (b::rest) B) tB'):PW X (.BoolOp .And (a::b::rest) B) (Pp tA tB'):=by
 intro w pins s J H Q I h;refine isTrue_and (bF (e pins s J H _ I h) λc k z=>?_);obtain⟨G,x,q⟩:=z;cases c with
 |true=>exact n w pins k J G Q x q
 |false=>exact⟨G,x,q⟩
theorem L0(e:PT X a tA)(n:PW X (.BoolOp .Or (b::rest) B) tB'):PW X (.BoolOp .Or (a::b::rest) B) (Q_ tA tB'):=by
 intro w pins s J H Q I h;refine isTrue_or (bF (e pins s J H _ I h) λc k z=>?_);obtain⟨G,x,q⟩:=z;cases c with
 |true=>exact⟨G,x,q⟩
 |false=>exact n w pins k J G Q x q
theorem Io(x:PT X a tA):PT X (.UnaryOp .Not a B) (Pj tA):=by intro pins s J H Q I h;exact isTrue_not (x pins s J H (λc G=>Q (!c) G) I h)
noncomputable def LG(ta tb:TE):TE:=λJ H Q=>ta J H λx G=>∃c,x=.bl c/\if c=true then tb J G Q else Q (.bl false) G
noncomputable def Pe(ta tb:TE):TE:=λJ H Q=>ta J H λx G=>∃c,x=.bl c/\if c=true then Q (.bl true) G else tb J G Q
noncomputable def Lv(ta:TE):TE:=λJ H Q=>ta J H λx G=>∃c,x=.bl c/\Q (.bl (!c)) G
theorem IC {q} (h:PE X a t):PE X (.BoolOp q [a] B) t:=λpins s J H Q I w=>BoolOp_one (h pins s J H Q I w)
theorem II(n:PE X a ta)(k:PE X (.BoolOp .And (b::rest) B) tb):PE X (.BoolOp .And (a::b::rest) B) (LG ta tb):=by
 intro pins s J H Q I h;refine BoolOp_and (bF (n pins s J H _ I h) λv f z=>?_);obtain⟨x,G,e,r,q⟩:=z;obtain⟨c,rfl,q⟩:=q;cases r;refine jG ?_;cases c with
 |true=>exact k pins f J G Q e q
 |false=>exact⟨.bl false,G,e,rfl,q⟩
theorem L6(n:PE X a ta)(k:PE X (.BoolOp .Or (b::rest) B) tb):PE X (.BoolOp .Or (a::b::rest) B) (Pe ta tb):=by
 intro pins s J H Q I h;refine BoolOp_or (bF (n pins s J H _ I h) λv f z=>?_);obtain⟨x,G,e,r,q⟩:=z;obtain⟨c,rfl,q⟩:=q;cases r;refine jG ?_;cases c with
 |false=>exact k pins f J G Q e q
 |true=>exact⟨.bl true,G,e,rfl,q⟩
theorem ID(n:PE X a ta):PE X (.UnaryOp .Not a B) (Lv ta):=by intro pins s J H Q I h;refine UnaryOp_ (bF (n pins s J H _ I h) λv k z=>?_);obtain⟨x,G,e,r,q⟩:=z;obtain⟨c,rfl,q⟩:=q;cases r;exact not_of (jG ⟨.bl (!c),G,e,rfl,q⟩)
noncomputable def Q'(t:TT)(ta tb:TE):TE:=λJ H Q=>t J H λc G=>if c=true then ta J G Q else tb J G Q
theorem uO(f:PT X c tA)(n:PE X a ta)(k:PE X b tb):PE X (.IfExp c a b B) (Q' tA ta tb):=by
 intro pins s J H Q I h;refine wpAny_IfExp (bF (f pins s J H _ I h) λd e z=>?_);obtain⟨G,x,q⟩:=z;cases d with
 |true=>exact n pins e J G Q x q
 |false=>exact k pins e J G Q x q
end
def jA(K:FG)(H:Hp)(a:Addr)(xs:List V):Prop:=
 Rd H a (.lst xs) \/
  ∃(o:Obj)(i:Array Value)(n:Nat),K.lookup a=some o/\o.cls=.type "list"/\o.dict=none/\o.data=.seq i n/\i.size≤sizeLine/\a8 xs i.toList
def rA(K:FG)(H:Hp)(a:Addr)(xs:List V):Prop:=
 Rd H a (.tup xs) \/
  ∃(o:Obj)(i:Array Value)(n:Nat),K.lookup a=some o/\o.cls=.type "tuple"/\o.dict=none/\o.data=.seq i n/\i.size≤sizeLine/\a8 xs i.toList
noncomputable def Qo:Value->Option V
 | .none=>some .non
 | .bool b=>some (.bl b)
 | .int i _=>some (.int i)
 | .str x _=>some (.str x)
 | .bytes b _=>some (.byt b)
 | .float b _=>some (.flt b)
 | .ref a=>some (.ref a)
 | .type n=>some (.ty n)
 |_=>none
variable{u:Value}
theorem RelV.abs(r:RelV x u):Qo u=some x:=by
 cases x with
 |non=>cases r;rfl
 |bl _=>cases r;rfl
 |int _=>obtain⟨t,rfl⟩:=r;rfl
 |str _=>obtain⟨t,rfl⟩:=r;rfl
 |byt _=>obtain⟨t,rfl⟩:=r;rfl
 |flt _=>obtain⟨t,rfl⟩:=r;rfl
 |ref _=>cases r;rfl
 |ty _=>cases r;rfl
variable{y:V}
theorem RelV.inj(r:RelV x u)(q:RelV y u):x=y:=iL (r.abs.symm.trans q.abs)
theorem a8.inj:∀{xs ys:List V}{j:LV},a8 xs j->a8 ys j->xs=ys
 |_,_,_,.nil,.nil=>rfl
 |_,_,_,.cons r t,.cons h x=>by rw[r.inj h,a8.inj t x]
section
variable{X:Cx}{pins:PN}{J:St}{H:Hp}{s:Shared}{a:Addr}{xs ys:List V}
theorem jA.of{K:FG}(h:H a=some (.lst xs)):jA K H a xs:=.inl (.inl h)
theorem Inv.list(I:Inv X pins J H s)(h:jA X.K H a xs):∃i:LV,a8 xs i/\PlainL s.heap a i.toArray/\xs.length≤sizeLine:=by
 rcases h with h|⟨o,i,n,hk,c,d,x,k,r⟩
 .obtain⟨z,i,n,r,e⟩:=h.ok I.h;exact⟨i,r,⟨_,n,e,rfl,rfl,rfl⟩,z⟩
 .refine⟨i.toList,r,⟨o,n,I.kIn a o hk,c,d,by simpa using x⟩,?_⟩;have e:=r.length;simp only[sI]at e;lia
theorem Inv.tuple(I:Inv X pins J H s)(h:rA X.K H a xs):∃i:LV,a8 xs i/\IsTup s.heap a i.toArray/\xs.length≤sizeLine:=by
 rcases h with h|⟨o,i,n,hk,c,_,x,k,r⟩
 .obtain⟨z,i,r,p⟩:=h.ok I.h;exact⟨i,r,p.tup,z⟩
 .refine⟨i.toList,r,⟨o,I.kIn a o hk,c,n,by simpa using x⟩,?_⟩;have e:=r.length;simp only[sI]at e;lia
theorem Inv.list_inj(I:Inv X pins J H s)(h:jA X.K H a xs)(h':jA X.K H a ys):xs=ys:=by
 obtain⟨t,r,⟨o,n,e,_,_,d⟩,_⟩:=I.list h;obtain⟨i,b,⟨o',c,k,_,_,x⟩,_⟩:=I.list h';rw[e]at k;cases k;rw[d]at x;injection x with f _;have:t=i:=by simpa using cc sH f
 subst this;exact r.inj b
theorem Inv.tuple_inj(I:Inv X pins J H s)(h:rA X.K H a xs)(h':rA X.K H a ys):xs=ys:=by
 obtain⟨t,r,⟨o,e,_,n,d⟩,_⟩:=I.tuple h;obtain⟨i,b,⟨o',k,_,c,x⟩,_⟩:=I.tuple h';rw[e]at k;cases k;rw[d]at x;injection x with f _;have:t=i:=by simpa using cc sH f
 subst this;exact r.inj b
end
noncomputable abbrev Cx.wish(X:Cx)(E:VP):Cx:={ X with xe:=E }
abbrev Cx.nox(X:Cx):Cx:=X.wish λ_ _=>False
theorem Cx.Ok.wish(ok:X.Ok)(E:VP):(X.wish E).Ok:=
 ⟨ok.mod,ok.kind,ok.glob,ok.blt,ok.above,ok.inj,ok.has,ok.cab,ok.hd,ok.frames,ok.stk,ok.exf,ok.bs,ok.bsz,ok.noex,ok.exfs,ok.funs,ok.frf,ok.tab⟩
theorem Cx.Ok.unwish(ok:(X.wish E).Ok):X.Ok:=
 ⟨ok.mod,ok.kind,ok.glob,ok.blt,ok.above,ok.inj,ok.has,ok.cab,ok.hd,ok.frames,ok.stk,ok.exf,ok.bs,ok.bsz,ok.noex,ok.exfs,ok.funs,ok.frf,ok.tab⟩
section
variable{X:Cx}{pins:PN}{J:St}{H:Hp}{s:Shared}{E:VP}
theorem Inv.wish(I:Inv X pins J H s)(E:VP):Inv (X.wish E) pins J H s:=⟨I.o.wish E,I.os,I.bare,I.base,I.loc,I.cell,I.free,I.freeC,I.pin,I.h,I.len⟩
theorem Inv.unwish(I:Inv (X.wish E) pins J H s):Inv X pins J H s:=⟨I.o.unwish,I.os,I.bare,I.base,I.loc,I.cell,I.free,I.freeC,I.pin,I.h,I.len⟩
set_option tactic.hygienic true in
theorem SP.unwish(h:SP (X.wish E) pins D f s'):SP X pins D f s':=by
 cases f with
 |next=>obtain⟨x,H',I,q⟩:=h;exact⟨x,H',I.unwish,q⟩
 |brk=>obtain⟨x,H',I,q⟩:=h;exact⟨x,H',I.unwish,q⟩
 |cont=>obtain⟨x,H',I,q⟩:=h;exact⟨x,H',I.unwish,q⟩
 |ret u=>obtain⟨v,x,H',I,r,q⟩:=h;exact⟨v,x,H',I.unwish,r,q⟩
theorem mD.nox{st:List Stmt}{t:TS}(h:mD X.nox st t):mD X st t:=λpins s J H D I w=>
 bC (h pins s J H D (I.wish _) w) (λ_ _ q=>q.unwish) λ_ _ z=>False.elim z
end
section
variable{X:Cx}{st:Stmt}{rest:List Stmt}{t u:TS}{e:Expr}{te:TE}{B:Pos}
noncomputable def Lx:TS:=λD J H=>D.nx J H
noncomputable def Lr(t u:TS):TS:=λD J H=>t { D with nx:=u D } J H
theorem Fc:mD X [] Lx:=λ_ _ J H _ I h=>jF ⟨J,H,I,h⟩
set_option tactic.hygienic true in
theorem B4(h1:PS X st t)(h2:mD X rest u):mD X (st::rest) (Lr t u):=by
 intro pins s J H D I h;refine rF (bF (h1 pins s J H { D with nx:=u D } I h) λf e q=>?_);cases f with
 |next=>obtain⟨a,H',x,q⟩:=q;exact h2 pins e a H' D x q
 |ret v=>exact q
 |brk=>exact q
 |cont=>exact q
set_option tactic.hygienic true in
theorem Fb(h1:PS X st t):mD X [st] t:=by
 intro pins s J H D I h;refine rF (bF (h1 pins s J H D I h) λf x q=>?_);cases f with
 |next=>exact jF q
 |ret v=>exact q
 |brk=>exact q
 |cont=>exact q
noncomputable def LD:TS:=λD J H=>D.ct J H
theorem uN:PS X (.Continue B) LD:=λ_ _ J H _ I h=>wpAny_Continue ⟨J,H,I,h⟩
theorem Inv.quiet(I:Inv X pins J H s):interactive X.e=false:=by simp[interactive,I.o.kind]
noncomputable def LB(te:TE):TS:=λD J H=>te J H λ_ G=>D.nx J G
theorem Fg(n:PE X e te)(k:swapsWith e none B.line X.e=pure false:=by rfl):PS X (.Expr e B) (LB te):=by intro pins s J H D I h;exact wpAny_Expr_any (bF (n pins s J H _ I h) λv f z=>by obtain⟨x,G,a,r,q⟩:=z;exact⟨J,G,a,q⟩) I.quiet k
noncomputable def Pb(te:TE):TS:=λD J H=>te J H D.rt
theorem Iq(n:PE X e te):PS X (.Return (some e) B) (Pb te):=by intro pins s J H D I h;exact wpAny_Return_some (bF (n pins s J H _ I h) λv k z=>by obtain⟨x,G,a,r,q⟩:=z;exact⟨x,J,G,a,r,q⟩)
noncomputable def Ls:TS:=λD _ H=>D.rt .non H
theorem Fd:PS X (.Return none B) Ls:=λ_ _ J H _ I h=>wpAny_Return_none ⟨.non,J,H,I,rfl,h⟩
noncomputable def Pk(c:TT)(t u:TS):TS:=λD J H=>c J H λb G=>if b=true then t D J G else u D J G
theorem L4{c:Expr}{a b:List Stmt}{tc:TT}(f:PT X c tc)(n:mD X a t)(k:mD X b u):PS X (.If c a b B) (Pk tc t u):=by
 intro pins s J H D I h;refine wpAny_If (bF (f pins s J H _ I h) λd e z=>?_);obtain⟨G,x,q⟩:=z;cases d with
 |true=>exact n pins e J G D x q
 |false=>exact k pins e J G D x q
noncomputable def H_:TS:=λ_ _ _=>False
theorem uM:PS X st H_:=λ_ _ _ _ _ _ h=>h.elim
end
noncomputable abbrev TG:=V->St->Hp->(St->Hp->Prop)->Prop
noncomputable abbrev Hx:=List V->St->Hp->(St->Hp->Prop)->Prop
def PG(X:Cx)(a:Expr)(t:TG):Prop:=
 ∀(pins:PN)(s:Shared)(J:St)(H:Hp)(v:V)(u:Value)(Q:St->Hp->Prop),Inv X pins J H s->RelV v u->t v J H Q ->
  wpAny (model X.p X.w) X.A (assign a X.e u) (λ_ s'=>∃h H',Inv X pins h H' s'/\Q h H') X.xe s
def KI(X:Cx)(x:Ab)(t:Hx):Prop:=
 ∀(pins:PN)(s:Shared)(J:St)(H:Hp)(v:List V)(j:LV)(Q:St->Hp->Prop),Inv X pins J H s->a8 v j->t v J H Q ->
  wpAny (model X.p X.w) X.A (assignInOrder ((assignEach x X.e).map (·.2)) j) (λ_ s'=>∃h H',Inv X pins h H' s'/\Q h H') X.xe s
noncomputable abbrev Qr:=V->V->Hp->VK->Prop
def Ow(X:Cx)(o:Operator)(t:Qr):Prop:=
 ∀(pins:PN)(s:Shared)(J:St)(H:Hp)(x y:V)(v u:Value)(Q:VK),Inv X pins J H s->RelV x v->RelV y u->t x y H Q ->
  wpAny (model X.p X.w) X.A (inplaceOp o v u) (EP X pins J Q) X.xe s
section
variable{X:Cx}{B:Pos}
noncomputable def Hm(i:Nat):TG:=λv J H Q=>Q (J.set i (some v)) H
theorem Fp(N:X.N.Nodup)(hi:X.N[i]? = some x)(e:Loc X.e.scope x)(f:X.fn x=true\/X.e.scope.names.lookup x=some .local:=by first|exact .inl rfl|exact .inr rfl|assumption):PG X (.Name x B) (Hm i):=by intro pins s J H v u Q I r h;exact wf (lY I N hi e r (λs' a=>⟨_,H,a,h⟩) f)
noncomputable def Qd:Hx:=λv J H Q=>v=[]/\Q J H
noncomputable def Na(t:TG)(u:Hx):Hx:=λs J H Q=>∃v r,s=v::r/\t v J H λh H'=>u r h H' Q
theorem Fk:KI X [] Qd:=by intro pins s J H v j Q I r h;obtain⟨e,h⟩:=h;subst e;cases r;exact assignInOrder_nil ⟨J,H,I,h⟩
theorem B9{e:Expr}{es:Ab}{t:TG}{u:Hx}(h1:PG X e t)(h2:KI X es u)
  (k:(assignEach (e::es) X.e).map (·.2)=assign e X.e::(assignEach es X.e).map (·.2):=by rfl):KI X (e::es) (Na t u):=by
 intro pins s J H m j Q I r h;obtain⟨v,c,n,h⟩:=h;subst n;cases r with
 |cons r f=>rw[k];refine assignInOrder_cons (bF (h1 pins s J H _ _ _ I r h) λ_ b z=>?_);obtain⟨a,G,x,q⟩:=z;exact h2 pins b a G _ _ Q x f q
noncomputable def Qb(K:FG)(n:Nat)(t:Hx):TG:=λv J H Q=>∃a xs,v=.ref a/\rA K H a xs/\xs.length=n/\t xs J H Q
theorem Iw(p:X.c=true)(h:KI X es t)
  (q:(assignEach es X.e).length=n:=by rfl) (x:(assignEach es X.e).findIdx? (·.1)=none:=by rfl):PG X (.Tuple es k B) (Qb X.K n t):=by
 intro pins s J H v u Q I r w;obtain⟨a,xs,m,d,l,w⟩:=w;subst m;cases r;obtain⟨j,f,g,z⟩:=I.tuple d;refine assign_Tuple_tuple (I.o.hd p) g (by simp[q,<- l,f.length]) x λh' i=>?_
 have c:Inv X pins J H { s with heap:=h' }:=I.kept (t':=s.toks) λb o e=>i b o (bg (az e)) e;exact h pins _ J H xs _ Q c (by simpa using f) w
noncomputable def LF(te:TE)(g:TG):TS:=λD J H=>te J H λx G=>g x J G D.nx
theorem Iu{tg e:Expr}{te:TE}{g:TG}(n:PE X e te)(k:PG X tg g)(f:swapsWithSole [tg] e B.line X.e=pure false:=by rfl)(w:swappedStores [tg] e X.e=pure none:=by rfl)
  (h1:(assignEach [tg] X.e).map (·.2)=[assign tg X.e]:=by rfl):PS X (.Assign [tg] e B) (LF te g):=by
 intro pins s J H D I h;refine wpAny_Assign_stores (bF (n pins s J H _ I h) λv c z=>?_) f w;obtain⟨x,G,a,r,b⟩:=z;rw[h1];exact bF (k pins c J G x v _ a r b) λ_ m q=>q
theorem Ip(N:X.N.Nodup)(hi:X.N[i]? = some x)(c:Loc X.e.scope x)(k:PE X e te)(b:swapsWith e (some (.Name x pos')) B.line X.e=pure false:=by rfl)(f:X.fn x=true\/X.e.scope.names.lookup x=some .local:=by first|exact .inl rfl|exact .inr rfl|assumption) :
  PS X (.Assign [.Name x pos'] e B) (LF te (Hm i)):=by
 intro pins s J H D I h;refine yQ (bF (k pins s J H _ I h) λv m z=>?_) b;obtain⟨y,G,a,r,q⟩:=z;exact lY a N hi c r (λt n=>⟨_,G,n,q⟩) f
noncomputable def Po(i:Nat)(te:TE)(t:Qr):TS:=λD J H=>∃x,J[i]? = some (some x)/\te J H λy G=>t x y G λz H2=>D.nx (J.set i (some z)) H2
set_option tactic.hygienic true in
theorem wU(N:X.N.Nodup)(hi:X.N[i]? = some x)(b:Loc X.e.scope x)(K:PE X e te)(L:Ow X q ti)(P:X.fn x=true\/X.e.scope.names.lookup x=some .local:=by first|exact .inl rfl|exact .inr rfl|assumption) :
  PS X (.AugAssign (.Name x pos') q e B) (Po i te ti):=by
 intro pins s J H D I h;obtain⟨v,S,h⟩:=h;obtain⟨m,E,A⟩:=I.loc;have p:Kf X.e.scope x:=by rcases b with k|k;exact .inl k;exact .inr (.inl k)
 obtain⟨u,r,l⟩:=A i x v hi S p;refine wpAny_AugAssign_Name ?_;have g:wpAny (model X.p X.w) X.A (eval e X.e) (λw n=>wpAny (model X.p X.w) X.A (inplaceOp q u w) (λr f=>wpAny (model X.p X.w) X.A (storeName X.e x r) (λ_=>SP X pins D .next) X.xe f) X.xe n) X.xe s:=by refine bF (K pins s J H _ I h) λw V t=>?_;obtain⟨y,G,d,R,M⟩:=t;refine bF (L pins V J G v y u w _ d r R M) λz W t=>?_;obtain⟨zv,H2,j,T,Q⟩:=t;exact lY j N hi b T (λZ o=>⟨_,H2,o,Q⟩) P
 rcases l with ⟨hk,C⟩|⟨hk,c,F,a⟩
 .exact k8 I.o.kind hk E C g
 .rcases hk with hk|hk
  .exact AY I.o.kind hk F a g
  .rcases b with k|k
   .have:X.e.scope.names.lookup x=some .free:=hk;rw[k]at this;cases this
   .have:X.e.scope.names.lookup x=some .free:=hk;rw[k]at this;cases this
noncomputable def QI(f:Int->Int->Int):Qr:=λx y H Q=>∃i j,x=.int i/\y=.int j/\Q (.int (f i j)) H
theorem Jx:Ow X .Add (QI λi j=>i+j):=by intro pins s J H x y v u Q I r n h;obtain⟨i,j,e,a,q⟩:=h;subst e;subst a;obtain⟨t,rfl⟩:=r;obtain⟨k,rfl⟩:=n;exact xY ⟨.int _,H,I.tok _,⟨_,rfl⟩,q⟩
theorem Jw:Ow X .Sub (QI λi j=>i-j):=by intro pins s J H x y v u Q I r n h;obtain⟨i,j,e,a,q⟩:=h;subst e;subst a;obtain⟨t,rfl⟩:=r;obtain⟨k,rfl⟩:=n;exact isub_int ⟨.int _,H,I.tok _,⟨_,rfl⟩,q⟩
end
section
variable{X:Cx}{B:Pos}
noncomputable def H0(c:TT)(tb:TS):TS:=λD J H=>∃W:Nat->St->Hp->Prop,(∃m,W m J H)/\∀m J H,W m J H ->
 c J H λb G=>if b=true then ∃N:St->Hp->Prop,(∀h H',N h H'->∃x,x < m/\W x h H')/\tb { D with nx:=N,ct:=N,bk:=D.nx } J G else D.nx J G
set_option tactic.hygienic true in
theorem B5(l:PassesOwn (model X.p X.w) X.A X.e X.xe)(o:PT X c tc)(z:mD X q tb):PS X (.While c q [] B) (H0 tc tb):=by
 intro pins s J H D I h;obtain⟨W,⟨F,A⟩,t⟩:=h;refine wpAny_While (codeAny_whileLoop (λn s'=>∃i H',Inv X pins i H' s'/\W n i H') ?_ F ⟨J,H,I,A⟩);rintro n K ⟨e,G,y,C⟩;refine de l (bF (o pins K e G _ y (t n e G C)) λb P S=>?_);obtain⟨H2,g,k⟩:=S;cases b with
 |true=>
  obtain⟨N,j,k⟩:=k;rw[ac rfl];refine de l (bF (z pins P e H2 _ g k) λf E m=>?_);cases f with
  |next=>obtain⟨a,x,r,w⟩:=m;obtain⟨d,p,u⟩:=j a x w;exact⟨d,p,a,x,r,u⟩
  |cont=>obtain⟨a,x,r,w⟩:=m;obtain⟨d,p,u⟩:=j a x w;exact⟨d,p,a,x,r,u⟩
  |brk=>exact m
  |ret v=>exact m
 |false=>rw[ae aX];exact jF ⟨e,H2,g,k⟩
end
structure It where
 go:Nat->Hp->Prop
 yld:Nat->Hp->V->Hp->Prop
 stop:Nat->Hp->Prop
def mE(X:Cx)(pins:PN)(H:Hp)(b:Addr):Prop:=
 H b=none/\b≠X.e.locals/\b ∉ X.fs/\(b ∈ X.ex\/X.z.heap.objs.size≤b)/\(∀x c,X.e.cells.lookup x=some c->c≠b)/\∀p ∈ X.pn++pins,p.1≠b
variable{pins:PN}{J:St}
theorem Inv.fpOk(I:Inv X pins J H s)(h:s.heap.objs.size≤b)(n:H' b=none):mE X pins H' b:=by
 refine⟨n,fO (be I.lt h),I.nofs h,.inr (a9 I.sz h),λx c e z=>?_,λp a z=>?_⟩
 .obtain⟨v,q⟩:=I.cell x c e;exact absurd (be q.lt (by rw[z];exact h)) (kr _)
 .exact absurd (be (az (I.pin p a).1) (by rw[z];exact h)) (kr _)
structure Turn(P:Program)(w:World)(K:FG)(tg:Expr)(J9:It)(fp:List Addr)(it:Addr)(tn:Nat->Heap->Prop):Prop where
 mem:it ∈ fp
 obj:∀i h,tn i h->∀b ∈ fp,∃o,h.get? b=some o/\∀v,o.data≠.cell v
 keep:∀i h h',tn i h->(∀b ∈ fp,∀o,h.get? b=some o->h'.get? b=some o)->tn i h'
 item:∀(X:Cx),X.p=P->X.w=w->X.K=K->X.c=true->∀(i:Nat)(pins:PN)(s:Shared)(J:St)(H:Hp)(E:VP),Inv X pins J H s->(∀b ∈ fp,mE X pins H b)->tn i s.heap->J9.go i H ->
  wpAny (model P w) X.A (pyNext (.ref it)) (fun r s1=>∃u,r=some u /\
   wpAny (model P w) X.A (letOwnedTupleGo tg (.ref it) u) (λ_ s2=>∃x H',Inv X pins J H' s2/\RelV x u/\J9.yld i H x H'/\tn (i+1) s2.heap/\∀b ∈ fp,H' b=none) E s1) E s
 done:∀(X:Cx),X.p=P->X.w=w->X.K=K->X.c=true->∀(i:Nat)(pins:PN)(s:Shared)(J:St)(H:Hp)(E:VP),Inv X pins J H s->(∀b ∈ fp,mE X pins H b)->tn i s.heap->J9.stop i H ->
  wpAny (model P w) X.A (pyNext (.ref it)) (λr s1=>r=none/\Inv X pins J H s1) E s
 self:∀(A:Around)(i:Nat)(s:Shared)(Q:VP)(E:VP),tn i s.heap->Q (.ref it) s->wpAny (model P w) A (pyIter (.ref it)) Q E s
noncomputable abbrev TI:=St->Hp->(It->Hp->Prop)->Prop
def KH(X:Cx)(pins:PN)(J:St)(tg:Expr)(R:It->Hp->Prop)(i:Value)(s:Shared):Prop:=
 ∃(t:Addr)(f:List Addr)(n:Nat->Heap->Prop)(h:It)(H':Hp),i=.ref t/\Inv X pins J H' s/\Turn X.p X.w X.K tg h f t n/\n 0 s.heap/\(∀b ∈ f,mE X pins H' b)/\R h H'
def PI(X:Cx)(tg iter:Expr)(w:TI):Prop:=
 ∀(pins:PN)(s:Shared)(J:St)(H:Hp)(R:It->Hp->Prop),Inv X pins J H s->w J H R ->
  wpAny (model X.p X.w) X.A (eval iter X.e) (λv h=>wpAny (model X.p X.w) X.A (pyIter v) (KH X pins J tg R) X.xe h) X.xe s
variable{tg:Expr}
theorem vf(e:s.heap.get? i=some o)(c:o.cls=.type n)(d:o.data=.fields q)
    (a:["enumerate","zip","dict_itemiterator","dict_reverseitemiterator","odict_iterator","itertools.zip_longest","itertools.pairwise"].contains n=false) (x:Q () s):wpAny M A (letOwnedTupleGo tg (.ref i) u) Q E s:=by
  unfold letOwnedTupleGo;cases tg<;>first
    |exact aF x
    | (cases u <;> first
        |exact aF x
        | (refine ag (wpAny_load e ?_)
           rw[c,d];show wpAny M A (if (["enumerate","zip","dict_itemiterator","dict_reverseitemiterator","odict_iterator","itertools.zip_longest","itertools.pairwise"].contains n && q[0]? == some (rawInt _))=true then _ else _) Q E s;rw[ae (by intro h;rw[a,Bool.false_and]at h;cases h)];exact aF x))
noncomputable def Oz(K:FG)(a:Addr):It:=
 ⟨λi H=>∃xs x,jA K H a xs/\xs[i]? = some x,λi H x H'=>H'=H/\∀xs,jA K H a xs->xs[i]? = some x,λi H=>∃xs,jA K H a xs/\xs.length≤i⟩
noncomputable def QV(K:FG)(a:Addr):It:=
 ⟨λi H=>∃xs x,rA K H a xs/\xs[i]? = some x,λi H x H'=>H'=H/\∀xs,rA K H a xs->xs[i]? = some x,λi H=>∃xs,rA K H a xs/\xs.length≤i⟩
noncomputable def NN(lo:Int)(n:Nat):It:=⟨λi _=>i < n,λi H x H'=>H'=H/\x=.int (lo+i),λi _=>n≤i⟩
variable{w:World}{K:FG}
theorem qD(a t:Addr):Turn P w K tg (Oz K a) [t] t (λi h=>h.IsListIter t a i) where
 mem:=by simp
 obj:=λi h st b n=>by
  have e:b=t:=by simpa using n
  subst e;obtain⟨o,e,c,d⟩:=st;exact⟨o,e,λv z=>by rw[d]at z;cases z⟩
 keep:=λi h h' st k=>st.at λo e=>k t (by simp) o e
 item:=by
  intro X F B S L i pins s J H E I m st A;subst F B S;obtain⟨xs,x,q,C⟩:=A;obtain⟨D,G,p,V⟩:=I.list q;obtain⟨u,R,W⟩:=G.get C;obtain⟨r,g,Q,j,l,y⟩:=m t (by simp);refine wo st p.isList (x:=u) (by simpa using R) λh' f Z=>?_
  have M:Inv X pins J H { s with heap:=h' }:=I.turned (t':=s.toks) (λb o n e=>(Z.2 b n).trans e) r g j l y;obtain⟨o,e,c,d⟩:=id f;exact⟨u,rfl,vf (s:={ s with heap:=h' }) e c d (by decide) ⟨x,H,M,W,⟨rfl,λys T=>by rw[I.list_inj T q];exact C⟩,f,λb n=>(m b n).1⟩⟩
 done:=by intro X F B S L i pins s J H E I m st A;subst F B S;obtain⟨xs,q,C⟩:=A;obtain⟨D,G,p,V⟩:=I.list q;obtain⟨r,g,Q,j,l,y⟩:=m t (by simp);have hl:=G.length;exact wn (I.o.hd L) st p.isList (by simp;lia) λh' N=>⟨rfl,I.turned (t':=s.toks) (λb o n e=>N b o n e) r g j l y⟩
 self:=λ_ _ _ _ _ st h=>wpAny_pyIter_listiter st h
theorem o_(a t:Addr):Turn P w K tg (QV K a) [t] t (λi h=>h.IsTupleIter t a i) where
 mem:=by simp
 obj:=λi h st b n=>by
  have e:b=t:=by simpa using n
  subst e;obtain⟨o,e,c,d⟩:=st;exact⟨o,e,λv z=>by rw[d]at z;cases z⟩
 keep:=λi h h' st k=>st.at λo e=>k t (by simp) o e
 item:=by
  intro X A C F L i pins s J H E I r st B;subst A C F;obtain⟨xs,x,q,D⟩:=B;obtain⟨f,G,p,V⟩:=I.tuple q;obtain⟨u,R,W⟩:=G.get D;obtain⟨g,j,Q,l,y,S⟩:=r t (by simp);refine wpAny_pyNext_tuple_item st (show s.heap.IsTuple a f.toArray from p) (x:=u) (by simpa using R) λh' m Z=>?_
  have M:Inv X pins J H { s with heap:=h' }:=I.turned (t':=s.toks) (λb o n e=>(Z.2 b n).trans e) g j l y S;obtain⟨o,e,c,d⟩:=id m;exact⟨u,rfl,vf (s:={ s with heap:=h' }) e c d (by decide) ⟨x,H,M,W,⟨rfl,λys T=>by rw[I.tuple_inj T q];exact D⟩,m,λb n=>(r b n).1⟩⟩
 done:=by intro X A C F L i pins s J H E I r st B;subst A C F;obtain⟨xs,q,D⟩:=B;obtain⟨f,G,p,V⟩:=I.tuple q;obtain⟨g,j,Q,l,y,S⟩:=r t (by simp);have hl:=G.length;exact wpAny_pyNext_tuple_end (I.o.hd L) st (show s.heap.IsTuple a f.toArray from p) (by simp;lia) λh' N=>⟨rfl,I.turned (t':=s.toks) (λb o n e=>N b o n e) g j l y S⟩
 self:=λ_ _ _ _ _ st h=>wpAny_pyIter_tupleiter st h
theorem wG(x:Addr)(lo:Int)(n:Nat):Turn P w K tg (NN lo n) [x] x (λi h=>IsRangeIter h x (lo+(i:Nat) * 1) ((n:Int)-(i:Nat)) 1) where
 mem:=by simp
 obj:=λi h st b a=>by
  have e:b=x:=by simpa using a
  subst e;exact⟨_,st,λv z=>by have D:Data.fields _=Data.cell v:=z;cases D⟩
 keep:=λi h h' st k=>k x (by simp) _ st
 item:=by
  intro X g y u j i pins s J H E I c st l;subst g y u;obtain⟨m,r,A,p,q,d⟩:=c x (by simp);have W:=Walks.range (prog:=X.p) (w:=X.w) (I.o.hd j) x lo 1 n;refine W.item i s _ _ l st λv h' tk B f C=>?_
  obtain⟨t,rfl⟩:=B;have S:Inv X pins J H { s with heap:=h',toks:=tk }:=I.turned (λb o a e=>C b o (by simpa using a) e) m r p q d;refine⟨_,rfl,vf (s:={ s with heap:=h',toks:=tk }) (n:="range_iterator") f rfl rfl (by decide) ⟨.int (lo+i),H,S,⟨t,?_⟩,⟨rfl,rfl⟩,f,λb a=>(c b a).1⟩⟩;rw[Int.mul_one]
 done:=by intro X g y u j i pins s J H E I c st l;subst g y u;obtain⟨m,r,A,p,q,d⟩:=c x (by simp);exact wpAny_pyNext_range_end (I.o.hd j) st (by have:n≤i:=l;lia) λh' F=>⟨rfl,I.turned (t':=s.toks) (λb o a e=>F b o a e) m r p q d⟩
 self:=λ_ _ _ _ _ st h=>wpAny_pyIter_rangeiter st h
section
variable{X:Cx}{tg:Expr}
theorem uK{lo hi:Int}{t u v:Tok}{tk:Nat}(I:Inv X pins J H s)(h1:-(2 ^ 62)≤lo)(h2:lo < 2 ^ 62)(n:-(2 ^ 62)≤hi)(k:hi < 2 ^ 62)
  (q:R (NN lo (hi-lo).toNat) H):wpAny (model X.p X.w) X.A (pyIter (.ref s.heap.objs.size)) (KH X pins J tg R) E { s with heap:=s.heap.push { cls:=.type "range",data:=.fields #[.int lo t,.int hi u,.int 1 v] },toks:=tk }:=by
 refine wpAny_pyIter_range (IsRange.new ..) (small_one h1 h2 n k) ?_;have h:Inv X pins J H { s with heap:=s.heap.push { cls:=.type "range",data:=.fields #[.int lo t,.int hi u,.int 1 v] },toks:=tk }:=I.kept fun b o e=>aJ _ e;refine⟨(s.heap.push { cls:=.type "range",data:=.fields #[.int lo t,.int hi u,.int 1 v] }).objs.size,[(s.heap.push { cls:=.type "range",data:=.fields #[.int lo t,.int hi u,.int 1 v] }).objs.size],_,_,H,rfl,
  h.kept (t':=tk) λb o e=>aJ _ e,wG _ lo (hi-lo).toNat,?_,λb f=>?_,q⟩
 .have x:lo+((0:Nat):Int) * 1=lo:=by simp
  have a:(((hi-lo).toNat:Nat):Int)-((0:Nat):Int)=Builtin.Range.rangeSize lo hi 1:=by rw[rangeSize_one];split<;>lia
  show IsRangeIter _ _ (lo+((0:Nat):Int) * 1) ((((hi-lo).toNat:Nat):Int)-((0:Nat):Int)) 1;rw[x,a];exact aS _ rfl
 .have e:b=(s.heap.push { cls:=.type "range",data:=.fields #[.int lo t,.int hi u,.int 1 v] }).objs.size:=by simpa using f
  subst e;exact h.fpOk (aq _) (h.h.fresh (aq _))
noncomputable def M7(ta:TA):TI:=λJ H R=>ta J H λv G=>∃j:Int,v=[.int j]/\-(2 ^ 62)≤j/\j < 2 ^ 62/\R (NN 0 j.toNat) G
noncomputable def M6(ta:TA):TI:=λJ H R=>ta J H λv G=>∃i j:Int,v=[.int i,.int j]/\(-(2 ^ 62)≤i/\i < 2 ^ 62/\-(2 ^ 62)≤j/\j < 2 ^ 62)/\R (NN i (j-i).toNat) G
theorem Ai{a:Expr}{ta:TA}{p B:Pos}(g:Gl X "range")(m:X.g "range"=none)(f:PA X [a] ta)(b:starEach [a] X.e=[(false,eval a X.e)]:=by rfl):PI X tg (.Call (.Name "range" p) [a] [] B) (M7 ta):=by
 intro pins s J H R I h;refine Call_ (mU I g m boot_range (n7 (bF (f B pins s J H _ I h) λj w z=>?_) b rfl));obtain⟨u,G,k,v,n⟩:=z;obtain⟨x,e,n,c,q⟩:=n;subst e;cases v with
 |cons r d=>cases d;obtain⟨t,rfl⟩:=r;exact call_range_1 (uK k (by lia) (by lia) n c (by simpa using q))
theorem Ah{a b:Expr}{ta:TA}{p B:Pos}(g:Gl X "range")(v:X.g "range"=none)(m:PA X [a,b] ta)(d:starEach [a,b] X.e=[(false,eval a X.e),(false,eval b X.e)]:=by rfl)(n:starEach [b] X.e=[(false,eval b X.e)]:=by rfl) :
  PI X tg (.Call (.Name "range" p) [a,b] [] B) (M6 ta):=by
 intro pins s J H R I h;refine Call_ (mU I g v boot_range (n7 (bF (m B pins s J H _ I h) λj S z=>?_) (by rw[d,n]) (by rw[n];rfl)));obtain⟨K,G,c,o,k⟩:=z;obtain⟨i,x,e,⟨k,w,u,l⟩,q⟩:=k;subst e;cases o with
 |cons r f=>
  cases f with
  |cons y f=>cases f;obtain⟨t,rfl⟩:=r;obtain⟨F,rfl⟩:=y;exact call_range_2 (uK c k w u l q)
noncomputable def LA(w:TI)(g:TG)(tb:TS):TS:=λD J H=>w J H λh G=>∃W:Nat->Nat->St->Hp->Prop,(∃m,W 0 m J G)/\∀i m J H,W i m J H ->
 (h.stop i H/\D.nx J H)\/(h.go i H/\∃N:St->Hp->Prop,(∀a H',N a H'->∃e,e < m/\W (i+1) e a H')/\∀x H',h.yld i H x H'->g x J H' λs H2=>tb { D with nx:=N,ct:=N,bk:=D.nx } s H2)
noncomputable def jK(f:List Addr)(h:Heap):PN:=f.filterMap λb=>(h.get? b).map λo=>(b,o)
theorem dj(x:b ∈ q)(e:h.get? b=some o):(b,o) ∈ jK q h:=oq.mpr ⟨b,x,by rw[e];rfl⟩
theorem Al(s:p ∈ jK i h):p.1 ∈ i/\h.get? p.1=some p.2:=by
 obtain⟨b,a,e⟩:=oq.mp s;cases q:h.get? b with
 |none=>rw[q]at e;cases e
 |some o=>rw[q]at e;have x:(b,o)=p:=iL e;subst x;exact⟨a,q⟩
theorem Inv.pinned(I:Inv X pins J H s)(k:∀b ∈ fp,mE X pins H b)(c:∀b ∈ fp,∃o,s.heap.get? b=some o/\∀v,o.data≠.cell v):Inv X (pins++jK fp s.heap) J H s:=
 I.pins_of λp m=>(dD.mp m).elim (λz=>I.pin p (b5 _ z)) λz=>by obtain⟨x,e⟩:=Al z;obtain⟨f,a,n,_⟩:=k p.1 x;obtain⟨o,h,d⟩:=c p.1 x;rw[e]at h;cases h;exact⟨e,f,a,n,d⟩
theorem Inv.unpinned(I:Inv X (pins++q) J H s):Inv X pins J H s:=I.pins_of λp h=>I.pin p (b5 _ (yr _ h))
set_option tactic.hygienic true in
theorem Ir{iter:Expr}{y:List Stmt}{wi:TI}{g:TG}{tb:TS}{B:Pos}(K:PassesOwn (model X.p X.w) X.A X.e X.xe)(hc:X.c=true)(hi:PI X tg iter wi)(hg:PG X tg g)(t:mD X y tb)
  (hs:∀x,foldedSetIterable iter X.e x=pure x:=by intro _;rfl):PS X (.For tg iter y [] B) (LA wi g tb):=by
 intro pins s J H D I h;refine sJ (bF (hi pins s J H _ I h) λv s1 h1=>bF h1 λitv s2 h2=>?_) hs;obtain⟨it,S,tn,J9,H2,e,I2,T,V,f2,W,⟨m0,w0⟩,E⟩:=h2;subst e;have p:∀{H':Hp},(∀b ∈ S,H' b=none)->∀b ∈ S,mE X pins H' b:=λhn b t=>⟨hn b t,(f2 b t).2⟩
 refine wm (λn s'=>∃i j H',Inv X pins j H' s'/\tn i s'.heap/\(∀b ∈ S,H' b=none)/\W i n j H') ?_ m0 ⟨0,J,H2,I2,V,λb t=>(f2 b t).1,w0⟩;rintro n s3 ⟨i,l,G,I3,A,F,w3⟩;rcases E i n l G w3 with ⟨C,qn⟩|⟨go,N,hN,step⟩
 .refine de K (bF (T.done X rfl rfl rfl hc i pins s3 l G X.xe I3 (p F) A C) λr s4 z=>?_);obtain⟨Q,I4⟩:=z;subst Q;exact jF ⟨l,G,I4,qn⟩
 .refine de K (bF (T.item X rfl rfl rfl hc i pins s3 l G X.xe I3 (p F) A go) λr s4 z=>?_);obtain⟨u,Q,h4⟩:=z;subst Q;refine de K (bF h4 λ_ s5 z=>?_);obtain⟨x,Z,I5,r5,y5,w,M⟩:=z;have L:=I5.pinned (p M) (T.obj _ _ w);refine de K (bF (hg _ s5 l Z x u _ L r5 (step x Z y5)) λ_ s6 z=>?_);obtain⟨J6,H6,I6,q6⟩:=z;refine de K (bF (t _ s6 J6 H6 _ I6 q6) λf R q=>?_);have again:∀{c:St}{a:Hp},Inv X (pins++jK S s5.heap) c a R->N c a->∃m,m < n/\∃i j H',Inv X pins j H' R/\tn i R.heap/\(∀b ∈ S,H' b=none)/\W i m j H':=λ{c a} k P=>by
   obtain⟨m',hm,w7⟩:=hN c a P;refine⟨m',hm,i+1,c,a,k.unpinned,T.keep _ _ _ w λb t o e=>(k.pin (b,o) (b5 _ (b5 _ (dj t e)))).1,λb t=>?_,w7⟩;obtain⟨o,e,d⟩:=T.obj _ _ w b t;exact(k.pin (b,o) (b5 _ (b5 _ (dj t e)))).2.1
  cases f with
  |next=>obtain⟨c,a,k,P⟩:=q;exact again k P
  |cont=>obtain⟨c,a,k,P⟩:=q;exact again k P
  |brk=>obtain⟨c,a,k,q⟩:=q;exact⟨c,a,k.unpinned,q⟩
  |ret v=>obtain⟨x7,c,a,k,r7,q⟩:=q;exact⟨x7,c,a,k.unpinned,r7,q⟩
end
noncomputable abbrev R2:=V->V->Hp->VK->Prop
def iC(X:Cx)(f:Value->Value->Sem Value)(r:R2):Prop:=
 ∀(pins:PN)(s:Shared)(J:St)(H:Hp)(x y:V)(v u:Value)(Q:VK),Inv X pins J H s->RelV x v->RelV y u->r x y H Q ->
  wpAny (model X.p X.w) X.A (f v u) (EP X pins J Q) X.xe s
def Qp(X:Cx)(f:Value->Sem Value)(r:V->Hp->VK->Prop):Prop:=
 ∀(pins:PN)(s:Shared)(J:St)(H:Hp)(x:V)(v:Value)(Q:VK),Inv X pins J H s->RelV x v->r x H Q ->
  wpAny (model X.p X.w) X.A (f v) (EP X pins J Q) X.xe s
def ez(X:Cx)(f:Value)(r:List V->Hp->VK->Prop):Prop:=
 ∀(pins:PN)(s:Shared)(J:St)(H:Hp)(xs:List V)(j:LV)(Q:VK),Inv X pins J H s->a8 xs j->r xs H Q ->
  wpAny (model X.p X.w) X.A (call f j) (EP X pins J Q) X.xe s
def Qq(X:Cx)(r:V->Hp->(Bool->Hp->Prop)->Prop):Prop:=
 ∀(pins:PN)(s:Shared)(J:St)(H:Hp)(x:V)(v:Value)(Q:Bool->Hp->Prop),Inv X pins J H s->RelV x v->r x H Q ->
  wpAny (model X.p X.w) X.A (truthy v) (TP X pins J Q) X.xe s
noncomputable def GR(r:R2)(ta tb:TE):TE:=λJ H Q=>ta J H λx G=>tb J G λy H2=>r x y H2 Q
noncomputable def Q8(r:V->Hp->VK->Prop)(ta:TE):TE:=λJ H Q=>ta J H λx G=>r x G Q
noncomputable def rI(C:Int->Int->Prop)(g:Int->Int->V):R2:=λx y H Q=>∃i j,x=.int i/\y=.int j/\C i j/\Q (g i j) H
noncomputable def E9(g:Int->Int->V):R2:=λx y H Q=>∃i j,x=.int i/\y=.int j/\Q (g i j) H
def rU(g:Int->V):V->Hp->VK->Prop:=λx H Q=>∃i,x=.int i/\Q (g i) H
section
variable{X:Cx}{a b c:Expr}{ta tb tc:TE}{B:Pos}
theorem JZ(r:PE X a ta)(t:PE X b tb){pins:PN}{s:Shared}{J:St}{H:Hp}{R:V->V->Hp->Prop}(I:Inv X pins J H s)
  (h:ta J H λx G=>tb J G λy H2=>R x y H2) {Q:VP}{f:Value->Value->Sem Value}
  (p:∀v u k x y H2,Inv X pins J H2 k->RelV x v->RelV y u->R x y H2->wpAny (model X.p X.w) X.A (f v u) Q X.xe k) :
  wpAny (model X.p X.w) X.A (eval a X.e) (λv e=>wpAny (model X.p X.w) X.A (eval b X.e) (λu n=>wpAny (model X.p X.w) X.A (f v u) Q X.xe n) X.xe e) X.xe s:=by
 refine bF (r pins s J H _ I h) λv i z=>?_;obtain⟨x,G,c,w,q⟩:=z;refine bF (t pins i J G _ c q) λu k z=>?_;obtain⟨y,H2,m,g,d⟩:=z;exact p v u k x y H2 m w g d
theorem L7{o:Operator}{r:R2}(f:iC X (binaryOp o) r)(n:PE X a ta)(k:PE X b tb):PE X (.BinOp a o b B) (GR r ta tb):=by intro pins s J H Q I h;exact rB (JZ n k I h λv u t x y H2 e c m q=>f pins t J H2 x y v u Q e c m q)
theorem L5(o:Qp X (unaryOp q) r)(n:PE X a ta):PE X (.UnaryOp q a B) (Q8 r ta):=by intro pins s J H Q I h;exact UnaryOp_ (bF (n pins s J H _ I h) λv b z=>by obtain⟨x,G,e,f,k⟩:=z;exact o pins b J G x v Q e f k)
theorem Mo{f:Value->Value->Sem Value}{C:Int->Int->Prop}{g:Int->Int->Int}
  (rule:∀(i j:Int)(t u:Tok)(s:Shared)(Q:VP)(E:VP),C i j->Q (.int (g i j) s.toks) { s with toks:=s.toks+1 }->wpAny (model X.p X.w) X.A (f (.int i t) (.int j u)) Q E s) :
  iC X f (rI C λi j=>.int (g i j)):=by
 intro pins s J H x y v u Q I r a h;obtain⟨i,j,rfl,rfl,c,q⟩:=h;obtain⟨t,rfl⟩:=r;obtain⟨e,rfl⟩:=a;exact rule i j t e s _ _ c ⟨.int (g i j),H,I.tok _,⟨_,rfl⟩,q⟩
theorem Mn{f:Value->Value->Sem Value}{g:Int->Int->Int}
  (rule:∀(i j:Int)(t u:Tok)(s:Shared)(Q:VP)(E:VP),Q (.int (g i j) s.toks) { s with toks:=s.toks+1 }->wpAny (model X.p X.w) X.A (f (.int i t) (.int j u)) Q E s) :
  iC X f (E9 λi j=>.int (g i j)):=by
 intro pins s J H x y v u Q I r a h;obtain⟨i,j,rfl,rfl,q⟩:=h;obtain⟨t,rfl⟩:=r;obtain⟨e,rfl⟩:=a;exact rule i j t e s _ _ ⟨.int (g i j),H,I.tok _,⟨_,rfl⟩,q⟩
theorem FF{f:Value->Value->Sem Value}{g:Int->Int->Bool}
  (rule:∀(i j:Int)(t u:Tok)(s:Shared)(Q:VP)(E:VP),Q (.bool (g i j)) s->wpAny (model X.p X.w) X.A (f (.int i t) (.int j u)) Q E s) :
  iC X f (E9 λi j=>.bl (g i j)):=by
 intro pins s J H x y v u Q I r a h;obtain⟨i,j,rfl,rfl,q⟩:=h;obtain⟨t,rfl⟩:=r;obtain⟨e,rfl⟩:=a;exact rule i j t e s _ _ ⟨.bl (g i j),H,I,rfl,q⟩
def QB(i j:Int):Prop:=0≤j/\j≤1000000/\i.natAbs < 2 ^ 64
theorem wE(k:Nat):(0:Int)≤2 ^ k:=by rw[two_pow_cast];exact Int.natCast_nonneg _
theorem IS:iC X (binaryOp .Add) (E9 λi j=>.int (i+j)):=Mn λ_ _ _ _ _ _ _ q=>add_int q
theorem IL:iC X (binaryOp .Sub) (E9 λi j=>.int (i-j)):=Mn λ_ _ _ _ _ _ _ q=>sub_int q
theorem IQ:iC X (binaryOp .Mod) (rI (λ_ j=>0 < j) λi j=>.int (i % j)):=Mo λi j _ _ _ _ _ h q=>by have h1:(0:Int) < j:=h;exact mod_int' (by lia) (by rw[Int.fmod_eq_emod_of_nonneg i (by lia)];exact q)
theorem IP:iC X (binaryOp .Pow) (rI QB λi j=>.int (i ^ j.toNat)):=Mo λ_ _ _ _ _ _ _ h q=>pow_int_small h.1 h.2.1 h.2.2 q
theorem IM:iC X (binaryOp .RShift) (rI (λ_ j=>0≤j) λi j=>.int (i / 2 ^ j.toNat)):=Mo λi j _ _ _ _ _ h q=>
 rshift_int h (by rw[xT i (wE _)];exact q)
theorem Q6{f:Value->Sem Value}{g:Int->Int}
  (rule:∀(i:Int)(t:Tok)(s:Shared)(Q:VP)(E:VP),Q (.int (g i) s.toks) { s with toks:=s.toks+1 }->wpAny (model X.p X.w) X.A (f (.int i t)) Q E s) :
  Qp X f (rU λi=>.int (g i)):=by
 intro pins s J H x v Q I r h;obtain⟨i,rfl,q⟩:=h;obtain⟨t,rfl⟩:=r;exact rule i t s _ _ ⟨.int (g i),H,I.tok _,⟨_,rfl⟩,q⟩
theorem HL:Qp X (unaryOp .USub) (rU λi=>.int (-i)):=Q6 λ_ _ _ _ _ q=>neg_int q
end
noncomputable def LM:V->V->Bool
 | .non,.non=>true | .non,.int _=>true | .int _,.non=>true | .non,.bl _=>true | .bl _,.non=>true | .non,.str _=>true | .str _,.non=>true
 | .int _,.int _=>true | .bl _,.bl _=>true | .str _,.str _=>true | .byt _,.byt _=>true
 | .int _,.str _=>true | .str _,.int _=>true | .bl _,.str _=>true | .str _,.bl _=>true
 |_,_=>false
def Rg:R2:=λx y H Q=>LM x y=true/\Q (.bl (decide (x=y))) H
def Rf:R2:=λx y H Q=>LM x y=true/\Q (.bl (!decide (x=y))) H
theorem zO{i j:Int}:decide (V.int i=V.int j)=(i == j):=by rw[lT];simp
theorem Dn:decide (V.bl i=V.bl q)=(i == q):=by rw[lT];simp
theorem zN:decide (V.str i=V.str q)=(i == q):=by rw[lT];simp
theorem zP:decide (V.byt i=V.byt q)=(i.toList == q.toList):=by rw[lT];cases i;cases q;simp
section
variable{X:Cx}{a b c:Expr}{ta tb tc:TE}{B:Pos}
theorem bw(I:Inv X pins J H s)(q:Q (.bl k) H)(e:k=i):EP X pins J Q (.bool i) s:=by subst e;exact⟨.bl k,H,I,rfl,q⟩
theorem Cj:iC X (compareOp .Eq) Rg:=by
 intro pins s J H x y v u Q I n r h;obtain⟨e,q⟩:=h;cases x with
 |non=>
  cases n;cases y with
  |non=>cases r;exact Ed (bw I q (by simp))
  |bl j=>cases r;exact Eb (bw I q (by simp))
  |int j=>obtain⟨a,rfl⟩:=r;exact Ec (bw I q (by simp))
  |str j=>obtain⟨a,rfl⟩:=r;exact Ee (bw I q (by simp))
  |_=>exact absurd (show false=true from e) aX
 |bl i=>
  cases n;cases y with
  |non=>cases r;exact D' (bw I q (by simp))
  |bl j=>cases r;exact eq_bool (bw I q Dn)
  |str j=>obtain⟨a,rfl⟩:=r;exact D3 (bw I q (by simp))
  |_=>exact absurd (show false=true from e) aX
 |int i=>
  obtain⟨t,rfl⟩:=n;cases y with
  |non=>cases r;exact Ea (bw I q (by simp))
  |int j=>obtain⟨a,rfl⟩:=r;exact eq_int (bw I q zO)
  |str j=>obtain⟨a,rfl⟩:=r;exact D4 (bw I q (by simp))
  |_=>exact absurd (show false=true from e) aX
 |str i=>
  obtain⟨t,rfl⟩:=n;cases y with
  |non=>cases r;exact Ef (bw I q (by simp))
  |bl j=>cases r;exact D5 (bw I q (by simp))
  |int j=>obtain⟨a,rfl⟩:=r;exact D6 (bw I q (by simp))
  |str j=>obtain⟨a,rfl⟩:=r;exact eq_str (bw I q zN)
  |_=>exact absurd (show false=true from e) aX
 |byt i=>
  obtain⟨t,rfl⟩:=n;cases y with
  |byt j=>obtain⟨a,rfl⟩:=r;exact PySem.W.eq_bytes (bw I q zP)
  |_=>exact absurd (show false=true from e) aX
 |_=>cases y<;>exact absurd (show false=true from e) aX
theorem Ch:iC X (compareOp .NotEq) Rf:=by
 intro pins s J H x y v u Q I n r h;obtain⟨e,q⟩:=h;cases x with
 |non=>
  cases n;cases y with
  |non=>cases r;exact Ek (bw I q (by simp))
  |bl j=>cases r;exact Ei (bw I q (by simp))
  |int j=>obtain⟨a,rfl⟩:=r;exact Ej (bw I q (by simp))
  |str j=>obtain⟨a,rfl⟩:=r;exact El (bw I q (by simp))
  |_=>exact absurd (show false=true from e) aX
 |bl i=>
  cases n;cases y with
  |non=>cases r;exact Eg (bw I q (by simp))
  |bl j=>cases r;exact ne_bool (bw I q (cc not Dn))
  |str j=>obtain⟨a,rfl⟩:=r;exact D7 (bw I q (by simp))
  |_=>exact absurd (show false=true from e) aX
 |int i=>
  obtain⟨t,rfl⟩:=n;cases y with
  |non=>cases r;exact Eh (bw I q (by simp))
  |int j=>obtain⟨a,rfl⟩:=r;exact ne_int (bw I q (cc not zO))
  |str j=>obtain⟨a,rfl⟩:=r;exact D8 (bw I q (by simp))
  |_=>exact absurd (show false=true from e) aX
 |str i=>
  obtain⟨t,rfl⟩:=n;cases y with
  |non=>cases r;exact Em (bw I q (by simp))
  |bl j=>cases r;exact D9 (bw I q (by simp))
  |int j=>obtain⟨a,rfl⟩:=r;exact D_ (bw I q (by simp))
  |str j=>obtain⟨a,rfl⟩:=r;exact ne_str (bw I q (cc not zN))
  |_=>exact absurd (show false=true from e) aX
 |byt i=>
  obtain⟨t,rfl⟩:=n;cases y with
  |byt j=>obtain⟨a,rfl⟩:=r;exact PySem.W.ne_bytes (bw I q (cc not zP))
  |_=>exact absurd (show false=true from e) aX
 |_=>cases y<;>exact absurd (show false=true from e) aX
theorem L_:iC X (compareOp .Lt) (E9 λi j=>.bl (decide (i < j))):=FF λ_ _ _ _ _ _ _ q=>lt_int q
theorem Ma:iC X (compareOp .LtE) (E9 λi j=>.bl (decide (i≤j))):=FF λ_ _ _ _ _ _ _ q=>le_int q
theorem Mc:iC X (compareOp .Gt) (E9 λi j=>.bl (decide (j < i))):=FF λ_ _ _ _ _ _ _ q=>gt_int q
theorem Md:iC X (compareOp .GtE) (E9 λi j=>.bl (decide (j≤i))):=FF λ_ _ _ _ _ _ _ q=>ge_int q
theorem Ak:iC X (compareOp .In) (λx y H Q=>∃i j,x=.str i/\y=.str j/\Q (.bl (!(lH j i 0 j.length 1).isEmpty)) H):=by intro pins s J H x y v u Q I r a h;obtain⟨i,j,rfl,rfl,q⟩:=h;obtain⟨t,rfl⟩:=r;obtain⟨e,rfl⟩:=a;exact in_str (bw I q rfl)
theorem zh{o:CmpOp}{r:R2}(f:iC X (compareOp o) r)(n:PE X a ta)(k:PE X b tb)(m:behindInMarks o b=false):PE X (.Compare a [o] [b] B) (GR r ta tb):=by intro pins s J H Q I h;exact wpAny_Compare1 (JZ n k I h λv u p x y H2 e c t q=>f pins p J H2 x y v u Q e c t q) m
noncomputable def BG(t:TE):TT:=λJ H Q=>t J H λx H'=>∃k,x=.bl k/\Q k H'
theorem zf(o:iC X (compareOp q) r)(p:PE X a ta)(d:PE X b tb)(w:behindInMarks q b=false):PT X (.Compare a [q] [b] B) (BG (GR r ta tb)):=by
 intro pins s J H Q I h;refine wpAny_isTrue_Compare1 (bF (p pins s J H _ I h) fun v K ⟨x,G,f,l,g⟩=>bF (d pins K J G _ f g) fun u P ⟨y,H2,m,S,i⟩=>
  bF (o pins P J H2 x y v u _ m l S i) λc A ⟨z,n,t,F,k,e,j⟩=>?_) w
 subst e;cases F;exact jG ⟨n,t,j⟩
noncomputable def wJ(r e:R2)(ta tb tc:TE):TE:=λJ H Q=>ta J H λx G=>tb J G λy H2=>r x y H2 λz h=>∃k,z=.bl k /\
 (if k=true then tc J h λw a=>e y w a Q else Q (.bl false) h)
theorem Cc(P:iC X (compareOp i) r)(o:iC X (compareOp q) N)(l:PE X a ta)(S:PE X b tb)(F:PE X c tc)
  (K:lastMarks [i,q] [b,c]=false:=by with_unfolding_all rfl):PE X (.Compare a [i,q] [b,c] B) (wJ r N ta tb tc):=by
 intro pins s J H Q I h;refine Compare_chain (bF (l pins s J H _ I h) fun v R ⟨x,G,w,E,A⟩=>chain_link (bF (S pins R J G _ w A) fun u T ⟨y,H2,g,t,C⟩=>
  bF (P pins T J H2 x y v u _ g E t C) λd V ⟨z,n,f,L,k,e,m⟩=>?_)) K
 subst e;cases L;refine jG ?_;cases k with
 |false=>exact ite_ff ⟨.bl false,n,f,rfl,m⟩
 |true=>exact ite_tt (chain_last (bF (F pins V J n _ f m) λZ W ⟨z',p,j,M,D⟩=>o pins W J p y z' u Z Q j t M D))
theorem B3(E:iC X (compareOp i) r)(o:iC X (compareOp q) r')(P:PE X a ta)(A:PE X b tb)(C:PE X c tc)
  (D:lastMarks [i,q] [b,c]=false:=by with_unfolding_all rfl):PT X (.Compare a [i,q] [b,c] B) (BG (wJ r r' ta tb tc)):=by
 intro pins s J H Q I h;refine isTrue_chain (bF (P pins s J H _ I h) fun v s1 ⟨x,G,g,W,N⟩=>test_link (bF (A pins s1 J G _ g N) fun u s2 ⟨y,H2,j,t,R⟩=>
  bF (E pins s2 J H2 x y v u _ j W t R) λd s3 ⟨z,n,f,Z,k,e,m⟩=>?_)) D
 subst e;cases Z;refine jG ?_;cases k with
 |false=>obtain⟨k',F,M⟩:=m;cases F;exact ite_ff ⟨n,f,M⟩
 |true=>refine ite_tt (test_last (bF (C pins s3 J n _ f m) λw' s4 ⟨z',p,l,r4,T⟩=>bF (o pins s4 J p y z' u w' _ l t r4 T) λd' s5 L=>?_));obtain⟨z2,w,S,r5,k2,K,V⟩:=L;subst K;cases r5;exact jG ⟨w,S,V⟩
def Kg(K:FG)(x:V)(H:Hp)(k:Bool):Prop:=
 match x with
 | .non=>k=false
 | .bl b=>k=b
 | .int i=>k=(i != 0)
 | .str y=>y.length≤sizeLine/\k=((y.length:Int) != 0)
 | .byt y=>y.size≤sizeLine/\k=((y.size:Int) != 0)
 | .ref p=>(∃xs,jA K H p xs/\k=!xs.isEmpty)\/(∃xs,rA K H p xs/\k=!xs.isEmpty)\/∃v,H p=some (.dK v)/\k=!v.isEmpty
 |_=>False
theorem w9(r:KV q i):(!i.isEmpty)=!q.isEmpty:=by cases r<;>rfl
theorem pI(r:a8 xs i):(!i.toArray.isEmpty)=!xs.isEmpty:=by cases r<;>simp
theorem li:(sizeLine:Nat) < 2 ^ 63:=by rw[oU];decide
theorem HQ:Qq X (λx H Q=>∃k,Kg X.K x H k/\Q k H):=by
 intro pins s J H x v Q I rx h;obtain⟨k,e,q⟩:=h;have hl:=li;have hs:sizeLine=16777216:=oU;cases x with
 |non=>cases rx;have e':k=false:=e;subst e';exact truthy_none ⟨H,I,q⟩
 |bl b=>cases rx;have e':k=b:=e;subst e';exact jG ⟨H,I,q⟩
 |int i=>obtain⟨t,rfl⟩:=rx;have e':k=(i != 0):=e;subst e';exact PySem.P.truthy_int ⟨H,I,q⟩
 |str y=>obtain⟨t,rfl⟩:=rx;obtain⟨hy,e'⟩:y.length≤sizeLine/\k=((y.length:Int) != 0):=e;subst e';exact PySem.P.truthy_str (by lia) ⟨H,I.tok _,q⟩
 |byt y=>obtain⟨t,rfl⟩:=rx;obtain⟨hy,e'⟩:y.size≤sizeLine/\k=((y.size:Int) != 0):=e;subst e';exact PySem.W.truthy_bytes (by lia) ⟨H,I.tok _,q⟩
 |ref p=>
  cases rx;have e':(∃xs,jA X.K H p xs/\k=!xs.isEmpty)\/(∃xs,rA X.K H p xs/\k=!xs.isEmpty)\/∃kvs,H p=some (.dK kvs)/\k=!kvs.isEmpty:=e;rcases e' with ⟨xs,hx,e'⟩|⟨xs,hx,e'⟩|⟨kvs,hx,e'⟩
  .subst e';obtain⟨its,r,pl,hz⟩:=I.list hx;have hlen:=r.length;exact wpAny_truthy_list pl.isList (by simp only[bu];lia) ⟨H,I.tok _,by rw[pI r];exact q⟩
  .subst e';obtain⟨its,r,pl,hz⟩:=I.tuple hx;have hlen:=r.length;exact truthy_tuple pl (by simp only[bu];lia) ⟨H,I.tok _,by rw[pI r];exact q⟩
  .subst e';obtain⟨hz,hS,vs,r,m⟩:kvs.length≤sizeLine/\(p == sysModules)=false/\∃vs,KV kvs vs/\s.heap.DictOf (bv X.p X.w) p vs:=I.h p _ hx;have hlen:kvs.length=vs.length:=Paired.length r;exact wpAny_truthy_dict hS m (by lia) ⟨H,I.tok _,by rw[w9 r];exact q⟩
 |_=>exact(show False from e).elim
theorem B2(n:PE X a ta)(f:∀w,isTrue a X.e w=(do let v <- w;standAt a.pos;holding [v] (truthy v))) :
  PT X a (λJ H Q=>ta J H λx H'=>∃k,Kg X.K x H' k/\Q k H'):=by
 intro pins s J H Q I h;exact isTrue_plain (bF (n pins s J H _ I h) λv b z=>by obtain⟨x,G,e,r,q⟩:=z;exact HQ pins b J G x v Q e r q) (f _)
theorem wY:iC X (binaryOp .Add) (λx y H Q=>∃i j,x=.str i/\y=.str j/\i.length+j.length≤sizeLine/\Q (.str (i++j)) H):=by intro pins s J H x y v u Q I r a h;obtain⟨i,j,rfl,rfl,z,q⟩:=h;obtain⟨t,rfl⟩:=r;obtain⟨e,rfl⟩:=a;exact add_str (λe tk=>⟨.str (i++j),H,I.tok _,⟨_,rfl⟩,q⟩) z
theorem vals1(r:a8 [x] j):∃u,j=[u]/\RelV x u:=by
 cases r with
 |cons h a=>cases a;exact⟨_,rfl,h⟩
theorem vals2(r:a8 [x,y] j):∃u w,j=[u,w]/\RelV x u/\RelV y w:=by
 cases r with
 |cons h a=>
  cases a with
  |cons e s=>cases s;exact⟨_,_,rfl,h,e⟩
theorem AH(c:X.c=true):ez X (.builtin "min") (λxs H Q=>∃i x,xs=[.int i,.int x]/\Q (.int (if x < i then x else i)) H):=by
 intro pins s J H xs j Q I r h;obtain⟨i,x,rfl,q⟩:=h;obtain⟨u,w,rfl,⟨t,rfl⟩,⟨e,rfl⟩⟩:=vals2 r;refine min_two_ints (I.o.hd c) λh' tk k=>⟨_,H,I.kept k,?_,q⟩
 by_cases a:x < i
 .rw [ac a,ac a];exact⟨_,rfl⟩
 .rw [ae a,ae a];exact⟨_,rfl⟩
theorem rf:ez X (.type "int") (λxs H Q=>(∃i,xs=[.int i]/\Q (.int i) H)\/∃k,xs=[.bl k]/\Q (.int (if k then 1 else 0)) H):=by
 intro pins s J H xs j Q I r h;rcases h with ⟨i,rfl,q⟩|⟨k,rfl,q⟩
 .obtain⟨u,rfl,t,rfl⟩:=vals1 r;exact call_int_int ⟨.int i,H,I,⟨_,rfl⟩,q⟩
 .obtain⟨u,rfl,x⟩:=vals1 r;cases x;exact call_int_bool ⟨.int (if k then 1 else 0),H,I.tok _,⟨_,rfl⟩,q⟩
theorem ui:ez X (.type "str") (λxs H Q=>∃i,xs=[.int i]/\i.natAbs.log2 < 1920/\Q (.str (toString i)) H):=by intro pins s J H xs j Q I r h;obtain⟨i,rfl,z,q⟩:=h;obtain⟨u,rfl,t,rfl⟩:=vals1 r;exact PySem.P.str_of_int z ⟨.str _,H,I.tok _,⟨_,rfl⟩,q⟩
end
structure ObjM(h:Heap)(x dx C:Addr)(mA:SV):Prop where
 obj:h.get? x=some (jH C dx)
 ns:h.Ns1 dx mA
 ne:dx≠x
set_option tactic.hygienic true in
theorem Aq(n:h.Ns1 dx mA):∃d,h.get? dx=some d/\∀name,rZ name d=some (mA name):=by
 obtain⟨o,es,p,f,s,hk,_,m⟩:=n;refine⟨o,f,λname=>?_⟩;have e:=m name;unfold nsFind findBy at e;rw[<- Array.find?_toList]at e;unfold rZ;rw[s];dsimp only;split
 .rename_i y q;rw[q]at e;exact cc some e
 .rename_i q;rw[q]at e;have a:es.toList.any (·.refKey)=false:=by
   rw[sB];intro y b;obtain⟨z,t,k⟩:=hk y (Array.mem_toList_iff.mp b);simp[DictEntry.refKey,k]
  have x:¬es.toList.any (·.refKey)=true:=by rw[a];exact aX
  rw[ae x];exact cc some e
variable{C:Addr}
theorem ObjM.look(I:ObjM h x dx C mA):∃o,PySem.W.InstAt h x (jH C dx) C (some o)/\∀name,rZ name o=some (mA name):=
 let ⟨o,a,l⟩:=Aq I.ns
 ⟨o,⟨I.obj,rfl,rfl,a⟩,l⟩
section
variable{prog:Program}{w:World}{A:Around}{E:VP}{s:Shared}{K:FG}{x dx C f:Addr}{mA:SV}{name:Str}{v:Value}
theorem F4(X:K.In s.heap)(I:ObjM s.heap x dx C mA)(g:o5 K C name=true)(k:sm K C=true)
  (n:bL K (.ref C) name=some none) (f:mA name=some v) (a:Bb v=true) (h:Q v { s with toks:=s.toks+1 }) :
  wpAny (model prog w) A (getAttr (.ref x) name q) Q E s:=by
 obtain⟨o,e,l⟩:=I.look;exact PySem.W.get_value X e (wz g).1 (PySem.W.findObj_own k n rfl (by rw[l,f])) a h
theorem C8(X:K.In s.heap)(I:ObjM s.heap x dx C mA)(g:o5 K C name=true)
  (e:bL K (.ref C) name=some (some (.ref f))) (t:rV K (.ref f)=true) (v:mA name=none) (h:Q (.ref f,[.ref x]) s) :
  wpAny (model prog w) A (getMethod (.ref x) name q) Q E s:=by
 obtain⟨o,a,l⟩:=I.look;exact PySem.W.method_fn X a (wz g).1 (wz g).2 e (lK.mp t) (by show(rZ name o).map (·.isSome)=some false;rw[l,v];rfl) h
theorem E2(X:K.In s.heap)(I:ObjM s.heap x dx C mA)
  (u:bL K (.ref C) "__setattr__"=some (some (.builtin "object.__setattr__"))) (q:wy K C=true) (g:wv K C name=some none) (t:sm K C=true)
  (i:wb mA N) (z:N.length≤sizeLine)
  (h:∀h',ObjM h' x dx C (λy=>if y=name then some v else mA y)->dC dx s.heap h'->Q () { s with heap:=h',toks:=s.toks+2 }) :
  wpAny (model prog w) A (setAttr (.ref x) name v) Q E s:=by
 obtain⟨F,k,H⟩:=I.look;refine PySem.W.set_plain X k u (PySem.W.osa_open (s:={ s with toks:=s.toks+1 }) (r:=none) X k q g λb=>?_);obtain⟨l,m,d⟩:=PySem.W.any_some t;have j:s.heap.get? x=some ⟨.ref C,some dx,.plain,#[]⟩:=I.obj;refine ag (aF (ag (ag (wpAny_loadPart j (ag (PySem.W.Looks.here (s:={ s with toks:=s.toks+1 }) (PySem.W.looks_clsIn X m) ?_))))));rw[d];refine aF (a:=some dx) (ag (aF (ag ?_)));refine wpAny_nsSet1 (s:={ s with toks:=s.toks+1 }) I.ns λh' n e=>?_;obtain⟨S,f,p,o,D,c⟩:=n.count (PySem.Within.cons name v i);refine ag (wpAny_lookBehind o (by rw[D];exact pastItsLine_dict (a9 c (by rw[ak];lia))) ?_);exact aF (h _ ⟨(e.2 _ (bB I.ne)).trans I.obj,n,I.ne⟩ e)
theorem CB(X:K.In s.heap)(m:wu K C=true)
  (hi:bL K (.ref C) "__init__"=some (some (.ref f))) (x:PySem.W.typeIn K (.ref f)=some (.type "function"))
  (h:codeAny (model prog w) (A.under (.builtin "type.__call__" ⟨.ref C::q,kw⟩)) (.call (.ref f) ⟨.ref (s.heap.objs.size+1)::q,kw⟩) (PySem.W.InitBack (s.heap.objs.size+1) R)
   { s with heap:=(s.heap.push iU).push (jH C s.heap.objs.size) }) :
  codeAny (model prog w) A (.call (.ref C) ⟨q,kw⟩) R s:=by
 obtain⟨a,g,d,t,os⟩:=s;exact PySem.W.make_core (PySem.W.makes_of X m) (PySem.W.looks_findIn X hi) (λe=>PySem.W.bind_fn X e x) (.inl rfl) h
end
noncomputable def fV(f:Str)(v:V):List (Str×V)->List (Str×V)
 | []=>[(f,v)]
 |(g,x)::r=>if g=f then (g,v)::r else (g,x)::fV f v r
theorem ng(f g:Str)(v:V):∀fs:List (Str×V),(fV f v fs).lookup g=if g=f then some v else fs.lookup g
 | []=>by
  show bz g [(f,v)]=_;by_cases h:g=f
  .have b:(g == f)=true:=lK.mpr h;simp only[bz,b,ac h]
  .have b:(g == f)=false:=km.mpr h;simp only[bz,b,ae h]
 |(k,x)::r=>by
  have i:=ng f g v r;rw[show fV f v ((k,x)::r)=(if k=f then (k,v)::r else (k,x)::fV f v r) from rfl];by_cases hk:k=f
  .rw [ac hk];by_cases h:g=k
   .have b:(g == k)=true:=lK.mpr h;simp only[bz,b,ac (h.trans hk)]
   .have b:(g == k)=false:=km.mpr h;simp only[bz,b,ae (λe:g=f=>h (e.trans hk.symm))]
  .rw [ae hk];by_cases h:g=k
   .have b:(g == k)=true:=lK.mpr h;simp only[bz,b,ae (λe:g=f=>hk (h.symm.trans e))]
   .have b:(g == k)=false:=km.mpr h;simp only[bz,b];exact i
theorem mV(f:Str)(v:V):∀fs:List (Str×V),f ∈ (fV f v fs).map (·.1)/\∀g,g ∈ fs.map (·.1)->g ∈ (fV f v fs).map (·.1)
 | []=>⟨by simp[fV],λg h=>by simp at h⟩
 |(k,x)::r=>by
  obtain⟨i,a⟩:=mV f v r;rw[show fV f v ((k,x)::r)=(if k=f then (k,v)::r else (k,x)::fV f v r) from rfl];by_cases hk:k=f
  .rw [ac hk];subst hk;exact⟨by simp,λg h=>by simpa using h⟩
  .rw [ae hk];refine⟨?_,λg h=>?_⟩
   .rw [a6];exact aW _ i
   .rw [a6]at h ⊢;rcases aU.mp h with e|e
    .exact aU.mpr (.inl e)
    .exact aW _ (a g e)
theorem nh(f:Str)(v:V):∀fs:List (Str×V),(fV f v fs).length≤fs.length+1
 | []=>by simp[fV]
 |(k,x)::r=>by
  have i:=nh f v r;rw[show fV f v ((k,x)::r)=(if k=f then (k,v)::r else (k,x)::fV f v r) from rfl];by_cases hk:k=f
  .rw [ac hk,ak,ak];lia
  .rw [ae hk,ak,ak];lia
theorem jB.some_of{v:V}{o:OV}(r:jB (some v) o):∃u,o=some u/\RelV v u:=by
 cases o with
 |none=>exact(show False from r).elim
 |some u=>exact⟨u,rfl,r⟩
theorem jB.none_of{o:OV}(r:jB none o):o=none:=by
 cases o with
 |none=>rfl
 |some u=>exact(show False from r).elim
variable{v:V}
theorem Az(r:RelV v u):Bb u=true:=by
 cases v with
 |non=>cases (show u=Value.none from r);rfl
 |bl b=>cases (show u=Value.bool b from r);rfl
 |int i=>obtain⟨t,e⟩:=(show ∃t,u=Value.int i t from r);cases e;rfl
 |str x=>obtain⟨t,e⟩:=(show ∃t,u=Value.str x t from r);cases e;rfl
 |byt b=>obtain⟨t,e⟩:=(show ∃t,u=Value.bytes b t from r);cases e;rfl
 |flt b=>obtain⟨t,e⟩:=(show ∃t,u=Value.float b t from r);cases e;rfl
 |ref a=>cases (show u=Value.ref a from r);rfl
 |ty n=>cases (show u=Value.type n from r);rfl
section
variable{P:Program}{w:World}{H H':Hp}{h h':Heap}{a C dx:Addr}{fs fs':List (Str×V)}
theorem t_(o:kN P w H h)(e:H a=some (.ins C dx fs)):∃mA,ObjM h a dx C mA/\(∀f,jB (fs.lookup f) (mA f))/\wb mA (fs.map (·.1))/\fs.length≤1000/\H dx=some (.own a):=by obtain⟨d,z,x,b,mA,n,r,q⟩:=(show ey P w H h a (.ins C dx fs) from o a _ e);exact⟨mA,⟨b,n,x⟩,r,q,z,d⟩
end
structure Cls(K:FG)(C:Addr):Prop where
 pg:o5 K C Str.empty=true
 hd:sm K C=true
 po:wy K C=true
 sa:bL K (.ref C) "__setattr__"=some (some (.builtin "object.__setattr__"))
theorem Cls.get(c:Cls K C)(f:Str):o5 K C f=true:=c.pg
def ka(K:FG)(C:Addr)(f:Str):Prop:=bL K (.ref C) f=some none
theorem ka.taker(n:ka K C f):wv K C f=some none:=by unfold wv;rw[show bL K (.ref C) f=some none from n];rfl
structure Con(K:FG)(C:Addr)(f:Str)(v:V)(u:Value):Prop where
 at_:bL K (.ref C) f=some (some u)
 rel:RelV v u
 get:Bc K u "__get__"=some none
 cp:PySem.W.copiedNames.contains f=false
structure Meth(K:FG)(C:Addr)(m:Str)(f:Addr):Prop where
 at_:bL K (.ref C) m=some (some (.ref f))
 fn:rV K (.ref f)=true
 kp:eT K (.ref f)=true
section
variable{X:Cx}{pins:PN}{J:St}{H:Hp}{s:Shared}{a C dx:Addr}{fs:List (Str×V)}{f:Str}{v:V}{A:Around}{E:VP}
theorem pN{b:Bool}{Q:VP}(I:Inv X pins J H s)(e:H a=some (.ins C dx fs))(c:Cls X.K C)(n:ka X.K C f)(l:fs.lookup f=some v)
  (h:∀u s',Inv X pins J H s'->RelV v u->Q u s'):wpAny (model X.p X.w) A (getAttr (.ref a) f b) Q E s:=by
 obtain⟨mA,k,r,_,_,_⟩:=t_ I.h e;obtain⟨u,m,x⟩:=jB.some_of (v:=v) (o:=mA f) (by rw[<- l];exact r f);exact F4 I.kIn k (c.get f) c.hd n m (Az x) (h u _ (I.tok _) x)
theorem pM{m:Str}{g:Addr}{p:Sem Bool}{Q:Value×LV->Shared->Prop}(I:Inv X pins J H s)(e:H a=some (.ins C dx fs))(c:Cls X.K C)(k:Meth X.K C m g)(l:fs.lookup m=none)
  (h:Q (.ref g,[.ref a]) s):wpAny (model X.p X.w) A (getMethod (.ref a) m p) Q E s:=by
 obtain⟨mA,x,r,_,_,_⟩:=t_ I.h e;have n:mA m=none:=jB.none_of (by rw[<- l];exact r m);exact C8 I.kIn x (c.get m) k.at_ k.fn n h
theorem pj(I:Inv X pins J H s)(e:H a=some (.ins C dx fs))(c:Cls X.K C)(n:ka X.K C f)(hl:fs.length < 1000)(ry:RelV y u)
  (h:∀s',Inv X pins J (cJ H a (.ins C dx (fV f y fs))) s'->Q () s'):wpAny (model X.p X.w) A (setAttr (.ref a) f u) Q E s:=by
 obtain⟨mA,O9,r,wi,_,ho⟩:=t_ I.h e;have hz:(fs.map (·.1)).length≤sizeLine:=by rw[d3,oU];lia
 refine E2 I.kIn O9 c.sa c.po n.taker c.hd wi hz λh' O' sb=>h _ ?_;have hd:∃o,h'.get? dx=some o:=let ⟨o,_,_,e',_⟩:=O'.ns;⟨o,e'⟩
 refine I.write (x:=a) (e:=dx) (by rw[e];exact True.intro) (.inr ho) (λb q hb z=>(sb.2 b hb).trans z) hd ?_;refine⟨by rw[aN O9.ne];exact ho,?_,O9.ne,O'.obj,_,O'.ns,λg=>?_,λg hg=>?_⟩
 .have:=nh f y fs;lia
 .show jB ((fV f y fs).lookup g) (if g=f then some u else mA g);rw[ng];by_cases q:g=f
  .rw [ac q,ac q];exact ry
  .rw [ae q,ae q];exact r g
 .by_cases q:g=f
  .rw [q];exact(mV f y fs).1
  .refine (mV f y fs).2 g (wi g λz=>hg ?_);show(if g=f then some u else mA g)=none;rw[ae q];exact z
theorem Inv.made(I:Inv X pins J H s):Inv X pins J (cJ (cJ H s.heap.objs.size (.own (s.heap.objs.size+1))) (s.heap.objs.size+1) (.ins C s.heap.objs.size []))
  { s with heap:=(s.heap.push iU).push (jH C s.heap.objs.size) }:=by
 have h:(s.heap.push iU).get? s.heap.objs.size=some iU:=aS s.heap rfl;have k:((s.heap.push iU).push (jH C s.heap.objs.size)).get? (s.heap.objs.size+1)=some (jH C s.heap.objs.size):=by have:=aS (s.heap.push iU) (o:=jH C s.heap.objs.size) rfl;rwa [rX]at this
 have f:(s.heap.push iU).Ns s.heap.objs.size (λ_=>none):=⟨iU,#[],_,h,rfl,(λe c=>absurd c (by simp)),λ_=>rfl⟩;have x:=I.laid (a:=s.heap.objs.size) (o:=.own (s.heap.objs.size+1)) (h':=s.heap.push iU) (t':=s.toks) (λb u q=>aJ _ q) (aq _) ⟨_,h⟩;refine x.laid (a:=s.heap.objs.size+1) (o:=.ins C s.heap.objs.size []) (t':=s.toks) (λb u q=>aJ _ q) (x' (rX _ _)) ?_;have n:s.heap.objs.size≠s.heap.objs.size+1:=bg (d0 _);refine⟨by rw[aN n,ba],bJ _,n,k,λ_=>none,(Heap.Ns1.of_empty f).at λo q=>aJ _ q,λ_=>True.intro,λy m=>absurd rfl m⟩
theorem Gy(b:attributeBase e f q (eval e q)=eval e q)
  (h:wpAny (model prog w) A (eval e q) (λo x=>wpAny (model prog w) A (getAttr o f true) Q E x) E s):wpAny (model prog w) A (eval (.Attribute e f B) q) Q E s:=
 Attribute_any_ h (by rw[arm_eval_Attribute,b])
end
def Pl(K:FG)(ta:TE)(f:Str):TE:=λJ H Q=>ta J H λx G=>∃a C dx fs v,x=.ref a/\G a=some (.ins C dx fs)/\Cls K C/\ka K C f/\fs.lookup f=some v/\Q v G
def Pt(K:FG)(ta tv:TE)(f:Str):TS:=λD J H=>tv J H λy G=>ta J G λx H2=>∃a C dx fs,x=.ref a/\H2 a=some (.ins C dx fs)/\Cls K C/\ka K C f/\fs.length < 1000 /\
 D.nx J (cJ H2 a (.ins C dx (fV f y fs)))
def NO(X:Cx)(o:Operator)(r:V->V->Hp->VK->Prop):Prop:=
 ∀(pins:PN)(s:Shared)(J:St)(H:Hp)(x y:V)(u v:Value)(Q:VK),Inv X pins J H s->RelV x u->RelV y v->r x y H Q->wpAny (model X.p X.w) X.A (inplaceOp o u v) (EP X pins J Q) X.xe s
def E5(K:FG)(ta tv:TE)(r:V->V->Hp->VK->Prop)(f:Str):TS:=λD J H=>ta J H λx G=>∃a C dx fs v,x=.ref a/\G a=some (.ins C dx fs)/\Cls K C/\ka K C f/\fs.lookup f=some v /\
 tv J G λy H2=>r v y H2 λz h=>∃d fs',h a=some (.ins C d fs')/\fs'.length < 1000/\D.nx J (cJ h a (.ins C d (fV f z fs')))
section
variable{X:Cx}{o e value:Expr}{f:Str}{B pos' tpos:Pos}{ta tv:TE}
theorem IG(t:PE X e ta)(r:attributeBase e f X.e (eval e X.e)=eval e X.e):PE X (.Attribute e f B) (Pl X.K ta f):=by intro pins s J H Q I h;refine Gy r (bF (t pins s J H _ I h) λu w z=>?_);obtain⟨x,G,k,d,a,C,dx,fs,v,ex,m,c,n,l,q⟩:=z;subst ex;obtain rfl:u=Value.ref a:=d;exact pN k m c n l λi g b p=>⟨v,G,b,p,q⟩
theorem Is(r:PE X o ta)(v:PE X value tv)(t:swapsWith value (some (.Attribute o f pos')) B.line X.e=pure false):PS X (.Assign [.Attribute o f pos'] value B) (Pt X.K ta tv f):=by intro pins s J H D I h;refine plainObj_wpAny_Assign_Attribute (bF (v pins s J H _ I h) λu i ⟨y,G,e,g,q⟩=>bF (r pins i J G _ e q) λp j z=>?_) t;obtain⟨x,H2,k,w,a,C,dx,fs,ex,m,c,n,l,d⟩:=z;subst ex;obtain rfl:p=Value.ref a:=w;exact pj k m c n l g λS b=>⟨J,_,b,d⟩
theorem Ae(i:PE X o ta)(j:PE X value tv)(p:NO X N rd):PS X (.AugAssign (.Attribute o f tpos) N value B) (E5 X.K ta tv rd f):=by
 intro pins s J H D I h;refine wpAny_AugAssign_AttributeAny (bF (i pins s J H _ I h) λF W k=>?_);obtain⟨x,G,b,E,a,C,dx,fs,v,ex,g,c,n,l,q⟩:=k;subst ex;obtain rfl:F=Value.ref a:=E;refine pN b g c n l λu Q m A=>bF (j pins Q J G _ m q) λT R ⟨y,H2,r,L,K⟩=>bF (p pins R J H2 v y u T _ r A L K) λw4 Z k=>?_
 obtain⟨z,V,t,M,w,fs',e,S,P⟩:=k;exact pj t e c n S M λs5 d=>⟨J,_,d,P⟩
def PJ:V->V->Hp->VK->Prop:=λx y H Q=>∃i j,x=.int i/\y=.int j/\Q (.int (i+j)) H
theorem Jz:NO X .Add PJ:=by rintro pins s J H x y u v Q I r a ⟨i,j,rfl,rfl,q⟩;obtain⟨t,rfl⟩:=(show ∃t,u=Value.int i t from r);obtain⟨h,rfl⟩:=(show ∃h,v=Value.int j h from a);exact xY ⟨.int (i+j),H,I.tok _,⟨_,rfl⟩,q⟩
end
section
variable{X:Cx}{pins:PN}{J:St}{H:Hp}{s:Shared}{A:Around}{E:VP}{Q:VP}{c:Value}{b:Bool}
inductive TyOf(K:FG)(H:Hp):V->Value->Prop where
 |non:TyOf K H .non (.type "NoneType")
 |bl (x:Bool):TyOf K H (.bl x) (.type "bool")
 |int (i:Int):TyOf K H (.int i) (.type "int")
 |str (x:Str):TyOf K H (.str x) (.type "str")
 |flt (x:UInt64):TyOf K H (.flt x) (.type "float")
 |lst {a:Addr}{xs:List V} (e:H a=some (.lst xs)):TyOf K H (.ref a) (.type "list")
 |frz {a:Addr}{o:Obj}{xs:List V} (e:H a=some (.frz o (.lst xs))):TyOf K H (.ref a) (.type "list")
 |tup {a:Addr}{xs:List V} (e:H a=some (.tup xs)):TyOf K H (.ref a) (.type "tuple")
 |dK {a:Addr}{kvs:List (d8×V)} (e:H a=some (.dK kvs)):TyOf K H (.ref a) (.type "dict")
 |dT {a:Addr}{kvs:List (List d8×V)} (e:H a=some (.dT kvs)):TyOf K H (.ref a) (.type "dict")
 |ins {a C dx:Addr}{fs:List (Str×V)} (e:H a=some (.ins C dx fs)) (cl:Cls K C) (ha:bL K (.ref C) "__class__"=some (some (.builtin "object.__class__")))
   (hn:Bc K (.builtin "object.__class__") "__get__"=some (some (.builtin "getset_descriptor.__get__"))) (htk:PySem.W.takesIn K (.builtin "object.__class__")=some true)
   (hm:PySem.W.mroIn K C (.type "object")=some true):TyOf K H (.ref a) (.ref C)
end
structure Room(k:Nat)(A:Around):Prop where
 hd:A.handled=none
 dp:A.depth+3 * k+5 < recursionLimit
 un:A.units+16 * k+200 < cLine
variable{k:Nat}
theorem Room.deeper(r:Room (k+1) A)(e:Env):Room k (A.deeper e):=
 ⟨r.hd,by have:=r.dp;show A.depth+1+3 * k+5 < _;lia,by have:=r.un;show A.units+3+16 * k+200 < _;lia⟩
variable{kw:List (Str×Value)}
theorem w8:(A.under (.builtin "type.__call__" ⟨.ref C::j,kw⟩)).depth=A.depth+1:=by first|rfl|simp[Around.under,Code.weight,Code.isCreation,Code.isGuard,Code.isCaller,Code.frames,Code.isFrame,guardIds]
theorem w6:(A.under (.builtin "type.__call__" ⟨.ref C::j,kw⟩)).units=A.units+1:=by first|rfl|simp[Around.under,Code.cUnits,Code.frames,Code.isFrame]
theorem Room.make(r:Room (k+1) A)(C:Addr)(j:LV)(kw:List (Str×Value)):Room k (A.under (.builtin "type.__call__" ⟨.ref C::j,kw⟩)):=
 ⟨r.hd,by have:=r.dp;rw[w8];lia,by have:=r.un;rw[w6];lia⟩
theorem Room.depth(r:Room k A):A.depth < recursionLimit:=by have:=r.dp;lia
noncomputable def Lw:TA:=λ_ H Q=>Q [] H
noncomputable def GS(ta:TE)(tr:TA):TA:=λJ H Q=>ta J H λx G=>tr J G λxs H2=>Q (x::xs) H2
section
variable{X:Cx}{e:Expr}{es:Ab}{te:TE}{t:TA}{B:Pos}
theorem i4:PA X [] Lw:=λ_ _ _ _ H Q I h=>ki ⟨[],H,I,.nil,h⟩
theorem eJ(k:PE X e te)(r:PA X es t)(f:starEach (e::es) X.e=(false,eval e X.e)::starEach es X.e:=by rfl):PA X (e::es) (GS te t):=by intro B pins s J H Q I h;rw[f];show wpAny _ _ (spliced ((false,eval e X.e)::backTo B (starEach es X.e))) _ _ s;refine eC (bF (k pins s J H _ I h) λu p z=>?_);obtain⟨x,G,a,c,q⟩:=z;exact bF (r B pins p J G _ a q) λj v z=>by obtain⟨xs,H2,n,m,b⟩:=z;exact⟨x::xs,H2,n,.cons c m,b⟩
def Pa(t:TA):TE:=λJ H Q=>t J H λxs G=>xs.length≤sizeLine/\∀p,G p=none->Q (.ref p) (cJ G p (.tup xs))
def Lz(t:TA):TE:=λJ H Q=>t J H λxs G=>xs.length≤sizeLine/\∀p,G p=none->Q (.ref p) (cJ G p (.lst xs))
theorem IA {i} (h:PA X es t):PE X (.Tuple es i B) (Pa t):=by intro pins s J H Q I n;refine wpAny_Tuple_spliced (bF (h B pins s J H _ I n) λj x k=>?_);obtain⟨xs,G,a,r,z,q⟩:=k;refine⟨by rw[<- r.length];exact z,?_⟩;have f:G x.heap.objs.size=none:=a.h.fresh (aq _);refine⟨.ref x.heap.objs.size,cJ G x.heap.objs.size (.tup xs),a.laid (t':=x.toks) (λb u e=>aJ _ e) (aq _) ?_,rfl,q _ f⟩;exact⟨z,j,r,nR.new _ _⟩
theorem wX(h:PA X es t):PE X (.List es B) (Lz t):=by intro pins s J H Q I n;refine wj (bF (h B pins s J H _ I n) λj x k=>?_);obtain⟨xs,G,a,r,z,q⟩:=k;refine⟨by rw[<- r.length];exact z,?_⟩;have f:G x.heap.objs.size=none:=a.h.fresh (aq _);refine⟨.ref x.heap.objs.size,cJ G x.heap.objs.size (.lst xs),a.laid (t':=x.toks) (λb u e=>aJ _ e) (aq _) ?_,rfl,q _ f⟩;exact⟨z,j,0,r,aS _ rfl⟩
end
noncomputable abbrev Sp:=List V->Hp->VK->XK->Prop
noncomputable abbrev vW:=List Env->Hp->Shared->XK->VP
structure Env0(P:Program)(w:World)(K:FG)(mg:SV)(base:Heap)(A:Around)(outer:List Env)(s:Shared)(H:Hp):Prop where
 frames:A.frames=some outer
 mod:Mod K mg base
 bs:∀b o,base.get? b=some o->s.heap.get? b=some o/\H b=none
 bsz:base.objs.size≤s.heap.objs.size
 funs:s.heap.FunFrames base outer
 frf:∀b ∈ Dd outer,H b=none
 tab:∀P ∈ cD K,H P=some .tbl
 h:kN P w H s.heap
 bare:AllBare s.gens
def CE(o:List Env)(P:Program)(w:World)(H:Hp)(s:Shared)(Q:VK)(u:Value)(s':Shared):Prop:=
 ∃v H',s'.os=s.os/\AllBare s'.gens/\Un (Dd o) [] H H' s.heap s'.heap/\kN P w H' s'.heap/\RelV v u/\Q v H'
def CR(CX:vW)(o:List Env)(P:Program)(w:World)(H:Hp)(s:Shared)(Q:VK)(E:XK)(r:Result)(s':Shared):Prop:=
 match r with
 | .ok (.ret u)=>CE o P w H s Q u s'
 | .ok _=>False
 | .error e=>CX o H s E e s'
structure FnOk(P:Program)(w:World)(K:FG)(mg:SV)(base:Heap)(CX:vW)(k:Nat)(f:Addr)(fd:FuncData)(ps:LS)(sp:Sp):Prop where
 len:∀vs H Q E,sp vs H Q E->vs.length=ps.length
 run:∀(A:Around)(outer:List Env)(s:Shared)(H:Hp)(args:Args)(us:LV)(vs:List V)(Q:VK)(E:XK),Room k A->Env0 P w K mg base A outer s H->BindsTo s fd args (ps.zip us)->a8 vs us->sp vs H Q E ->
  codeAny (model P w) A (.call (.ref f) args) (CR CX outer P w H s Q E) s
theorem FnOk.imp(F:FnOk P w K mg base CX k f fd ps sp)
  (h:∀v H Q E,i v H Q E->sp v H Q E):FnOk P w K mg base CX k f fd ps i:=
 ⟨λv H Q E q=>F.len v H Q E (h _ _ _ _ q),λA o s H a j v Q E r e b n x=>F.run A o s H a j v Q E r e b n (h _ _ _ _ x)⟩
theorem Env0.make(e:Env0 P w K mg base A q s H)(C:Addr)(j:LV)(kw:List (Str×Value)) :
  Env0 P w K mg base (A.under (.builtin "type.__call__" ⟨.ref C::j,kw⟩)) q s H:=⟨by first|exact e.frames|(simpa[Around.under,Code.envs,Code.isFrame,pushEnvs] using e.frames),e.mod,e.bs,e.bsz,e.funs,e.frf,e.tab,e.h,e.bare⟩
section
variable{X:Cx}{pins:PN}{J:St}{H:Hp}{s s':Shared}
theorem Inv.env0(I:Inv X pins J H s):Env0 X.p X.w X.K X.g X.b X.A X.k s H:=
 ⟨I.o.frames,I.o.mod,I.bs,a9 I.o.bsz I.sz,I.stack,I.stkFree,λP h=>I.base.tbls P (I.o.tab P h),I.h,I.bare⟩
theorem Inv.after(I:Inv X pins J H s)(h:CE X.k X.p X.w H s Q u s'):EP X pins J Q u s':=by obtain⟨v,H',os,a,un,o,r,q⟩:=h;obtain⟨e,g,d,t,x⟩:=s';obtain rfl:x=s.os:=os;exact⟨v,H',I.call (h':=e) (g':=g) (d':=d) (t':=t) (ch:=[]) un o a (λb z=>absurd z (by simp)),r,q⟩
end
noncomputable def GU(sp:Sp)(dvs:List V)(E:XK)(t:TA):TE:=λJ H Q=>t J H λv G=>sp (v++dvs) G Q E
def BH(C:Addr)(m:Str)(sp:Sp)(dvs:List V)(E:XK)(ta:TE)(t:TA):TE:=λJ H Q=>ta J H λx G=>∃a dx fs,x=.ref a/\G a=some (.ins C dx fs)/\fs.lookup m=none /\
 t J G λv H2=>sp (x::(v++dvs)) H2 Q E
def Ly(C:Addr)(sp:Sp)(dvs:List V)(E:XK)(t:TA):TE:=λJ H Q=>t J H λs G=>∀x dx,G x=none->G dx=none->dx≠x ->
 sp (.ref x::(s++dvs)) (cJ (cJ G dx (.own x)) x (.ins C dx [])) (λv H2=>v=.non/\Q (.ref x) H2) E
def Binds(K:FG)(fd:FuncData)(ps:LS)(ds:LV):Prop:=
 ∀(s:Shared)(j:LV),K.In s.heap->(j++ds).length=ps.length->BindsTo s fd ⟨j,[]⟩ (ps.zip (j++ds))
theorem Binds.all(h:∀j:LV,j.length=ps.length->bindArgs fd ⟨j,[]⟩=pure (ps.zip j)):Binds K fd ps []:=λs j _ l=>by rw[cg]at l ⊢;exact .of_eq (h j l)
def jm(CX:vW)(X:Cx)(E:XK):Prop:=∀(pins:PN)(J:St)(H:Hp)(s:Shared)(e:Value)(s':Shared),Inv X pins J H s->CX X.k H s E e s'->X.xe e s'
section
variable{X:Cx}{CX:vW}{k:Nat}{f C:Addr}{fd:FuncData}{ps:LS}{sp:Sp}{dvs:List V}{ds:LV}{E:XK}{x m:Str}{p B apos:Pos}{e o:Expr}{es:Ab}{ta:TE}{t:TA}
set_option tactic.hygienic true in
theorem wQ(F:FnOk X.p X.w X.K X.g X.b CX k f fd ps sp)(n:Room k X.A)(b:Binds X.K fd ps ds)(d:a8 dvs ds)(c:jm CX X E)
  (I:Inv X pins J H s) (r:a8 i j) (h:sp (i++dvs) H Q E):wpAny (model X.p X.w) X.A (call (.ref f) j) (EP X pins J Q) X.xe s:=by
 have x:a8 (i++dvs) (j++ds):=r.append d;have a:(j++ds).length=ps.length:=by rw[<- x.length];exact F.len _ _ _ _ h
 refine sK (oV (F.run X.A X.k s H ⟨j,[]⟩ (j++ds) (i++dvs) Q E n I.env0 (b s j I.kIn a) x h) λr s' q=>?_);cases r with
 |error e=>exact c pins J H s e s' I q
 |ok l=>
  cases l with
  |ret u=>exact I.after q
  |next=>exact False.elim q
  |brk=>exact False.elim q
  |cont=>exact False.elim q
theorem Fx(F:FnOk X.p X.w X.K X.g X.b CX k f fd ps sp)(w:Room k X.A)(g:Gl X x)(v:X.g x=some (.ref f))(hk:eT X.K (.ref f)=true)(b:Binds X.K fd ps ds)(c:a8 dvs ds)(u:jm CX X E)
  (n:PA X (e::es) t) (d:(x == ("__debug__":Str))=false:=by decide) (m:starEach (e::es) X.e=(false,eval e X.e)::starEach es X.e:=by rfl) (l:(backTo B (starEach es X.e)).any (·.1)=false:=by rfl) :
  PE X (.Call (.Name x p) (e::es) [] B) (GU sp dvs E t):=by
 intro pins s J H Q I h;refine mI (oG I g v ?_ d);refine sn (h₀:=X.b) I.o.mod.kin hk (bF (n B pins s J H _ I h) λj i z=>?_) m l;obtain⟨y,G,a,r,q⟩:=z;refine⟨a.kIn,?_⟩;exact wQ F w b c u a r q
theorem Fu(K:PE X o ta)(c:Cls X.K C)(d:Meth X.K C m f)(F:FnOk X.p X.w X.K X.g X.b CX k f fd ps sp)(P:Room k X.A)(y:Binds X.K fd ps ds)(S:a8 dvs ds)(D:jm CX X E)(g:PA X (e::es) t)
  (n:starEach (e::es) X.e=(false,eval e X.e)::starEach es X.e:=by rfl) (p:(backTo B (starEach es X.e)).any (·.1)=false:=by rfl)
  (A:eval (.Call (.Attribute o m apos) (e::es) [] B) X.e=(do
   let i <- eval o X.e
   standAt apos.atName
   let (f,first) <- holding [i] (getMethod i m N)
   callWith B f first (backTo B (starEach (e::es) X.e)) (backToKw B (keywordEach [] X.e))):=by rfl) :
  PE X (.Call (.Attribute o m apos) (e::es) [] B) (BH C m sp dvs E ta t):=by
 intro pins s J H Q I h;refine Bf (pl:=N) (bF (K pins s J H _ I h) λu R z=>?_) A;obtain⟨x,G,b,M,a,dx,fs,ex,w,l,q⟩:=z;subst ex;obtain rfl:u=Value.ref a:=M;refine pM b w c d l ?_;refine sn (first:=[.ref a]) (h₀:=X.b) I.o.mod.kin d.kp (bF (g B pins R J G _ b q) λj V z=>?_) n p;obtain⟨T,H2,v,r,L⟩:=z;refine⟨v.kIn,?_⟩;exact wQ (j:=.ref a::j) (i:=.ref a::T) F P y S D v (.cons rfl r) L
theorem B'(t:PE X o ta)(c:Cls X.K C)(n:Meth X.K C m f)(F:FnOk X.p X.w X.K X.g X.b CX k f fd ps sp)(p:Room k X.A)(r:Binds X.K fd ps ds)(d:a8 dvs ds)(w:jm CX X E)
  (v:eval (.Call (.Attribute o m apos) [] [] B) X.e=(do
   let i <- eval o X.e
   standAt apos.atName
   let (f,first) <- holding [i] (getMethod i m N)
   callWith B f first (backTo B (starEach [] X.e)) (backToKw B (keywordEach [] X.e))):=by rfl) :
  PE X (.Call (.Attribute o m apos) [] [] B) (BH C m sp dvs E ta Lw):=by
 intro pins s J H Q I h;refine Bf (pl:=N) (bF (t pins s J H _ I h) λu y z=>?_) v;obtain⟨x,G,e,g,a,dx,fs,ex,b,l,q⟩:=z;subst ex;obtain rfl:u=Value.ref a:=g;refine pM e b c n l ?_;exact PySem.W.callWith_K0 (first:=[.ref a]) e.kIn n.kp (wQ (j:=[.ref a]) (i:=[.ref a]) F p r d w e (.cons rfl .nil) q)
structure Mk(K:FG)(C f:Addr):Prop where
 makes:wu K C=true
 init:bL K (.ref C) "__init__"=some (some (.ref f))
 fn:rV K (.ref f)=true
 kp:eT K (.ref C)=true
set_option tactic.hygienic true in
theorem BR(M:Mk X.K C f)(F:FnOk X.p X.w X.K X.g X.b CX k f fd ps sp)(w:Room (k+1) X.A)(t:Binds X.K fd ps ds)(d:a8 dvs ds)
  (g:jm CX X E) (I:Inv X pins J H s) (r:a8 i j)
  (h:∀x dx,H x=none->H dx=none->dx≠x->sp (.ref x::(i++dvs)) (cJ (cJ H dx (.own x)) x (.ins C dx [])) (λv H2=>v=.non/\Q (.ref x) H2) E) :
  wpAny (model X.p X.w) X.A (call (.ref C) j) (EP X pins J Q) X.xe s:=by
 have n:=h (s.heap.objs.size+1) s.heap.objs.size (I.h.fresh (ko _)) (I.h.fresh (aq _)) (bg (d0 _));have a:=Inv.made (C:=C) I;have b:a8 (V.ref (s.heap.objs.size+1)::(i++dvs)) (Value.ref (s.heap.objs.size+1)::(j++ds)):=.cons rfl (r.append d);have p:(Value.ref (s.heap.objs.size+1)::j++ds).length=ps.length:=by have e:=b.length;rw[F.len _ _ _ _ n]at e;exact e.symm
 refine sK (CB (f:=f) I.kIn M.makes M.init (lK.mp M.fn) (oV (F.run _ X.k _ _ ⟨Value.ref (s.heap.objs.size+1)::j,[]⟩ (Value.ref (s.heap.objs.size+1)::(j++ds)) _ _ E (w.make C j [])
  (a.env0.make C j []) (t _ (Value.ref (s.heap.objs.size+1)::j) a.kIn p) b n) λr s' q=>?_))
 cases r with
 |error e=>exact g pins J _ _ e s' a q
 |ok l=>
  cases l with
  |ret u=>obtain⟨v,H',c,z,m,y⟩:=a.after q;subst m;exact⟨z,⟨V.ref (s.heap.objs.size+1),H',c,rfl,y⟩⟩
  |next=>exact False.elim q
  |brk=>exact False.elim q
  |cont=>exact False.elim q
theorem Fv(M:Mk X.K C f)(F:FnOk X.p X.w X.K X.g X.b CX k f fd ps sp)(w:Room (k+1) X.A)(g:Gl X x)(v:X.g x=some (.ref C))(b:Binds X.K fd ps ds)(c:a8 dvs ds)(u:jm CX X E)
  (n:PA X (e::es) t) (d:(x == ("__debug__":Str))=false:=by decide) (m:starEach (e::es) X.e=(false,eval e X.e)::starEach es X.e:=by rfl) (l:(backTo B (starEach es X.e)).any (·.1)=false:=by rfl) :
  PE X (.Call (.Name x p) (e::es) [] B) (Ly C sp dvs E t):=by
 intro pins s J H Q I h;refine mI (oG I g v ?_ d);refine sn (h₀:=X.b) I.o.mod.kin M.kp (bF (n B pins s J H _ I h) λj i z=>?_) m l;obtain⟨y,G,a,r,q⟩:=z;refine⟨a.kIn,?_⟩;exact BR M F w b c u a r q
end
section
variable{X:Cx}{CX:vW}{k:Nat}{f C:Addr}{fd:FuncData}{ps ks:LS}{sp:Sp}{E:XK}{x m:Str}{p B apos kpos:Pos}{e o:Expr}{es:Ab}{kws:List Keyword}{te ta:TE}{t tk:TA}{nm:Option Str}
structure KBinds(K:FG)(fd:FuncData)(ps ks:LS)(g:LV->LV->LV)(gV:List V->List V->List V):Prop where
 to:∀(s:Shared)(us ws:LV),K.In s.heap->(g us ws).length=ps.length->BindsTo s fd ⟨us,ks.zip ws⟩ (ps.zip (g us ws))
 rel:∀{vs:List V}{us:LV}{zs:List V}{ws:LV},a8 vs us->a8 zs ws->a8 (gV vs zs) (g us ws)
variable{g:LV->LV->LV}{gV:List V->List V->List V}
end
structure FnScope(N P:LS)(sc:Scope):Prop where
 kind:sc.kind=.function
 co:sc.isCoroutine=false
 gen:sc.isGenerator=false
 nd:N.Nodup
 pre:N.take P.length=P
 par:∀x ∈ P,sc.names.lookup x=some .local\/sc.names.lookup x=some .cell
 nofree:∀y ∈ sc.names,y.2≠.free
theorem ri{kindOf:Str->Option NameKind}{x:Str}:∀{b:List (Str×Value)}{m:SV},(∀v,(x,v) ∉ b)->bindL kindOf b m x=m x
 | [],_,_=>rfl
 |(n,v)::r,m,h=>by
  unfold bindL;rw[ri λw a=>h w (aW _ a)];split
  .have:x≠n:=by rintro rfl;exact h v aM
   simp[this]
  .rfl
theorem rk{kindOf:Str->Option NameKind}{x:Str}:∀{b:List (Str×Value)}{m:SV},(∀v,(x,v) ∉ b)->bindC kindOf b m x=m x
 | [],_,_=>rfl
 |(n,v)::r,m,h=>by
  unfold bindC;rw[rk λw a=>h w (aW _ a)];split
  .rfl
  .have:x≠n:=by rintro rfl;exact h v aM
   simp[this]
theorem rj{kindOf:Str->Option NameKind}{x:Str}{v:Value}:∀{P:LS}{s:LV}{i:Nat}{m:SV},P.Nodup->P[i]? = some x->s[i]? = some v->kindOf x=some .local ->
  bindL kindOf (P.zip s) m x=some v
 | [],_,_,_,_,h,_,_=>by simp at h
 |_::_,[],_,_,_,_,h,_=>by simp at h
 |p::P,w::s,0,m,n,h1,h2,hk=>by simp at h1 h2;subst h1;subst h2;show bindL kindOf ((p,w)::P.zip s) m p=_;unfold bindL;rw[ri λv a=>(d4.mp n).1 (ol a).1,ac hk];simp
 |p::P,w::s,i+1,m,n,h1,h2,hk=>by show bindL kindOf ((p,w)::P.zip s) m x=_;unfold bindL;exact rj (i:=i) (d4.mp n).2 (by simpa using h1) (by simpa using h2) hk
theorem rl{kindOf:Str->Option NameKind}{x:Str}{v:Value}:∀{P:LS}{s:LV}{i:Nat}{m:SV},P.Nodup->P[i]? = some x->s[i]? = some v->kindOf x≠some .local ->
  bindC kindOf (P.zip s) m x=some v
 | [],_,_,_,_,h,_,_=>by simp at h
 |_::_,[],_,_,_,_,h,_=>by simp at h
 |p::P,w::s,0,m,n,h1,h2,hk=>by simp at h1 h2;subst h1;subst h2;show bindC kindOf ((p,w)::P.zip s) m p=_;unfold bindC;rw[rk λv a=>(d4.mp n).1 (ol a).1,ae hk];simp
 |p::P,w::s,i+1,m,n,h1,h2,hk=>by show bindC kindOf ((p,w)::P.zip s) m x=_;unfold bindC;exact rl (i:=i) (d4.mp n).2 (by simpa using h1) (by simpa using h2) hk
noncomputable def start(N:LS)(v:List V):St:=v.map some++List.replicate (N.length-v.length) none
noncomputable def ly(CX:vW)(P:Program)(w:World)(K:FG)(mg:SV)(base:Heap)(N:LS)(q:Str)(h:Scope)(f:Addr)(d:Value)(A:Around)(u:List Env)(s:Shared)(H:Hp)(E:XK):Cx where
 p:=P
 w:=w
 K:=K
 g:=mg
 b:=base
 A:=A.deeper (envOfC q h s.heap.objs.size f d)
 N:=N
 z:=s
 y:=H
 e:=envOfC q h s.heap.objs.size f d
 o:=u
 k:=envOfC q h s.heap.objs.size f d::u
 ex:=[]
 c:=true
 fn:=λ_=>true
 pn:=[]
 xe:=λe s'=>wpAny (model P w) (A.deeper (envOfC q h s.heap.objs.size f d)) (leaving (envOfC q h s.heap.objs.size f d) e) (λ_ x=>CX u H s E e x) (λa x=>CX u H s E a x) s'
variable{x:Str}
theorem vH{sc:Scope}(h:sc.names.lookup x=some .cell):∃c,(cellsFrom n sc.names []).lookup x=some c:=by have q:=wA sc.names n [] (.inl h);exact xL.mp q
theorem qQ{CX:vW}{P:Program}{w:World}{K:FG}{mg:SV}{base:Heap}{N ps:LS}{l:Str}{o:Scope}{f:Addr}{D:Value}{A:Around}{t:List Env}{s I:Shared}{H:Hp}{E:XK}{j:LV}{F:List V}
  (S:FnScope N ps o) (M:A.handled=none) (m:Env0 P w K mg base A t s H) (W:F.length=ps.length) (r:a8 F j)
  (x:InCallC s s.heap.objs.size (bindL (envOfC l o s.heap.objs.size f D).kindOf (ps.zip j) λ_=>none) (cellsFrom (s.heap.objs.size+1) o.names []) (bindC (envOfC l o s.heap.objs.size f D).kindOf (ps.zip j) λ_=>none) I) :
  Inv (ly CX P w K mg base N l o f D A t s H E) [] (start N F) H I:=by
 have Q:ps.length≤N.length:=by have:=cc yf S.pre;rw[iQ]at this;lia
 obtain⟨h1,tk,rfl,hk⟩:=x.done;have g:∀b:Addr,b ∉ (ly CX P w K mg base N l o f D A t s H E).ex:=fun b z=>absurd (show b ∈ ([]:List Addr) from z) (by simp);refine⟨⟨m.mod,S.kind,rfl,rfl,aq _,fun y z c h1 h2=>?_,fun y d=>?_,fun y c _ h=>?_,fun _=>M,Around.frames_deeper m.frames,.inr ⟨rfl,rfl⟩,fun b z=>absurd z (g b),m.bs,m.bsz,fun b _ _=>g b,fun b z=>absurd z (g b),m.funs,m.frf,m.tab⟩,
  rfl,m.bare,Un.kept hk,⟨_,x.toInCall.ns,λi y v h1 h2 T=>?_⟩,λy c h=>⟨_,x.cell y c h⟩,m.h.fresh (aq _),λy c h=>?_,λp B=>absurd (show p ∈ ([]:PN) from B) (by simp),m.h.kept hk,?_⟩
 .exact name_of_addr x.apart (o0 h1) (o0 h2)
 .have d:o.names.lookup y=some .cell\/o.names.lookup y=some .free:=d;rcases d with d|d
  .exact vH d
  .exact absurd rfl (S.nofree _ (o0 d))
 .exact lL (x.above y c (o0 h))
 .have hi:i < F.length:=by
   unfold start at h2;by_cases hi:i < F.length
   .exact hi
   .rw [fS (by simpa using hi)]at h2;rw[sE]at h2;split at h2<;>cases h2
  have L:F[i]? = some v:=by
   unfold start at h2;rw[eE (by simpa using hi),lP]at h2;cases e:F[i]? with
   |none=>rw[e]at h2;cases h2
   |some a=>rw[e]at h2;cases h2;rfl
  obtain⟨u,G,R⟩:=r.get L;have B:ps[i]? = some y:=by rw[<- S.pre,yy (by lia)];exact h1
  have C:ps.Nodup:=by rw[<- S.pre];exact S.nd.sublist (List.take_sublist _ _)
  refine⟨u,R,?_⟩;rcases S.par y (d6 B) with k|k
  .exact .inl ⟨k,rj C B G k⟩
  .obtain⟨c,e⟩:=vH (n:=s.heap.objs.size+1) k;refine .inr ⟨.inl k,c,e,?_⟩;have q:=x.cell y c e;rw[rl C B G (by show o.names.lookup y≠_;rw[k];decide)]at q;exact q
 .exact m.h.fresh (lL (x.above y c (o0 h)))
 .unfold start;show _=N.length;rw[aL,d3,iR];lia
set_option tactic.hygienic true in
theorem Nb{CX:vW}{P:Program}{w:World}{K:FG}{mg:SV}{base:Heap}{k:Nat}{f:Addr}{name a:Str}{p:Arguments}{m:List Stmt}{c:Scope}{dV kV B pm d ct oc:Value}{an od:Option Addr}
  {W:Array (OV)}{N ps:LS}{sp:Sp} (lk:K.lookup f=some ⟨oc,od,.func (gc name a p m c dV kV B pm an d ct),W⟩) (M:gd K d a=true) (S:FnScope N ps c)
  (len:∀g H Q E,sp g H Q E->g.length=ps.length)
  (l:∀(A:Around) (h:List Env) (s:Shared) (H:Hp) (g:List V) (Q:VK) (E:XK),Room k (A.deeper (envOfC a c s.heap.objs.size f d))->sp g H Q E ->
   ∃t,mD (ly CX P w K mg base N a c f d A h s H E) m t/\t { nx:=λ_ H'=>Q .non H',rt:=Q } (start N g) H) :
  FnOk P w K mg base CX (k+1) f (gc name a p m c dV kV B pm an d ct) ps sp:=by
 refine⟨len,λA h s H args j g Q E R C hb r G=>?_⟩;have hl:=len _ _ _ _ G;have Z:K.In s.heap:=C.mod.kin.keeps λb o e=>(C.bs b o e).1;have T:s.heap.NoLimit:=C.mod.nolimit.keeps λb o e=>(C.bs b o e).1;have z:∀y ∈ ps.zip j,c.names.lookup y.1=some .local\/(c.names.lookup y.1=some .cell/\((cellsFrom (s.heap.objs.size+1) c.names []).lookup y.1).isSome=true):=λ⟨n,v⟩ hy=>by
  rcases S.par n (ol hy).1 with q|q
  .exact .inl q
  .exact .inr ⟨q,wA _ _ _ (.inl q)⟩
 refine A1 R.depth (Z _ _ lk) rfl S.co S.gen rfl (Bd Z M) (hb _ _ _ _ ?_);refine A7 S.kind z λenv he s1 x=>?_;subst he;refine⟨T.keeps x.toInCall.keep,codeAny_func ?_⟩;obtain⟨t,ht,hq⟩:=l A h s H g Q E (R.deeper _) G;have I:Inv (ly CX P w K mg base N a c f d A h s H E) [] (start N g) H s1:=qQ S R.hd C hl r x;refine bC (ht [] s1 (start N g) H _ I hq) (λfl s' F=>?_) λe s' F=>F;have D:∀{L:St}{H':Hp}{v:V}{u:Value},Inv (ly CX P w K mg base N a c f d A h s H E) [] L H' s'->RelV v u->Q v H'->CE h P w H s Q u s':=
  λ{L H' v u} i X q=>⟨v,H',i.os,i.bare,i.base,i.h,X,q⟩
 cases fl with
 |ret u=>obtain⟨v,L,H',i,X,q⟩:=F;exact D i X q
 |next=>obtain⟨L,H',i,q⟩:=F;exact D (v:=V.non) (u:=Value.none) i rfl q
 |brk=>obtain⟨_,_,_,q⟩:=F;exact False.elim q
 |cont=>obtain⟨_,_,_,q⟩:=F;exact False.elim q
section
variable{X:Cx}{x:Str}{p B:Pos}{e:Expr}{es:Ab}{t:TA}{id T:String}{r:List V->Hp->VK->Prop}
noncomputable def QF(r:List V->Hp->VK->Prop)(t:TA):TE:=λJ H Q=>t J H λv G=>r v G Q
theorem pA(c:ez X (.builtin id) r)(g:Gl X x)(m:X.g x=none)(v:bootBuiltins x=some (.builtin id))(n:PA X (e::es) t)(f:x≠"__name__":=by decide)(d:(x == ("__debug__":Str))=false:=by decide)
  (k:starEach (e::es) X.e=(false,eval e X.e)::starEach es X.e:=by rfl) (l:(backTo B (starEach es X.e)).any (·.1)=false:=by rfl):PE X (.Call (.Name x p) (e::es) [] B) (QF r t):=by
 intro pins s J H Q I h;refine mI (mU I g m v ?_ f d);exact Ew (bF (n B pins s J H _ I h) λj w z=>by obtain⟨u,G,a,b,q⟩:=z;exact c pins w J G u j Q a b q) k l
theorem Aj(c:ez X (.type T) r)(g:Gl X x)(m:X.g x=none)(v:bootBuiltins x=some (.type T))(n:PA X (e::es) t)(f:x≠"__name__":=by decide)(d:(x == ("__debug__":Str))=false:=by decide)
  (k:starEach (e::es) X.e=(false,eval e X.e)::starEach es X.e:=by rfl) (l:(backTo B (starEach es X.e)).any (·.1)=false:=by rfl):PE X (.Call (.Name x p) (e::es) [] B) (QF r t):=by
 intro pins s J H Q I h;refine mI (mU I g m v ?_ f d);exact n7 (bF (n B pins s J H _ I h) λj w z=>by obtain⟨u,G,a,b,q⟩:=z;exact c pins w J G u j Q a b q) k l
end
end L2
set_option tactic.hygienic true
namespace HT
open PySem PyProof.Rows
section
variable{prog:Program}{w:World}{A:Around}{E:VP}{s:Shared}
theorem Gm(j:IsTup s.heap t i.toArray)(g:IsTup s.heap b q.toArray)(v:i≠[])
  (h1:q=[]->Q (.ref t) s) (h2:q≠[]->Q (.ref s.heap.objs.size) { s with heap:=s.heap.push { cls:=.type "tuple",data:=.seq (i++q).toArray } })
  (z:i.length+q.length≤sizeLine):wpAny (model prog w) A (binaryOp .Add (.ref t) (.ref b)) Q E s:=by
 obtain⟨⟨N,f,I,u⟩,o,m,n,r⟩:=id j;obtain⟨⟨k,d,data2,l⟩,h,c,p,x⟩:=id g;simp only at m r c x;subst m r c x;have e:i.toArray++q.toArray=(i++q).toArray:=by simp
 by_cases a:q=[]
 .exact v0 ⟨_,o,rfl⟩ ⟨_,h,rfl⟩ we v7 rQ rS (rT _ _)
   (tuple_addW1 t b i.toArray q.toArray n p f d u l (by simpa using v) (by simp[a])) ⟨o,h,h1 a⟩
 .refine v0 ⟨_,o,rfl⟩ ⟨_,h,rfl⟩ we v7 rQ rS (rT _ _)
   (tuple_addW2 t b i.toArray q.toArray n p f d u l (by simpa using v) (by simpa using a) (by rw[bu,bu];exact z)) ⟨o,h,?_⟩
  rw[e];exact h2 a
noncomputable def em(n d:Nat):Option Int->Nat
 |none=>d
 |some v=>if v < 0 then (v+(n:Int)).toNat else min v.toNat n
theorem Ii(n d:Nat)(x:d≤n)(o:Option Int):em n d o≤n:=by
 cases o with
 |none=>exact x
 |some v=>
  show(if v < 0 then (v+(n:Int)).toNat else min v.toNat n)≤n;by_cases h:v < 0
  .rw [ac h];lia
  .rw [ae h];exact Nat.min_le_right _ _
theorem zT(v:Int)(n d:Nat):(if v < 0 then max (v+(n:Int)) 0 else min v (n:Int))=((em n d (some v):Nat):Int):=by
 show(if v < 0 then max (v+(n:Int)) 0 else min v (n:Int))=(((if v < 0 then (v+(n:Int)).toNat else min v.toNat n):Nat):Int);by_cases h:v < 0
 .simp only[ac h];lia
 .simp only[ae h];lia
theorem xo(lo hi:Option Int)(n:Nat):rM lo hi 1 (n:Int)=(((em n 0 lo:Nat):Int),((em n n hi:Nat):Int)):=by
 have h1:¬((1:Int) < 0):=by lia
 unfold rM;simp only[h1,fN];refine Prod.ext ?_ ?_
 .cases lo with
  |none=>rfl
  |some v=>exact zT v n 0
 .cases hi with
  |none=>rfl
  |some v=>exact zT v n n
theorem wW(i j:Nat):nW (i:Int) (j:Int) 1=j-i:=by
 unfold nW;have h1:(1:Int) > 0:=by lia
 simp only[h1,fM,Int.ediv_one];split<;>lia
theorem pi(p:IsPart v o)(h:Q o s):wpAny (model prog w) A (D2 v) Q E s:=by
 cases p with
 |none=>exact xV h
 |int i t=>exact slicePart_int h
theorem iE{l:Addr}{v u:Value}{lo hi:Option Int}{n:Nat}{Q:Int×Int×Nat->Shared->Prop}(a:s.heap.IsSliceOf l v u .none)(p:IsPart v lo)(e:IsPart u hi)
  (h:Q (((em n 0 lo:Nat):Int),1,em n n hi-em n 0 lo) s):wpAny (model prog w) A (xA (.ref l) (pure (n:Int))) Q E s:=by
 obtain⟨os,o,c,d⟩:=id a;unfold xA D1;refine ag (ag (eS o d (x:=v) rfl (ag (eS o d (x:=u) rfl (ag (eS o d (x:=.none) rfl (aF ?_)))))));refine ag (xV ?_);show wpAny _ _ (if ((1:Int) == 0)=true then _ else _) _ _ s;rw[ae (by decide)];refine ag (pi p (ag (pi e (ag (aF ?_)))));show wpAny _ _ (match rM lo hi 1 (n:Int) with|(lo,hi)=>pure (lo,(1:Int),nW lo hi 1)) _ _ s;rw[xo lo hi n];show wpAny _ _ (pure (((em n 0 lo:Nat):Int),(1:Int),nW ((em n 0 lo:Nat):Int) ((em n n hi:Nat):Int) 1)) _ _ s;rw[wW];exact aF h
theorem B8(xs:Array Value)(i k:Nat):((List.range k).filterMap λ(m:Nat)=>xs[((i:Int)+(m:Int) * 1).toNat]?).toArray=((xs.toList.drop i).take k).toArray:=by
 have e:(λ(m:Nat)=>xs[((i:Int)+(m:Int) * 1).toNat]?)=λm=>xs[i+m]?:=by
  funext m;have:((i:Int)+(m:Int) * 1).toNat=i+m:=by lia
  rw[this]
 rw[e];have:=pick_run xs i k
 rw[List.filterMap_map]at this;have h:((λx=>xs[x]?) ∘ λx=>i+x)=λm=>xs[i+m]?:=rfl;rw[h]at this;rw[this]
theorem me{t l:Addr}{i:Array Value}{v u:Value}{lo hi:Option Int}{Q:VP}(x:IsTup s.heap t i)(e:s.heap.IsSliceOf l v u .none)(p:IsPart v lo)(f:IsPart u hi)
  (k:¬(em i.size 0 lo=0/\em i.size i.size hi=i.size))
  (h:Q (.ref s.heap.objs.size) { s with heap:=s.heap.push { cls:=.type "tuple",data:=.seq ((i.toList.drop (em i.size 0 lo)).take (em i.size i.size hi-em i.size 0 lo)).toArray } })
  (z:i.size≤sizeLine):wpAny (model prog w) A (getItem (.ref t) (.ref l)) Q E s:=by
 have a:sizeOk (.seq ((i.toList.drop (em i.size 0 lo)).take (em i.size i.size hi-em i.size 0 lo)).toArray):=by show((i.toList.drop (em i.size 0 lo)).take (em i.size i.size hi-em i.size 0 lo)).toArray.size≤sizeLine;rw[bu,iQ,sv,sI];lia
 have j:em i.size i.size hi≤i.size:=Ii _ _ (aq _) hi;obtain⟨os,o,c,d⟩:=id e;have T:s.TypeIs (.ref l) "slice":=⟨os,o,c⟩;unfold getItem;try with_reducible refine k0 ?_
 first|refine ag (aF ?_)|skip
 refine ag (yS x.typeIs (by decide) ?_);refine ag (o3 (name:=Str.ofString "__getitem__") x.typeIs iK
  (oW iK x.typeIs xX ?_ (xW _ _)))
 show wpAny _ _ (A8 (.ref t) >>= _) _ _ s;refine ag (xU x ?_);refine ag (v6 T ?_);rw[ac (by decide)];refine ag (iE e p f ?_);have n:¬((((em i.size 0 lo:Nat):Int) == 0 && (1:Int) == 1 && (em i.size i.size hi-em i.size 0 lo) == i.size)=true):=by intro q;rw[aE,aE]at q;have b:((em i.size 0 lo:Nat):Int)=0:=eq_of_beq q.1.1;have r:em i.size i.size hi-em i.size 0 lo=i.size:=eq_of_beq q.2;exact k ⟨by lia,by lia⟩
 show wpAny _ _ (if (((em i.size 0 lo:Nat):Int) == 0 && (1:Int) == 1 && (em i.size i.size hi-em i.size 0 lo) == i.size)=true then _ else _) _ _ s;rw[ae n,B8];first
  |exact ag (m:=xq _) (oX (aF ⟨_,rfl,aF h⟩) a)
  |exact ag (m:=xq _) (oX (ag (aF (aF ⟨_,rfl,aF h⟩))) a)
  |exact ag (ag (m:=xq _) (oX (aF (aF ⟨_,rfl,aF h⟩)) a))
  |exact ag (ag (m:=xq _) (oX (aF ⟨_,rfl,aF h⟩) a))
end
end HT
set_option tactic.hygienic false
namespace L2
open PySem PySem.Spec PyProof.Rows
noncomputable abbrev TO:=St->Hp->(Option Int->Hp->Prop)->Prop
def PO(X:Cx)(e:Option Expr)(t:TO):Prop:=
 ∀(pins:PN)(s:Shared)(J:St)(H:Hp)(Q:Option Int->Hp->Prop),Inv X pins J H s->t J H Q ->
  wpAny (model X.p X.w) X.A (evalPart e X.e) (λu s'=>∃o H',Inv X pins J H' s'/\IsPart u o/\Q o H') X.xe s
noncomputable def EX:TO:=λ_ H Q=>Q none H
noncomputable def Lu(t:TE):TO:=λJ H Q=>t J H λx G=>∃i,x=.int i/\Q (some i) G
section
variable{X:Cx}{e:Expr}{te:TE}{lo hi:Option Expr}{tl th:TO}{B p2:Pos}
theorem Fj:PO X none EX:=by intro pins s J H Q I h;rw[yF];exact aF ⟨none,H,I,.none,h⟩
theorem Fi(h:PE X e te):PO X (some e) (Lu te):=by
 intro pins s J H Q I w;rw[evalPart_some];refine bF (h pins s J H _ I w) λu k z=>?_
 obtain⟨x,G,a,r,n⟩:=z;obtain⟨i,rfl,q⟩:=n;obtain⟨t,rfl⟩:=r;exact⟨some i,G,a,.int i t,q⟩
def GD(X:Cx)(r:V->Option Int->Option Int->Hp->VK->Prop):Prop:=
 ∀(pins:PN)(s:Shared)(J:St)(H:Hp)(x:V)(v h u:Value)(lo hi:Option Int)(l:Addr)(Q:VK),Inv X pins J H s->RelV x v->s.heap.IsSliceOf l h u .none->IsPart h lo->IsPart u hi->r x lo hi H Q ->
  ∃T id,typeLookup (.type T) "__getitem__"=pure (some (.builtin id))/\s.TypeIs v T/\wpAny (model X.p X.w) X.A (getItem v (.ref l)) (EP X pins J Q) X.xe s
theorem GD.or(h:GD X r)(h':GD X i):GD X (λx lo hi H Q=>r x lo hi H Q\/i x lo hi H Q):=by
 intro pins s J H x v n k lo hi l Q I e a p u q;rcases q with q|q
 .exact h pins s J H x v n k lo hi l Q I e a p u q
 .exact h' pins s J H x v n k lo hi l Q I e a p u q
noncomputable def Q9(r:V->Option Int->Option Int->Hp->VK->Prop)(te:TE)(tl th:TO):TE:=λJ H Q=>te J H λx G=>tl J G λl H2=>th J H2 λu h=>r x l u h Q
theorem B_(j:GD X r)(w:PE X e te)(i:PO X lo tl)(o:PO X hi th):PE X (.Subscript e (.Slice lo hi none p2) B) (Q9 r te tl th):=by
 intro pins s J H Q I h;refine Subscript_ (bF (w pins s J H _ I h) λv D z=>?_);obtain⟨x,G,c,C,K⟩:=z;refine wpAny_Slice (bF (i pins D J G _ c K) λn E ⟨l,H2,m,S,P⟩=>bF (o pins E J H2 _ m P) λk a z=>?_);obtain⟨u,f,t,F,A⟩:=z;rw[yF];refine aF ?_;have p:Inv X pins J f { a with heap:=a.heap.push { cls:=.type "slice",data:=.fields #[n,k,.none] } }:=t.kept (t':=a.toks) λb L q=>aJ _ q
 obtain⟨T,id,d,y,g⟩:=j pins { a with heap:=a.heap.push { cls:=.type "slice",data:=.fields #[n,k,.none] } } J f x v n k l u a.heap.objs.size Q p C (Heap.IsSliceOf.new ..) S F A;show wpAny (model X.p X.w) X.A (subscriptTail e (.Slice lo hi none p2) v (.ref a.heap.objs.size)) (EP X pins J Q) X.xe { a with heap:=a.heap.push { cls:=.type "slice",data:=.fields #[n,k,.none] } };exact nZ (ops:=[.ref a.heap.objs.size,v]) y d g (by with_unfolding_all rfl)
def vw(xs:List V)(lo hi:Option Int):List V:=(xs.drop (HT.em xs.length 0 lo)).take (HT.em xs.length xs.length hi-HT.em xs.length 0 lo)
theorem nq(xs:List V)(lo hi:Option Int):(vw xs lo hi).length≤xs.length:=by unfold vw;rw[iQ,sv];lia
def Px(K:FG):V->Option Int->Option Int->Hp->VK->Prop:=λx lo hi H Q=>∃a xs,x=.ref a/\rA K H a xs /\
 ¬(HT.em xs.length 0 lo=0/\HT.em xs.length xs.length hi=xs.length)/\∀p,H p=none->Q (.ref p) (cJ H p (.tup (vw xs lo hi)))
theorem Ib:GD X (Px X.K):=by
 intro pins s J H x v m d lo hi c Q I k e p u h;obtain⟨a,xs,rfl,n,w,q⟩:=h;cases k;obtain⟨i,r,t,z⟩:=I.tuple n;have l:i.toArray.size=xs.length:=by rw[bu];exact r.length.symm
 refine⟨"tuple",_,iK.lookup,t.typeIs,?_⟩;refine HT.me t e p u (by rw[l];exact w) ?_ (by rw[l];exact z);rw[l];refine⟨.ref s.heap.objs.size,_,I.laid (t':=s.toks) (o:=.tup (vw xs lo hi)) (λb f q=>aJ _ q) (aq _) ?_,rfl,q _ (I.h.fresh (aq _))⟩;exact⟨a9 (nq xs lo hi) z,_,(r.drop (HT.em xs.length 0 lo)).take (HT.em xs.length xs.length hi-HT.em xs.length 0 lo),nR.new _ _⟩
def LZ(K:FG):R2:=λx y H Q=>∃a b xs ys,x=.ref a/\y=.ref b/\rA K H a xs/\rA K H b ys/\xs≠[]/\xs.length+ys.length≤sizeLine /\
 (ys=[]->Q (.ref a) H)/\(ys≠[]->∀p,H p=none->Q (.ref p) (cJ H p (.tup (xs++ys))))
theorem a8.nil_iff(r:a8 xs j):j=[]↔xs=[]:=by
 cases r with
 |nil=>simp
 |cons _ _=>simp
theorem FD:iC X (binaryOp .Add) (LZ X.K):=by intro pins s J H x y v u Q I g j h;obtain⟨a,b,xs,ys,rfl,rfl,k,f,c,n,m,d⟩:=h;cases g;cases j;obtain⟨t,e,p,_⟩:=I.tuple k;obtain⟨i,r,p2,_⟩:=I.tuple f;refine HT.Gm p p2 (λz=>c (e.nil_iff.mp z)) (λz=>⟨.ref a,H,I,rfl,m (r.nil_iff.mp z)⟩) (λz=>?_) (by rw[<- e.length,<- r.length];exact n);refine⟨.ref s.heap.objs.size,_,I.laid (t':=s.toks) (o:=.tup (xs++ys)) (λb l q=>aJ _ q) (aq _) ?_,rfl,d (λw=>z (r.nil_iff.mpr w)) _ (I.h.fresh (aq _))⟩;exact⟨by rw[aL];exact n,_,e.append r,nR.new _ _⟩
end
noncomputable def Hi(n:Nat)(i:Int):Option Nat:=if 0≤i then (if i < n then some i.toNat else none) else if -(n:Int)≤i then some (i+n).toNat else none
variable{α:Type}
def atI(xs:List α)(i:Int):Option α:=(Hi xs.length i).bind λj=>xs[j]?
variable{n:Nat}
theorem FU{i:Int}(h:Hi n i=some q):seqIndex? i n=some q/\q < n/\-(n:Int)≤i/\i < n:=by
 unfold Hi at h;by_cases x:0≤i
 .rw [ac x]at h;by_cases h1:i < n
  .rw [ac h1]at h;have e:i.toNat=q:=iL h;exact⟨by rw[seqIndex_of x h1,e],by lia,by lia,h1⟩
  .rw [ae h1]at h;cases h
 .rw [ae x]at h;by_cases h1:-(n:Int)≤i
  .rw [ac h1]at h;have e:(i+n).toNat=q:=iL h;exact⟨by rw[seqIndex_neg (by lia) h1,e],by lia,h1,by lia⟩
  .rw [ae h1]at h;cases h
theorem ul{i:Int}(h:atI xs i=some v):∃j,seqIndex? i xs.length=some j/\xs[j]? = some v/\j < xs.length/\-(xs.length:Int)≤i/\i < xs.length:=by
 unfold atI at h;cases e:Hi xs.length i with
 |none=>rw[e]at h;cases h
 |some j=>rw[e]at h;obtain⟨h1,h2,x,a⟩:=FU e;exact⟨j,h1,h,h2,x,a⟩
def mB(b:Expr):Prop:=∀o i,subscripted b false o i=operate [o,i] (getItem o i)
def DP(X:Cx)(r:R2):Prop:=
 ∀(value l:Expr)(pins:PN)(s:Shared)(J:St)(H:Hp)(x y:V)(v u:Value)(Q:VK),Inv X pins J H s->RelV x v->RelV y u->r x y H Q ->
  subscripted l false v u=operate [v,u] (getItem v u)->wpAny (model X.p X.w) X.A (subscriptTail value l v u) (EP X pins J Q) X.xe s
def Ox(X:Cx)(id:String)(r:V->List V->Hp->VK->Prop):Prop:=
 ∀(pins:PN)(s:Shared)(J:St)(H:Hp)(x:V)(xs:List V)(v:Value)(j:LV)(Q:VK),Inv X pins J H s->RelV x v->a8 xs j->r x xs H Q ->
  wpAny (model X.p X.w) X.A (call (.builtin id) (v::j)) (EP X pins J Q) X.xe s
section
variable{X:Cx}{a b:Expr}{ta tb:TE}{B:Pos}
theorem DP.or(h:DP X r)(h':DP X i):DP X (λx y H Q=>r x y H Q\/i x y H Q):=by
 intro value l pins s J H x y v u Q I e n q a;rcases q with q|q
 .exact h value l pins s J H x y v u Q I e n q a
 .exact h' value l pins s J H x y v u Q I e n q a
theorem Ca(f:DP X r)(n:PE X a ta)(k:PE X b tb)(c:mB b):PE X (.Subscript a b B) (GR r ta tb):=by intro pins s J H Q I h;exact Subscript_ (JZ n k I h λv u p x y H2 e m t q=>f a b pins p J H2 x y v u Q e m t q (c _ _))
def PF(K:FG):R2:=λx y H Q=>∃p xs i v,x=.ref p/\y=.int i/\jA K H p xs/\atI xs i=some v/\Q v H
def PC(K:FG):R2:=λx y H Q=>∃p xs i v,x=.ref p/\y=.int i/\rA K H p xs/\atI xs i=some v/\Q v H
def PD:R2:=λx y H Q=>∃z i c,x=.str z/\y=.int i/\z.length≤sizeLine/\atI z.cps.toList i=some c/\Q (.str ⟨#[c]⟩) H
theorem tS:DP X (PF X.K):=by
 intro value c pins s J H x y v u Q I K P h m;obtain⟨p,xs,i,z,rfl,rfl,F,o,q⟩:=h;cases K;obtain⟨t,rfl⟩:=P;obtain⟨e,r,l,C⟩:=I.list F;obtain⟨j,h1,h2,A,d,g⟩:=ul o;obtain⟨w,k,n⟩:=r.get h2;have S:=r.length;have B:=li;have f:EP X pins J Q w s:=⟨z,H,I,n,q⟩;by_cases b:0≤i
 .have a:i.toNat=j:=by
   rw[seqIndex_of b g]at h1;exact iL h1
  exact item_listR l.isList b (by lia) (by rw[a];simpa using k) f m
 .have a:(i+(e.toArray.size:Int)).toNat=j:=by
   rw[seqIndex_neg (by lia) d]at h1;rw[bu,<- S];exact iL h1
  exact xZ (x:=w) l.isList.typeIs yP.lookup
   (wpAny_getItem_list_neg (Q:=λr s'=>r=w/\EP X pins J Q r s') l.isList (by lia) (by rw[bu]<;>lia) (by lia) (by rw[a];simpa using k) ⟨rfl,f⟩) m
theorem CL:DP X (PC X.K):=by
 intro value l pins s J H x y v u Q I g o h m;obtain⟨p,xs,i,z,rfl,rfl,c,k,q⟩:=h;cases g;obtain⟨t,rfl⟩:=o;obtain⟨d,r,e,A⟩:=I.tuple c;obtain⟨j,h1,h2,S,F,K⟩:=ul k;obtain⟨w,n,a⟩:=r.get h2;have b:=r.length;have P:=li;have f:EP X pins J Q w s:=⟨z,H,I,a,q⟩;exact xZ (x:=w) e.typeIs iK.lookup
  (getItem_tuple (j:=j) (Q:=λr s'=>r=w/\EP X pins J Q r s') e (by lia) (by lia) (by rw[bu,<- b];exact h1) (by simpa using n) ⟨rfl,f⟩) m
theorem Js:DP X PD:=by
 intro value l pins s J H x y v u Q I r p h m;obtain⟨z,i,c,rfl,rfl,g,f,q⟩:=h;obtain⟨t,rfl⟩:=r;obtain⟨o,rfl⟩:=p;obtain⟨j,h1,h2,d,n,k⟩:=ul f;have b:z.cps.toList.length=z.length:=by simp[kg]
 rw[b]at h1 n k;have w:=li;exact nZ (oT s z t) slot_str_getitem.lookup (getItem_str (c:=c) (by have e:decide (i < -(2 ^ 63:Int))=false:=a7 (by lia);have a:decide (i ≥ 2 ^ 63)=false:=a7 (by lia);rw[e,a,Bool.or_false]) (by rw[h1];simpa using h2) ⟨.str ⟨#[c]⟩,H,I.tok _,⟨_,rfl⟩,q⟩) m
theorem s_(lo hi:Option Int)(n:Nat):(sliceBounds lo hi none n).1=((HT.em n 0 lo:Nat):Int)/\(sliceBounds lo hi none n).2.1=((HT.em n n hi:Nat):Int)/\(sliceBounds lo hi none n).2.2=1:=by
 refine⟨?_,?_,rfl⟩
 .cases lo with
  |none=>simp[sliceBounds,HT.em]
  |some i=>
   simp only[sliceBounds,HT.em,xK,show(1:Int) > 0 by decide,fM];by_cases h:i < 0
   .simp only[h,fM]<;>lia
   .simp only[h,fN]<;>lia
 .cases hi with
  |none=>simp[sliceBounds,HT.em]
  |some i=>
   simp only[sliceBounds,HT.em,xK,show(1:Int) > 0 by decide,fM];by_cases h:i < 0
   .simp only[h,fM]<;>lia
   .simp only[h,fN]<;>lia
theorem qk(i:LV)(lo hi:Option Int):slicePick i.toArray lo hi none=((i.drop (HT.em i.length 0 lo)).take (HT.em i.length i.length hi-HT.em i.length 0 lo)).toArray:=by obtain⟨h1,h2,h⟩:=s_ lo hi i.toArray.size;unfold slicePick;rw[h1,h2,h];simp only[sliceRange_one,pick_run,bu]<;>rfl
def Py(K:FG):V->Option Int->Option Int->Hp->VK->Prop:=λx lo hi H Q=>∃a xs,x=.ref a/\jA K H a xs/\∀p,H p=none->Q (.ref p) (cJ H p (.lst (vw xs lo hi)))
theorem E1:GD X (Py X.K):=by intro pins s J H x v m d lo hi c Q I k e p u h;obtain⟨a,xs,rfl,n,q⟩:=h;cases k;obtain⟨i,r,t,z⟩:=I.list n;have l:=r.length;refine⟨"list",_,yP.lookup,t.isList.typeIs,?_⟩;refine wpAny_getItem_list_slice t.isList e p u .none (by simp) ?_ (by rw[bu]<;>lia);rw[qk,<- l];refine⟨.ref s.heap.objs.size,_,I.laid (t':=s.toks) (o:=.lst (vw xs lo hi)) (λb f q=>aJ _ q) (aq _) ?_,rfl,q _ (I.h.fresh (aq _))⟩;exact⟨a9 (nq xs lo hi) z,_,0,(r.drop (HT.em xs.length 0 lo)).take (HT.em xs.length xs.length hi-HT.em xs.length 0 lo),aS _ rfl⟩
theorem tG:iC X (compareOp .NotIn) (λx y H Q=>∃i j,x=.str i/\y=.str j/\Q (.bl (!(!(lH j i 0 j.length 1).isEmpty))) H):=by intro pins s J H x y v u Q I r a h;obtain⟨i,j,rfl,rfl,q⟩:=h;obtain⟨t,rfl⟩:=r;obtain⟨e,rfl⟩:=a;exact notIn_str ⟨.bl _,H,I,rfl,q⟩
theorem uk:ez X (.builtin "len") (λxs H Q=>∃p ys,xs=[.ref p]/\(jA X.K H p ys\/rA X.K H p ys)/\Q (.int ys.length) H):=by
 intro pins s J H xs j Q I r h;obtain⟨p,ys,rfl,x,q⟩:=h;obtain⟨u,rfl,n⟩:=vals1 r;cases n;have k:=li;rcases x with x|x
 .obtain⟨i,e,a,z⟩:=I.list x;have l:=e.length;exact Calls.call_len_list a.isList (by simp only[bu]<;>lia) ⟨.int ys.length,H,I.tok _,⟨s.toks+1,by rw[bu,l]⟩,q⟩
 .obtain⟨i,e,a,z⟩:=I.tuple x;have l:=e.length;exact len_tuple a (by simp only[bu]<;>lia) ⟨.int ys.length,H,I.tok _,⟨s.toks+1,by rw[bu,l]⟩,q⟩
theorem uj:ez X (.builtin "len") (λxs H Q=>∃z,xs=[.str z]/\z.length≤sizeLine/\Q (.int z.length) H):=by intro pins s J H xs j Q I r h;obtain⟨z,rfl,x,q⟩:=h;obtain⟨u,rfl,t,rfl⟩:=vals1 r;have n:=li;exact len_str (by lia) ⟨.int z.length,H,I.tok _,⟨_,rfl⟩,q⟩
theorem ez.or(h:ez X f r)(h':ez X f i):ez X f (λxs H Q=>r xs H Q\/i xs H Q):=by
 intro pins s J H xs j Q I x q;rcases q with q|q
 .exact h pins s J H xs j Q I x q
 .exact h' pins s J H xs j Q I x q
def tyV(K:FG)(T:String)(x:V)(H:Hp):Prop:=match x with
 | .str _=>T="str"
 | .int _=>T="int"
 | .ref p=>(T="list"/\∃xs,jA K H p xs)\/(T="tuple"/\∃o,K.lookup p=some o/\o.cls=.type "tuple"/\o.dict=none) \/
   (T="dict"/\((∃k,H p=some (.dK k))\/∃k,H p=some (.dT k)))\/(T="set"/\∃S n,H p=some (.set S n))
 |_=>False
theorem Bu(I:Inv X pins J H s)(r:RelV x v)(ty:tyV X.K T x H) :
  s.TypeIs v T/\∀a,v=.ref a->∃b,s.heap.get? a=some b/\b.dict=none:=by
 cases x with
 |str z=>obtain⟨t,rfl⟩:=r;cases (show T="str" from ty);exact⟨oT s z t,λ_ e=>nomatch e⟩
 |int i=>obtain⟨t,rfl⟩:=r;cases (show T="int" from ty);exact⟨oS s i t,λ_ e=>nomatch e⟩
 |ref p=>
  cases r;rcases ty with ⟨rfl,xs,q⟩|⟨rfl,o,hk,f,d⟩|⟨rfl,hk⟩|⟨rfl,S,n,hk⟩
  .obtain⟨m,_,l,_⟩:=I.list q;refine⟨l.isList.typeIs,λa e=>?_⟩;cases e;obtain⟨o,n,e,c,d,_⟩:=l;exact⟨o,e,d⟩
  .refine⟨⟨o,I.kIn p o hk,f⟩,λa e=>?_⟩;cases e;exact⟨o,I.kIn _ o hk,d⟩
  .have z:∃o,s.heap.get? p=some o/\o.ExactDict:=by
    rcases hk with ⟨k,hk⟩|⟨k,hk⟩
    .obtain⟨_,_,_,_,o,_,_,e,ex,_⟩:=I.h p _ hk;exact⟨o,e,ex⟩
    .obtain⟨_,_,_,_,o,_,_,e,ex,_⟩:=I.h p _ hk;exact⟨o,e,ex⟩
   obtain⟨o,e,ex⟩:=z;refine⟨⟨o,e,ex.1⟩,λa h=>?_⟩;cases h;exact⟨o,e,ex.2.1⟩
  .obtain⟨o,_,_,_,e,ex,_⟩:=I.h p _ hk;refine⟨⟨o,e,ex.1⟩,λa h=>?_⟩;cases h;exact⟨o,e,ex.2.1⟩
 |_=>exact False.elim ty
noncomputable def Pn(K:FG)(T:String)(r:V->List V->Hp->VK->Prop)(to:TE):TE:=λJ H Q=>to J H λx G=>tyV K T x G/\r x [] G Q
noncomputable def Ra(K:FG)(T:String)(r:V->List V->Hp->VK->Prop)(to:TE)(t:TA):TE:=λJ H Q=>to J H λx G=>tyV K T x G/\t J G λxs H2=>r x xs H2 Q
variable{o e:Expr}{es:Ab}{to:TE}{t:TA}{name:Str}{apos cpos:Pos}{T id:String}{r:V->List V->Hp->VK->Prop}
theorem IH(p:PlainAttrs T)(slot:Slot T name id)(t:typeOf (.builtin id)=pure (.type "method_descriptor"))(m:Ox X id r)(n:PE X o to)
  (b:attributeBase o name X.e (eval o X.e)=eval o X.e:=by rfl) (l:(apos.endLine == cpos.line)=true:=by rfl):PE X (.Call (.Attribute o name apos) [] [] cpos) (Pn X.K T r to):=by
 intro pins s J H Q I h;refine wpAny_Call_method0_late b l (bF (n pins s J H _ I h) λv k z=>?_);obtain⟨x,G,a,e,ty,q⟩:=z;obtain⟨h1,h2⟩:=Bu a e ty;exact⟨T,id,p,slot,t,h1,h2,lJ rfl (PySem.evalArgs_none (m pins k J G x [] v [] Q a e .nil q))⟩
theorem Ce(w:PlainAttrs T)(slot:Slot T name id)(y:typeOf (.builtin id)=pure (.type "method_descriptor"))(m:Ox X id r)(q:PE X o to)(c:PA X (e::es) t)
  (b:attributeBase o name X.e (eval o X.e)=eval o X.e:=by rfl)
  (f:((backTo cpos (starEach (e::es) X.e)).all (fun x=>!x.1) && (backToKw cpos (keywordEach [] X.e)).all (fun x=>x.1.isSome)
   && decide ((e::es).length+([]:List Keyword).length+(if ([]:List Keyword).isEmpty then 0 else 1) < 30))=true:=by rfl)
  (l:(apos.endLine == cpos.line)=true:=by rfl) (d:starEach (e::es) X.e=(false,eval e X.e)::starEach es X.e:=by rfl) (p:(backTo cpos (starEach es X.e)).any (·.1)=false:=by rfl) :
  PE X (.Call (.Attribute o name apos) (e::es) [] cpos) (Ra X.K T r to t):=by
 intro pins s J H Q I h;refine A5 b f l rfl (bF (q pins s J H _ I h) λv S z=>?_);obtain⟨x,G,a,n,ty,u⟩:=z;obtain⟨h1,h2⟩:=Bu a n ty;refine⟨T,id,w,slot,y,h1,h2,?_⟩;have A:=c cpos pins S J G _ a u;rw[d]at A ⊢;refine lJ (by show(false ||(backTo cpos (starEach es X.e)).any (·.1))=false;rw[p]<;>rfl) (n_ ?_);exact bF A λj F z=>by obtain⟨K,H2,k,i,g⟩:=z;exact m pins F J H2 x K v j Q k n i g
end
def QS(X:Cx)(id:String)(r:V->List V->Hp->VK->Prop):Prop:=
 ∀(pins:PN)(s:Shared)(J:St)(H:Hp)(x:V)(xs:List V)(v:Value)(j:LV)(Q:VK),Inv X pins J H s->RelV x v->a8 xs j->r x xs H Q ->
  wpAny (model X.p X.w) X.A (call (.builtin id) (v::j)) (EP X pins J Q) X.xe s
theorem a8.one:∀{x:V}{j:LV},a8 [x] j->∃u,j=[u]/\RelV x u
 |_,_,.cons r .nil=>⟨_,rfl,r⟩
theorem a8.zero:∀{j:LV},a8 [] j->j=[]
 |_,.nil=>rfl
variable{xs:List V}{j:LV}
theorem a8.dropLast(h:a8 xs j):a8 xs.dropLast j.dropLast:=by
 induction h with
 |nil=>exact .nil
 |cons r t i=>
  cases t with
  |nil=>exact .nil
  |cons q x=>exact .cons r i
theorem a8.rep(h:a8 xs j):∀k:Nat,a8 (List.replicate k xs).flatten (List.replicate k j).flatten
 |0=>.nil
 |k+1=>by rw[b4,b4,e6,e6];exact a8.append h (a8.rep h k)
theorem xg(l:List α):l.eraseIdx (l.length-1)=l.dropLast:=by
 induction l with
 |nil=>rfl
 |cons a r i=>
  cases r with
  |nil=>rfl
  |cons b r=>
   have e:(a::b::r).length-1=((b::r).length-1)+1:=by have h1:(a::b::r).length=r.length+2:=rfl;have h2:(b::r).length=r.length+1:=rfl;lia
   rw[e,List.eraseIdx_cons_succ,i];all_goals rfl
theorem foldl_rep(i:LV):∀(k:Nat)(a:LV),
  oh (λx s=>x++s) a.toArray (List.replicate k i.toArray)=(a++(List.replicate k i).flatten).toArray
 |0,a=>by simp
 |k+1,a=>by
  have e:a.toArray++i.toArray=(a++i).toArray:=by simp
  have h:(a++i)++(List.replicate k i).flatten=a++(List.replicate (k+1) i).flatten:=by rw[b4,e6,eZ]
  rw[<- h,<- foldl_rep i k (a++i),<- e,b4,hE]
section
variable{X:Cx}{pins:PN}{J:St}{H:Hp}{s:Shared}{l b:Addr}{xs ys zs:List V}
theorem Inv.lset{t:LV}{c:Nat}(I:Inv X pins J H s)(h:H l=some (.lst xs))
  (e:s.heap.get? l=some { cls:=.type "list",data:=.seq t.toArray n }) (a:f t.toArray=i.toArray) (v:a8 ys i) (z:ys.length≤sizeLine) :
  Inv X pins J (cJ H l (.lst ys)) { s with heap:=s.heap.update l (Obj.mapSeq f),toks:=c }:=by
 have q:=PySem.IsL.update e f;rw[a]at q;refine I.write (x:=l) (e:=l) (by rw[h];exact trivial) (.inl rfl) (λm u b k=>(Heap.get?_update_other s.heap (Obj.mapSeq f) (bB b)).trans k) ⟨_,q⟩ ?_;exact⟨z,i,_,v,q⟩
theorem Inv.lnew{t:Nat}(I:Inv X pins J H s)(h:a8 ys i)(z:ys.length≤sizeLine) :
  Inv X pins J (cJ H s.heap.objs.size (.lst ys)) { s with heap:=s.heap.push { cls:=.type "list",data:=.seq i.toArray },toks:=t }:=
 I.laid (λ_ _ q=>aJ _ q) (aq _) ⟨z,i,0,h,aS _ rfl⟩
theorem Inv.fresh(I:Inv X pins J H s):H s.heap.objs.size=none:=I.h.fresh (aq _)
theorem Inv.lstM(I:Inv X pins J H s)(h:H l=some (.lst xs)):xs.length≤sizeLine/\∃(i:LV)(n:Nat),a8 xs i/\xs.length=i.length/\s.heap.get? l=some { cls:=.type "list",data:=.seq i.toArray n }:=by obtain⟨z,i,n,r,e⟩:=I.h l _ h;exact⟨z,i,n,r,r.length,e⟩
theorem Cp(h:n≤sizeLine):rJ n=false:=by unfold rJ;exact a7 (by lia)
end
section
variable{X:Cx}
def E_:V->List V->Hp->VK->Prop:=λx v H Q=>∃l xs y,x=.ref l/\v=[y]/\H l=some (.lst xs)/\xs.length < sizeLine/\Q .non (cJ H l (.lst (xs++[y])))
theorem qK:QS X "list.append" E_:=by intro pins s J H x t v j Q I b f h;obtain⟨l,xs,y,rfl,rfl,a,m,q⟩:=h;cases b;obtain⟨u,rfl,k⟩:=f.one;obtain⟨z,i,n,r,c,e⟩:=I.lstM a;refine jD F.slot_list_append ⟨_,e,rfl⟩ F.entry_list_append (F.args_list_append_2 _ _) (PySem.list_append l i.toArray n u (by rw[bu];lia)) ⟨e,?_⟩;refine⟨.non,_,I.lset (i:=i++[u]) a e (by simp) (r.append (.cons k .nil)) ?_,rfl,q⟩;rw[aL,yv];lia
def PB:V->List V->Hp->VK->Prop:=λx v H Q=>∃l xs y,x=.ref l/\v=[]/\H l=some (.lst xs)/\xs[xs.length-1]? = some y/\Q y (cJ H l (.lst xs.dropLast))
theorem Ja:QS X "list.pop" PB:=by
 intro pins s J H x w v j Q I d p h;obtain⟨l,xs,y,rfl,rfl,f,m,q⟩:=h;cases d;have a:=p.zero;subst a;obtain⟨z,i,n,r,b,e⟩:=I.lstM f;obtain⟨u,c,t⟩:=r.get m;have k:i.toArray[i.toArray.size-1]? = some u:=by show i.toArray[i.length-1]? = some u;rw[<- yE,<- b];exact c
 refine jD F.slot_list_pop ⟨_,e,rfl⟩ F.entry_list_pop (F.args_list_pop_1 _) (MeetsSeq.list_pop_last l i.toArray n u k (by rw[bu];lia)) ⟨e,?_⟩;refine⟨y,_,I.lset (i:=i.dropLast) f e ?_ r.dropLast ?_,t,q⟩
 .show i.toArray.eraseIdxIfInBounds (i.toArray.size-1)=i.dropLast.toArray;rw[bu,List.eraseIdxIfInBounds_toArray,xg]
 .rw [List.length_dropLast];lia
def PH:R2:=λx y H Q=>∃l b xs zs,x=.ref l/\y=.ref b/\H l=some (.lst xs)/\H b=some (.lst zs)/\xs.length+zs.length≤sizeLine/\∀p,H p=none->Q (.ref p) (cJ H p (.lst (xs++zs)))
theorem IR:iC X (binaryOp .Add) PH:=by
 intro pins s J H x y v u Q I p d h;obtain⟨l,b,xs,zs,rfl,rfl,f,B,g,q⟩:=h;cases p;cases d;obtain⟨z,t,n,r,w,e⟩:=I.lstM f;obtain⟨o,i,j,m,c,a⟩:=I.lstM B;refine PySem.P.add_list e a ?_ (by rw[bu,bu];lia);have k:t.toArray++i.toArray=(t++i).toArray:=by simp
 rw[k];exact⟨.ref _,_,I.lnew (t:=s.toks) (r.append m) (by rw[aL];lia),rfl,q _ I.fresh⟩
def Pz:R2:=λx y H Q=>∃l k xs,x=.ref l/\y=.int k/\H l=some (.lst xs)/\-(2 ^ 63)≤k/\k < 2 ^ 63/\xs.length * k.toNat≤sizeLine /\
 ∀p,H p=none->Q (.ref p) (cJ H p (.lst (List.replicate k.toNat xs).flatten))
theorem FQ(xs:List α)(k:Nat):(List.replicate k xs).flatten.length=k * xs.length:=by
 induction k with
 |zero=>simp
 |succ k i=>rw[b4,e6,aL,i,r9,Nat.add_comm]
theorem IN:iC X (binaryOp .Mult) Pz:=by
 intro pins s J H x y v u Q I P A h;obtain⟨l,k,xs,rfl,rfl,S,h1,h2,g,q⟩:=h;cases P;obtain⟨t,rfl⟩:=A;obtain⟨z,i,n,r,K,e⟩:=I.lstM S;have b:i.toArray.size * k.toNat≤sizeLine:=by rw[bu,<- K];exact g
 have c:¬i.toArray.size * k.toNat > (2 ^ 63-1) / 8:=by
  have:(sizeLine:Nat)≤(2 ^ 63-1) / 8:=by decide
  lia
 have f:¬(!Builtin.List.listFitsIndex k)=true:=by rw[fitsIndex_both h1 h2];exact aX
 have o:¬rJ (i.toArray.size * k.toNat)=true:=by rw[Cp b];exact aX
 have w:oh (λp d=>p++d) #[] (List.replicate (if i.toArray.isEmpty=true then 0 else k.toNat) i.toArray)=(List.replicate k.toNat i).flatten.toArray:=by
  have j:∀m:Nat,oh (λp d=>p++d) #[] (List.replicate m i.toArray)=(List.replicate m i).flatten.toArray:=λm=>by have:=foldl_rep i m [];rw[cI]at this;exact this
  rw[j];cases i with
  |nil=>simp
  |cons a B=>rw[ae (by simp)]
 refine A6 (T:="list") (U:="int") (by decide) ⟨_,e,rfl⟩ (λs'=>oS s' k t) noFill_list_mul F.fills_int_mul F.slot_int_rmul repeat_list F.slot_int_index.lookup
  (jD F.slot_int_rmul (oS s k t) F.entry_int_rmul (F.args_int_rmul_2 _ _) (int___rmul___int_list k t l i.toArray n)
   ⟨e,rfl,⟨_,e,rfl⟩,jD F.slot_list_mul ⟨_,e,rfl⟩ F.entry_list_mul (F.args_list_mul_2 _ _) (AutoListH.list___mul___list_int_3 l i.toArray n k t f c o) ⟨e,?_⟩⟩)
 rw[w];exact⟨.ref _,_,I.lnew (t:=s.toks) (r.rep k.toNat) (by rw[FQ,iM];exact g),rfl,q _ I.fresh⟩
end
section
variable{κ:Type}[DecidableEq κ]
noncomputable def iV(v:List (κ×V))(k:κ):Option V:=(v.find? λh=>decide (h.1=k)).map (·.2)
noncomputable def putK(s:List (κ×V))(k:κ)(v:V):List (κ×V):=
 if (s.any λh=>decide (h.1=k))=true then s.map (λh=>if h.1=k then (h.1,v) else h) else s++[(k,v)]
theorem iD{p:κ×V}{r:List (κ×V)}{k:κ}(e:p.1=k):iV (p::r) k=some p.2:=by simp[iV,iO,e]
theorem gf{p:κ×V}{r:List (κ×V)}{k:κ}(e:¬p.1=k):iV (p::r) k=iV r k:=by simp[iV,iO,e]
theorem uD(k:κ):∀v:List (κ×V),(v.any λh=>decide (h.1=k))=(iV v k).isSome
 | []=>rfl
 |p::r=>by
  rw[fQ];by_cases e:p.1=k
  .simp only[iD e,eY e,Bool.true_or,Option.isSome_some]
  .rw [gf e,a7 e,Bool.false_or];exact uD k r
theorem uW(s:List (κ×V))(k:κ)(v:V):(putK s k v).length≤s.length+1:=by
 unfold putK;split
 .rw [d3];lia
 .rw [aL,ak,a'];lia
theorem B1{s:List (κ×V)}{k:κ}(v:V)(h:iV s k=none):putK s k v=s++[(k,v)]:=by unfold putK;rw[uD,h];exact ae (by decide)
theorem jB.isSome_eq(r:jB o u):o.isSome=u.isSome:=by
 cases o with
 |none=>cases u with
  |none=>rfl
  |some _=>exact(show False from r).elim
 |some _=>cases u with
  |none=>exact(show False from r).elim
  |some _=>rfl
theorem jB.getD(r:jB o u)(h:RelV d q):RelV (o.getD d) (u.getD q):=by
 cases o with
 |none=>cases u with
  |none=>exact h
  |some _=>exact(show False from r).elim
 |some _=>cases u with
  |none=>exact(show False from r).elim
  |some _=>exact r
theorem KV.val{v:List (κ×V)}{a:List (κ×Value)}(r:KV v a)(k:κ):jB (iV v k) (valueAt a k):=by
 unfold KV at r;induction r with
 |nil=>exact True.intro
 | @cons p q ps s h t i=>
  obtain⟨h1,h2⟩:=h;by_cases e:p.1=k
  .have x:q.1=k:=h1.symm.trans e;have b:valueAt (q::s) k=some q.2:=by simp[valueAt,iO,x]
   rw[iD e,b];exact h2
  .have x:¬q.1=k:=λz=>e (h1.trans z);have b:valueAt (q::s) k=valueAt s k:=by simp[valueAt,iO,x]
   rw[gf e,b];exact i
theorem KV.any(r:KV q z)(k:κ):(q.any λv=>decide (v.1=k))=z.any λv=>decide (v.1=k):=by
 unfold KV at r;induction r with
 |nil=>rfl
 |cons h t i=>rw[fQ,fQ,i,h.1]
theorem KV.repl(r:KV i I)(k:κ)(a:RelV y u) :
  KV (i.map λv=>if v.1=k then (v.1,y) else v) (I.map λv=>if v.1=k then (v.1,u) else v):=by
 unfold KV at r ⊢;induction r with
 |nil=>exact .nil
 | @cons p q ps s h t x=>
  rw[a6,a6];refine .cons ?_ x;obtain⟨h1,h2⟩:=h;by_cases e:p.1=k
  .rw [ac e,ac (h1.symm.trans e)];exact⟨h1,a⟩
  .rw [ae e,ae (λz=>e (h1.trans z))];exact⟨h1,h2⟩
theorem KV.put(r:KV q i)(k:κ)(h:RelV y u):KV (putK q k y) (stored i k u):=by
 unfold putK stored;rw[r.any k];by_cases e:(i.any λv=>decide (v.1=k))=true
 .rw [ac e,ac e];exact r.repl k h
 .rw [ae e,ae e];exact Paired.snoc r ⟨rfl,h⟩
end
variable{w:World}
theorem uZ(r:RelV (kV k) u):(bv P w).is k u=true:=by
 cases k with
 |inl i=>obtain⟨t,e⟩:=(show ∃t,u=Value.int i t from r);subst e;exact uT P w i t
 |inr x=>obtain⟨t,e⟩:=(show ∃t,u=Value.str x t from r);subst e;exact hR P w x t
theorem qN:∀{ks:List d8}{j:LV},a8 (ks.map kV) j->ItemsAre (bv P w) ks j
 | [],_,r=>by rw[gZ]at r;cases r;exact .nil
 |k::ks,_,r=>by
  rw[a6]at r;cases r with
  |cons h t=>exact .cons (uZ h) (qN t)
abbrev KT(H:Hp):List (List d8×V)->List (List d8×Addr×Value)->Prop:=Paired λp q=>p.1=q.1/\H q.2.1=some (.tup (p.1.map kV))/\RelV p.2 q.2.2
theorem KT.val{H:Hp}{v:List (List d8×V)}{xs:List (List d8×Addr×Value)}(r:KT H v xs)(k:List d8):jB (iV v k) ((atKey xs k).map (·.2)):=by
 induction r with
 |nil=>exact True.intro
 | @cons p q ps s h t i=>
  obtain⟨h1,_,h2⟩:=h;by_cases e:p.1=k
  .have x:q.1=k:=h1.symm.trans e;have b:atKey (q::s) k=some q.2:=by simp[atKey,iO,x]
   rw[iD e,b];exact h2
  .have x:¬q.1=k:=λz=>e (h1.trans z);have b:atKey (q::s) k=atKey s k:=by simp[atKey,iO,x]
   rw[gf e,b];exact i
section
variable{P:Program}{w:World}{H:Hp}{h:Heap}{a:Addr}
theorem rd_of{u:HO}(ok:kN P w H h)(e:Rd H a u):ey P w H h a u:=e.ok ok
theorem vr{kvs:List (d8×V)}(ok:kN P w H h)(e:Rd H a (.dK kvs)):kvs.length≤sizeLine/\(a == sysModules)=false/\∃vs,KV kvs vs/\h.DictOf (bv P w) a vs:=
 show ey P w H h a (.dK kvs) from rd_of ok e
theorem Nf{k:List (d8×V)}(ok:kN P w H h)(e:H a=some (.dK k)):k.length≤sizeLine/\(a == sysModules)=false/\∃v,KV k v/\h.DictOf (bv P w) a v:=vr ok (.inl e)
theorem tP(ok:kN P w H h)(e:H a=some (.tup (ks.map kV))):(tupleKind (bv P w)).is h ks a:=by obtain⟨_,i,r,o,h1,⟨h2,n,x⟩,_⟩:=(show ey P w H h a (.tup (ks.map kV)) from ok a _ e);exact⟨o,i.toArray,n,h1,h2,x,by simpa using qN r⟩
theorem zM(ok:kN P w H h)(e:Rd H a (.dT i)):i.length≤sizeLine/\(a == sysModules)=false /\
  ∃xs,KT H i xs/\h.DictOfH (tupleKind (bv P w)) a xs:=by
 obtain⟨z,y,xs,r,o,es,k,h1,h2,f,b,c⟩:=(show ey P w H h a (.dT i) from rd_of ok e);refine⟨z,y,xs,r,o,es,k,h1,h2,f,b,λx s=>?_,c⟩;have all:∀{l:List (List d8×V)}{m:List (List d8×Addr×Value)},KT H l m->∀x ∈ m,(tupleKind (bv P w)).is h x.1 x.2.1:=by
  intro l m q;induction q with
  |nil=>intro x s;exact nomatch s
  | @cons p q ps d n t v=>
   intro x s;rcases aU.mp s with e|s
   .subst e;exact tP ok (by rw[<- n.1];exact n.2.1)
   .exact v x s
 exact all r x s
end
def nS(H:Hp)(a:Addr)(y:V)(r:Option V):Prop:=
 (∃v k,Rd H a (.dK v)/\y=kV k/\r=iV v k)\/∃v k b,Rd H a (.dT v)/\y=.ref b/\H b=some (.tup (k.map kV))/\r=iV v k
theorem nS.k{H:Hp}{a:Addr}{v:List (d8×V)}{k:d8}(e:H a=some (.dK v)):nS H a (kV k) (iV v k):=.inl ⟨v,k,.inl e,rfl,rfl⟩
section
variable{X:Cx}{pins:PN}{J:St}{H:Hp}{s:Shared}{a:Addr}{y v:V}{u r:Value}{o:Option V}{A:Around}{E:VP}
theorem Inv.big(I:Inv X pins J H s):sysModules < s.heap.objs.size:=by have h:mainGlobals < s.heap.objs.size:=(I.mod.glob.keeps I.bk).lt;exact Nat.lt_trans (by decide) h
theorem AB(S:A.units+1 < cLine)(I:Inv X pins J H s)(g:nS H a y (some v))(t:RelV y u)(h:∀x s',Inv X pins J H s'->RelV v x->Q x s') :
  wpAny (model X.p X.w) A (getItem (.ref a) u) Q E s:=by
 rcases g with ⟨m,k,e,n,l⟩|⟨m,k,b,e,n,q,l⟩
 .subst n;obtain⟨z,i,F,r,d⟩:=vr I.h e;obtain⟨x,c,w⟩:=jB.some_of (v:=v) (o:=valueAt F k) (by rw[l];exact r.val k);exact yJ (uZ t) d.mapOf c (h x _ (I.tok _) w)
 .subst n;cases (show u=Value.ref b from t);obtain⟨z,i,xs,r,d⟩:=zM I.h e;obtain⟨x,c,w⟩:=jB.some_of (v:=v) (o:=(atKey xs k).map (·.2)) (by rw[l];exact r.val k);obtain⟨p,j,f⟩:=fK.mp c;refine wpAny_getItem_heap (wg S) (tP I.h q) d j ?_;rw[f];exact h x _ (I.tok _) w
theorem Qi(m:A.units+1 < cLine)(I:Inv X pins J H s)(g:nS H a y o)(f:RelV y u)(h:∀s',Inv X pins J H s'->Q (.bool o.isSome) s') :
  wpAny (model X.p X.w) A (compareOp .In u (.ref a)) Q E s:=by
 rcases g with ⟨v,k,e,x,l⟩|⟨v,k,b,e,x,c,l⟩
 .subst x;obtain⟨z,n,t,r,d⟩:=vr I.h e;refine wpAny_in_of (uZ f) n d.mapOf ?_;rw[<- (r.val k).isSome_eq,<- l];exact h _ (I.tok _)
 .subst x;cases (show u=Value.ref b from f);obtain⟨z,n,xs,r,d⟩:=zM I.h e;refine wpAny_in_heap (wg m) (tP I.h c) n d ?_;have q:=(r.val k).isSome_eq;rw[Option.isSome_map]at q;rw[<- q,<- l];exact h _ (I.tok _)
theorem Gc{t:Nat}(I:Inv X pins J H s)(m:NL (H a))(f:dC a s.heap h')(k:∃q,h'.get? a=some q)(n:ey X.p X.w (cJ H a i) h' a i) :
  Inv X pins J (cJ H a i) { s with heap:=h',toks:=t }:=
 I.write (x:=a) (e:=a) m (.inl rfl) (λb q h z=>(f.2 b h).trans z) k n
theorem JK{P:Program}{w:World}{H':Hp}{h':Heap}{k:List (d8×V)}{v:List (d8×Value)}(z:k.length≤sizeLine)(h:(a == sysModules)=false)(r:KV k v)(d:h'.DictOf (bv P w) a v) :
  ey P w H' h' a (.dK k):=⟨z,h,v,r,d⟩
end
variable{H:Hp}
theorem Dm(h:Heap)(b:sysModules < h.objs.size):ey P w H (h.push { cls:=.type "dict",data:=.dict #[] }) h.objs.size (.dK []):=
 ⟨bJ _,km.mpr (bB (bg b)),[],.nil,Heap.DictOf.new h⟩
def sW:List (TE×TE)->St->Hp->(List (V×V)->Hp->Prop)->Prop
 | [],_,H,Q=>Q [] H
 |(tk,tv)::r,J,H,Q=>tk J H λx G=>tv J G λy H2=>sW r J H2 λps h=>Q ((x,y)::ps) h
abbrev VV:List (V×V)->List (Value×Value)->Prop:=Paired λp q=>RelV p.1 q.1/\RelV p.2 q.2
def NI(X:Cx)(B:Pos)(k:List (Option Expr))(v:Ab)(t:List (TE×TE)):Prop:=
 ∀(pins:PN)(s:Shared)(J:St)(H:Hp)(Q:List (V×V)->Hp->Prop),Inv X pins J H s->sW t J H Q ->
  wpAny (model X.p X.w) X.A (evalPairs (pairTrees k v X.e B)) (λh s'=>∃ps H',Inv X pins J H' s'/\VV ps h/\Q ps H') X.xe s
variable{X:Cx}{B:Pos}
theorem Fh:NI X B [] [] []:=λpins s J H Q I h=>pairTrees_nil_walk ⟨[],H,I,.nil,h⟩
theorem B6(hk:PE X k tk)(c:PE X v tv)(b:NI X B ks z q) :
  NI X B (some k::ks) (v::z) ((tk,tv)::q):=λpins s J H Q I h=>
 pairTrees_cons_walk (bF (hk pins s J H _ I h) fun u g ⟨x,G,e,d,m⟩=>bF (c pins g J G _ e m) fun l i ⟨y,H2,n,w,t⟩=>
  bF (b pins i J H2 _ n t) λo j ⟨ps,a,f,r,p⟩=>⟨(x,y)::ps,a,f,.cons ⟨d,w⟩ r,p⟩)
def jR(k m:List (d8×V)):List (d8×V):=m.foldl (λa v=>putK a v.1 v.2) k
theorem KV.merge:∀{m:List (d8×V)}{s:List (d8×Value)}{k:List (d8×V)}{v:List (d8×Value)},KV m s->KV k v->KV (jR k m) (merged v s):=by
 intro m s k v r;unfold KV at r;induction r generalizing k v with
 |nil=>intro q;exact q
 | @cons p q ps a h t i=>
  intro x;have e:KV (putK k p.1 p.2) (stored v q.1 q.2):=by have:=x.put p.1 h.2;rw[<- h.1];exact this
  exact i e
theorem kS:∀(m k:List (d8×V)),(jR k m).length≤k.length+m.length
 | [],k=>by show k.length≤k.length+0;lia
 |p::r,k=>by have h1:=kS r (putK k p.1 p.2);have h2:=uW k p.1 p.2;show(jR (putK k p.1 p.2) r).length≤_;rw[ak];lia
theorem pY{P:Program}{w:World}:∀{k:List (d8×V)}{x:List (Value×Value)},VV (k.map λv=>(kV v.1,v.2)) x->∃s,Carries (bv P w) x s/\KV k s
 | [],_,r=>by rw[gZ]at r;cases r;exact⟨[],True.intro,.nil⟩
 |p::k,_,r=>by
  rw[a6]at r;cases r with
  | @cons a b n m h t=>obtain⟨s,c,q⟩:=pY (P:=P) (w:=w) t;obtain⟨f,e⟩:=b;exact⟨(p.1,e)::s,⟨uZ h.1,rfl,c⟩,.cons ⟨rfl,h.2⟩ q⟩
def LC(t:List (TE×TE)):TE:=λJ H Q=>∀p,H p=none->sW t J (cJ H p (.dK [])) λps H2=>H2 p=some (.dK [])/\∃k:List (d8×V),ps=k.map (λv=>(kV v.1,v.2))/\k.length≤15/\Q (.ref p) (cJ H2 p (.dK (jR [] k)))
theorem Fw(h:NI X B i N trs)(l:i.all (·.isSome)=true)(g:i.length=N.length)(t:i≠[])
  (x:i.length≤15):PE X (.Dict i N B) (LC trs):=by
 intro pins s J H Q I q;have j:=I.h.fresh (aq s.heap.objs.size);have b:=I.laid (a:=s.heap.objs.size) (o:=.dK []) (h':=s.heap.push { cls:=.type "dict",data:=.dict #[] }) (t':=s.toks) (λ_ _ q=>aJ _ q) (aq _) (Dm s.heap I.big);refine wpAny_Dict_walk (knd:=bv X.p X.w) l g t x (bF (h pins _ J _ _ b (q _ j)) λG E n=>?_);obtain⟨ps,H2,f,r,e,k,p,lk,F⟩:=n;subst p;obtain⟨C,c,A⟩:=pY (P:=X.p) (w:=X.w) r;obtain⟨z,v,D,K,m⟩:=Nf f.h e;cases K;refine⟨C,c,m,λh' d S=>⟨.ref s.heap.objs.size,_,?_,rfl,F⟩⟩;have n:(jR [] k).length≤sizeLine:=by have h1:=kS k [];rw[a']at h1;rw[oU];lia
 have u:∃q,h'.get? s.heap.objs.size=some q:=let ⟨q,_,_,y,_⟩:=d;⟨q,y⟩
 exact Gc f (by rw[e];exact True.intro) S u (JK n v (A.merge .nil) d)
structure M1(X:Cx)(o:Expr)(m:Str)(apos:Pos)(e:Expr)(cpos:Pos):Prop where
 base:attributeBase o m X.e (eval o X.e)=eval o X.e
 few:((backTo cpos (starEach [e] X.e)).all (fun x=>!x.1) && (backToKw cpos (keywordEach [] X.e)).all (fun x=>x.1.isSome)
  && decide (([e]:Ab).length+([]:List Keyword).length+(if ([]:List Keyword).isEmpty then 0 else 1) < 30))=true
 line:(apos.endLine == cpos.line)=true
 trees:backTo cpos (starEach [e] X.e)=[(false,eval e X.e)]
structure M2(X:Cx)(o:Expr)(m:Str)(apos:Pos)(e f:Expr)(cpos:Pos):Prop where
 base:attributeBase o m X.e (eval o X.e)=eval o X.e
 few:((backTo cpos (starEach [e,f] X.e)).all (fun x=>!x.1) && (backToKw cpos (keywordEach [] X.e)).all (fun x=>x.1.isSome)
  && decide (([e,f]:Ab).length+([]:List Keyword).length+(if ([]:List Keyword).isEmpty then 0 else 1) < 30))=true
 line:(apos.endLine == cpos.line)=true
 trees:backTo cpos (starEach [e,f] X.e)=[(false,eval e X.e),(false,eval f X.e)]
def QX(H:Hp)(a:Addr):Prop:=(∃k,Rd H a (.dK k))\/∃k,Rd H a (.dT k)
theorem Jv(I:Inv X pins J H s)(d:QX H a) :
  s.TypeIs (.ref a) "dict"/\(∀b,Value.ref a=.ref b->∃o,s.heap.get? b=some o/\o.dict=none)/\(a == sysModules)=false:=by
 rcases d with ⟨k,e⟩|⟨k,e⟩
 .obtain⟨_,x,v,_,h⟩:=vr I.h e;refine⟨h.typeIs,λb q=>?_,x⟩;cases q;obtain⟨o,_,_,h1,h2,_⟩:=h;exact⟨o,h1,h2.2.1⟩
 .obtain⟨_,x,xs,_,h⟩:=zM I.h e;refine⟨h.typeIs,λb q=>?_,x⟩;cases q;obtain⟨o,_,_,h1,h2,_⟩:=h;exact⟨o,h1,h2.2.1⟩
section
variable{X:Cx}{pins:PN}{J:St}{H:Hp}{s:Shared}{a:Addr}{y d:V}{u r:Value}{o:Option V}{A:Around}{E:VP}
theorem JO(q:A.units+1 < cLine)(I:Inv X pins J H s)(g:nS H a y o)(t:RelV y u)(m:RelV d r)(h:∀w s',Inv X pins J H s'->RelV (o.getD d) w->Q w s') :
  wpAny (model X.p X.w) A (call (.builtin "dict.get") [.ref a,u,r]) Q E s:=by
 rcases g with ⟨v,k,e,f,l⟩|⟨v,k,b,e,f,p,l⟩
 .subst f;obtain⟨z,c,i,x,n⟩:=vr I.h e;refine vZ lE n.typeIs rN (rR _ _ _) (A3 (bv X.p X.w) a (uZ t) c r) ⟨_,n.mapOf,h _ _ (I.tok _) ?_⟩;rw[l];exact(x.val k).getD m
 .subst f;cases (show u=Value.ref b from t);obtain⟨z,c,xs,x,n⟩:=zM I.h e;refine vZ lE n.typeIs rN (rR _ _ _) (meetsH_dict_get_default (tupleKind (bv X.p X.w)) a b c r) ⟨wg q,k,xs,tP I.h p,n,h _ _ (I.tok _) ?_⟩;rw[l];exact(x.val k).getD m
end
noncomputable def Ia(td ty tx:TE):TE:=λJ H Q=>td J H λx G=>∃a,x=.ref a/\QX G a/\ty J G λy H2=>tx J H2 λz h=>∃o,nS h a y o/\Q (o.getD z) h
section
variable{X:Cx}{o e f:Expr}{apos cpos:Pos}{td ty tx:TE}
theorem Cb(w:X.A.units+1 < cLine)(v:PE X o td)(p:PE X e ty)(q:PE X f tx)(m:M2 X o "get" apos e f cpos):PE X (.Call (.Attribute o "get" apos) [e,f] [] cpos) (Ia td ty tx):=by
 intro pins s J H Q I h;refine yR m.base m.few m.line xF lE xD (bF (v pins s J H _ I h) fun u A i=>?_);obtain⟨x,G,n,F,a,ex,d,j⟩:=i;subst ex;obtain rfl:u=Value.ref a:=F;obtain⟨C,D,_⟩:=Jv n d;refine⟨C,D,?_⟩;rw [m.trees];refine lJ rfl (n_ (eC (bF (p pins A J G _ n j) fun L B ⟨y,H2,b,K,l⟩=>
  eC (bF (q pins B J H2 _ b l) λE N ⟨z,k,c,P,M,g,S⟩=>ki ?_))))
 exact JO w c g K P λT R t r=>⟨_,k,t,r,S⟩
end
end L2
set_option tactic.hygienic true
namespace Att
open PySem PySem.W PySem.Calls PyProof.Rows
theorem nB:∀(s:List Int)(v:LV),WellAll P h v (s.map WData.int)->IntsAre v s:=by
 intro s;induction s with
 |nil=>intro v w;rw[gZ]at w;cases w;exact .nil
 |cons n s i=>
  intro v w;rw[a6]at w;cases w with
  |cons a b=>cases a;exact .cons _ _ (i _ b)
theorem z_{l:OpenLaw}(t:l.most=some n)
  (p:l.row.toRowW.claim.pre i=true) (w:WellAll P h z i) :
  ∃a v s,z=[Value.ref a]/\i=[WData.list (s.map WData.int)]/\h.get? a=some { cls:=.type "list",data:=.seq v.toArray }/\IntsAre v s/\s.length≤n:=by
 have b:WShape.hasAll [] i [.list .int]=true:=(pre_splitW p).1;have c:l.pre.holds [] { args:=i }=true:=(pre_splitW p).2;obtain⟨d,r,rfl,h1,h2⟩:=hasAllW_cons b;obtain rfl:=hasAllW_nil h2;obtain⟨xs,rfl,m⟩:=hasW_list h1;obtain⟨s,rfl⟩:=items_int m;have e:s.length≤n:=by
  unfold OpenLaw.pre at c;have k:(WTm.not (.lt (.lit (.int (n:Int))) (.len (.arg 0)))).holds [] { args:=[.list (s.map .int)] }=true:=by have k:=(holds_andW c).1;rw[t]at k;exact k
  have f:=condW_of k (w_not (w_lt w_lit (w_len_list (w_arg rfl))));rw[d3]at f;refine Nat.le_of_not_lt λq=>?_;have u:(n:Int) < ((s.length:Nat):Int):=by lia
  first
   |(rw[eY u]at f;exact absurd f (by decide))
   |(simp at f;lia)
 cases w with
 |cons g j=>
  cases j;cases g with
  |list o x=>exact⟨_,_,s,rfl,rfl,o,nB s _ x,e⟩
theorem Af(l:OpenLaw)(a:List WData):l.row.toRowW.claim.post a (.bool true) a=true:=
 postW_of (r:=l.row.toRowW) (X:=(true == true))
  (show WShape.has [] (.bool true) .bool=true by first|rfl|decide|simp[WShape.has,WShape.arms,WShape.armsAll])
  (show(WTm.eq .res (.lit (.bool true))).value [] { args:=a,res:=some (.bool true),after:=a }=some (.bool (true == true)) from w_eq_bool (w_res rfl) w_lit) rfl
theorem attach_call{l:OpenLaw}
  (Q:l.most=some n) (u:d.params.defaults=[])
  (call:∀(w:World) (h s:Shared) (mg y:SV) (x:Addr) (o:Obj) (H k c:Value) (a:Addr) (v:LV) (m:List Int),
   Ground q z [] I w h mg y s.heap->N w s.heap ->
   s.heap.get? x=some o->o.data=.func (docDef d.name d.params d.body d.scope H k c)->s.heap.CodeRec k d.name->mg d.name=some (.ref x) ->
   s.heap.get? a=some { cls:=.type "list",data:=.seq v.toArray }->IntsAre v m->m.length≤n->s.gens=#[] ->
   codeAny (model l.prog w) callerA (.call (.ref x) ⟨[.ref a],[]⟩) (λr s'=>r=.ok (.ret (.bool true))/\OldK s.heap s'.heap/\s'.os=s.os/\AllBare s'.gens) s) :
  WalkO q z I N l.row.toRowW d [] (λf v=>PySem.call f v):=by
 intro w h s mg y G P x o H k c V kV R C t D g E S K X p F W j L;obtain rfl:V=.none:=Dflts.none D u;obtain rfl:kV=.none:=Dflts.noKw D;obtain⟨a,v,m,rfl,rfl,b,i,e⟩:=z_ Q p j;refine enter_call (oV (call w h s mg y x o H k c a v m G P R (fd_plain C) t g b i e E) λr s' T=>?_);obtain⟨rfl,h2,A,B⟩:=T;exact⟨.inl ⟨.bool true,.bool true,[],rfl,λ_=>rfl,.bool true,Af l _,λ_=>⟨List.Pairwise.nil,λ_ M=>(nomatch M)⟩⟩,h2,A,B⟩
end Att
set_option tactic.hygienic false
namespace L2
open PySem PySem.Spec PyProof.Rows
theorem qx:∀{v:LV}{s:List Int},IntsAre v s->a8 (s.map V.int) v
 |_,_,.nil=>.nil
 |_,_,.cons n t h=>.cons ⟨t,rfl⟩ (qx h)
def DO(H:Hp):Prop:=∀b,H b=none\/H b=some .tbl\/∃o xs,H b=some (.frz o (.lst xs))
set_option tactic.hygienic true in
theorem CG{P:Program}{w:World}{K:FG}{mg mb:SV}{CX:vW}{k:Nat}{fa a:Addr}{fd:FuncData}{x:Str}{sp:Sp}{f:Shared}{C:LV}{Z:List Int}
  (KX:K.In f.heap) (hNT:wr K=true) (T:∀P ∈ cD K,f.heap.get? P=some (si #[])/\∃c,wq f.heap c P) (R:f.heap.Ns mainGlobals mg) (t:f.heap.Ns builtinsNs mb) (hbb:∀x:Str,x≠"__name__"->mb x=bootBuiltins x) (Q:f.heap.NoLimit) (hbm:∃G A,mg "__builtins__"=some (.ref G)/\G≠builtinsNs/\f.heap.get? G=some A/\A.cls=.type "module"/\A.dict=some builtinsNs/\A.data=.plain) (hg:f.gens=#[])
  (D:f.heap.get? a=some { cls:=.type "list",data:=.seq C.toArray }) (hi:IntsAre C Z) (hl:Z.length≤sizeLine) (hr:Room k callerA)
  (F:∀base:Heap,K.In base->base.Ns mainGlobals mg->FnOk P w K mg base CX k fa fd [x] sp) (B:∀(s:Shared)(u:Value),BindsTo s fd ⟨[u],[]⟩ [(x,u)])
  (hsp:∀H:Hp,DO H->jA K H a (Z.map V.int)->sp [.ref a] H (λv _=>v=.bl true) λ_ _ _=>False)
  (hCX:∀H e s',CX [] H f (λ_ _ _=>False) e s'->False) :
  codeAny (model P w) callerA (.call (.ref fa) ⟨[.ref a],[]⟩) (λr s'=>r=.ok (.ret (.bool true))/\OldK f.heap s'.heap/\s'.os=f.os/\AllBare s'.gens) f:=by
 have rv:=qx hi;have X:=hi.length;have y:∀H:Hp,DO H->jA K H a (Z.map V.int)->kN P w H f.heap->(∀b,H b≠none->b=a\/b ∈ cD K)->(∀b,H b=some .tbl->b ∈ cD K)->(∀b ∈ cD K,H b=some .tbl)->(H a≠none->K.lookup a=none) ->
   codeAny (model P w) callerA (.call (.ref fa) ⟨[.ref a],[]⟩) (λr s'=>r=.ok (.ret (.bool true))/\OldK f.heap s'.heap/\s'.os=f.os/\AllBare s'.gens) f:=by
  intro H hO hS W hA hB hC hK;have hKT:∀b ∈ cD K,K.lookup b=none:=λb t=>by
   cases q:K.lookup b with
   |none=>rfl
   |some o=>have e:=KX b o q;rw[(T b t).1]at e;cases e;have h2:=bj.mp hNT (b,_) (PySem.W.mem_of_lookupK q);exact absurd (show false=true from h2) aX
  have p:∀{b:Addr}{o:Obj},f.heap.get? b=some o->H b=none->(ua f.heap H).get? b=some o:=λe n=>C6 e n;have noA:∀{b:Addr}{o:Obj}{es:Array DictEntry}{L:Nat},f.heap.get? b=some o->o.data=.dict es L->H b=none:=λ{b o es L} e d=>by
   cases q:H b with
   |none=>rfl
   |some u=>
    rcases hA b (by rw[q];simp) with j|j
    .subst j;rw[D]at e;cases e;have d':Data.seq C.toArray _=Data.dict es L:=d;cases d'
    .rw [(T b j).1]at e;cases e;cases d
  have noM:∀{b:Addr}{o:Obj},f.heap.get? b=some o->o.cls=.type "module"->H b=none:=λ{b o} e d=>by
   cases q:H b with
   |none=>rfl
   |some u=>
    rcases hA b (by rw[q];simp) with j|j
    .subst j;rw[D]at e;cases e;exact absurd (show Value.type "list"=Value.type "module" from d) (by decide)
    .rw [(T b j).1]at e;cases e;cases d
  have l:∀{b:Addr}{m:SV},f.heap.Ns b m->(ua f.heap H).Ns b m:=fun {b m} ⟨o,es,L,e,d,r⟩=>⟨o,es,L,p e (noA e d),d,r⟩;have M:K.In (ua f.heap H):=fun b o e=>p (KX b o e) (by
   cases q:H b with
   |none=>rfl
   |some u=>
    rcases hA b (by rw[q];simp) with j|j
    .subst j;rw[hK (by rw[q];simp)]at e;cases e
    .rw [hKT b j]at e;cases e)
  have hM:Mod K mg (ua f.heap H):=⟨M,l R,⟨mb,l t,hbb⟩,let ⟨mc,h1,h2⟩:=Q;⟨mc,l h1,h2⟩,let ⟨G,A,c1,c2,c3,c4,c5⟩:=hbm;⟨G,A,c1,c2,p c3 (noM c3 c4),c4,c5⟩⟩;have e0:Env0 P w K mg (ua f.heap H) callerA [] f H:=⟨rfl,hM,λb o e=>FJ e,x' (Ay _ _),trivial,λb t=>absurd (show b ∈ ([]:List Addr) from t) (by simp),hC,W,.of_eq hg⟩;refine oV ((F _ M (l R)).run callerA [] f H ⟨[.ref a],[]⟩ [.ref a] [.ref a] _ _ hr e0 (B f (.ref a)) (.cons rfl .nil) (hsp H hO hS)) λr s' h=>?_;cases r with
  |error e=>exact(hCX H e s' h).elim
  |ok fl=>
   cases fl with
   |next=>exact False.elim h
   |brk=>exact False.elim h
   |cont=>exact False.elim h
   |ret u=>
    obtain⟨v,H',os,E,un,S,r',q⟩:=h;have q':v=.bl true:=q;subst q';obtain rfl:u=Value.bool true:=r';have aw:∀b o,f.heap.get? b=some o->asItWas f.heap s'.heap b o:=λb o e=>by
     rcases hO b with q|z|⟨A,xs,z⟩
     .exact .inl (un.keep b o e q (by intro z;exact absurd (show b ∈ ([]:List Addr) from z) (by simp)) (by simp))
     .obtain⟨I,c,e2⟩:=T b (hB b z);obtain⟨ps,e3,_⟩:=(show vP H' s'.heap b from S b _ (un.tbls b z));rw[I]at e;cases e;exact .inr (.inl ⟨(e2.tab I).isCodeTable,rfl,#[],(He ps).toArray,rfl,by rw[Array.empty_append];exact e3⟩)
     .have z2:=un.frzs b A _ z;obtain⟨I,_⟩:=W b _ z;obtain⟨e2,_⟩:=S b _ z2;rw[e]at I;cases I;exact .inl e2
    refine⟨rfl,⟨aw,λb o e=>?_⟩,os,E⟩;rcases aw b o e with x|⟨_,_,_,_,_,x⟩|⟨_,_,⟨_,_,_,x,_⟩,_⟩<;>exact⟨_,x⟩
 have N:a ∉ cD K:=λz=>by have e:=(T a z).1;rw[D]at e;cases e
 have tk:∀b,b ∈ cD K->∀H:Hp,vP H f.heap b:=λb t H=>⟨[],(T b t).1,λ_ z=>nomatch z⟩;cases hk:K.lookup a with
 |some o=>
  have e:=KX a o hk;rw[D]at e;cases e;refine y (λb=>if b ∈ cD K then some .tbl else none) (λb=>?_) (.inr ⟨_,C.toArray,_,hk,rfl,rfl,rfl,by rw[bu,X];exact hl,by simpa using rv⟩) (λb u z=>?_) (λb z=>?_) (λb z=>?_) (λb z=>ac z) λz=>absurd (ae N) z
  .by_cases t:b ∈ cD K
   .exact .inr (.inl (ac t))
   .exact .inl (ae t)
  .by_cases t:b ∈ cD K
   .have g:=(ac t).symm.trans z;cases g;exact tk b t _
   .have g:=(ae t).symm.trans z;cases g
  .by_cases t:b ∈ cD K
   .exact .inr t
   .exact absurd (ae t) z
  .by_cases t:b ∈ cD K
   .exact t
   .have g:=(ae t).symm.trans z;cases g
 |none=>
  refine y (λb=>if b=a then some (.frz { cls:=.type "list",data:=.seq C.toArray } (.lst (Z.map V.int))) else if b ∈ cD K then some .tbl else none) (λb=>?_) (.inl (.inr ⟨{ cls:=.type "list",data:=.seq C.toArray },ac rfl⟩)) (λb u z=>?_) (λb z=>?_) (λb z=>?_) (λb z=>?_) λ_=>hk
  .by_cases t:b=a
   .exact .inr (.inr ⟨_,_,ac t⟩)
   .by_cases i:b ∈ cD K
    .exact .inr (.inl ((ae t).trans (ac i)))
    .exact .inl ((ae t).trans (ae i))
  .by_cases t:b=a
   .have g:=(ac t).symm.trans z;cases g;subst t;exact⟨D,by rw[d3];exact hl,C,_,rv,D⟩
   .have z1:=(ae t).symm.trans z;by_cases i:b ∈ cD K
    .have g:=(ac i).symm.trans z1;cases g;exact tk b i _
    .have g:=(ae i).symm.trans z1;cases g
  .by_cases t:b=a
   .exact .inl t
   .by_cases i:b ∈ cD K
    .exact .inr i
    .exact absurd ((ae t).trans (ae i)) z
  .by_cases t:b=a
   .have g:=(ac t).symm.trans z;cases g
   .by_cases i:b ∈ cD K
    .exact i
    .have g:=(ae i).symm.trans ((ae t).symm.trans z);cases g
  .have t:b≠a:=λq=>N (q ▸ z);exact(ae t).trans (ac z)
noncomputable abbrev QT{K:FG}(_:K.In h):FG:=K
theorem EG{l:Ba}{n k:Nat}{q:Program}{m:LS}{I:(SV)->Heap->Prop}{g:World->Heap->Prop}{d:DefRec}{K:Params->FG}{CX:World->vW}{sp:World->Sp}{x:Str}
  (hn:l.most=some n) (S:n≤sizeLine) (y:d.params.defaults=[]) (hr:Room k callerA)
  (W:∀(w:World)(h:Heap),g w h->(K w.params).In h) (N:∀w:World,wr (K w.params)=true) (T:∀(w:World)(h:Heap),g w h->∀P ∈ cD (K w.params),h.get? P=some (si #[])/\∃c,wq h c P)
  (F:∀(w:World) (mg:SV) (t:Addr) (h:Heap),(K w.params).In h->h.Ns mainGlobals mg->mg d.name=some (.ref t) ->
   ∃fd:FuncData,(∀(s:Shared)(u:Value),BindsTo s fd ⟨[u],[]⟩ [(x,u)]) /\
    ∀base:Heap,(K w.params).In base->base.Ns mainGlobals mg->FnOk l.prog w (K w.params) mg base (CX w) k t fd [x] (sp w))
  (A:∀(w:World)(H:Hp)(a:Addr)(p:List Int),p.length≤n->DO H->jA (K w.params) H a (p.map V.int)->sp w [.ref a] H (λv _=>v=.bl true) λ_ _ _=>False)
  (C:∀(w:World)(H:Hp)(s:Shared)(e:Value)(s':Shared),CX w [] H s (λ_ _ _=>False) e s'->False) :
  A' q m I g l.row.toRowW d [] (λf E=>PySem.call f E):=by
 refine Att.attach_call hn y λw D r mg mb t o pm cd L a E p G B ho hd hcd z j i b hg=>?_;have X:=W w _ B;obtain⟨fd,Z,M⟩:=F w mg t _ X G.T.g z;exact CG X (N w) (T w _ B) G.T.g G.T.b G.T.builtins G.T.nolimit G.T.bmain hg j i (a9 b S) hr M Z (λH Q R=>A w H a p b Q R) λH e s'=>C w H r e s'
theorem Br{l:Ba}{n k:Nat}{q:Program}{o:LS}{X:(SV)->Heap->Prop}{m:World->Heap->Prop}{d:DefRec}{K:Params->FG}{CX:vW}{sp:FG->Sp}{x:Str}
  (y:l.most=some n) (t:n≤sizeLine) (r:d.params.defaults=[]) (z:Room k callerA)
  (j:∀(w:World)(h:Heap),m w h->(K w.params).In h) (N:∀w:World,wr (K w.params)=true) (T:∀(w:World)(h:Heap),m w h->∀P ∈ cD (K w.params),h.get? P=some (si #[])/\∃c,wq h c P)
  (F:∀(w:World) (mg:SV) (g:Addr) (h:Heap),(K w.params).In h->h.Ns mainGlobals mg->mg d.name=some (.ref g) ->
   ∃fd:FuncData,(∀(s:Shared)(u:Value),BindsTo s fd ⟨[u],[]⟩ [(x,u)]) /\
    ∀base:Heap,(K w.params).In base->base.Ns mainGlobals mg->FnOk l.prog w (K w.params) mg base CX k g fd [x] (sp (K w.params)))
  (p:∀(K:FG)(H:Hp)(a:Addr)(b:List Int),b.length≤n->DO H->jA K H a (b.map V.int)->sp K [.ref a] H (λv _=>v=.bl true) λ_ _ _=>False)
  (C:∀(H:Hp)(s:Shared)(e:Value)(s':Shared),CX [] H s (λ_ _ _=>False) e s'->False) :
  A' q o X m l.row.toRowW d [] (λf S=>PySem.call f S):=
 EG (K:=K) (CX:=λ_=>CX) (sp:=λw=>sp (K w.params)) y t r z j N T F (λw H a b h1 h2 i=>p (K w.params) H a b h1 h2 i) λ_ H s e s'=>C H s e s'
noncomputable def ar(s:Stmt)(j:Nat):Stmt:=match s with
 | .ClassDef _ _ _ b _ _ _ _ _ _ _=>b.getD j (.Pass ⟨0,0,0,0⟩)
 |_=>.Pass ⟨0,0,0,0⟩
noncomputable def hU(s:Stmt):Arguments:=match s with
 | .FunctionDef _ a _ _ _ _ _ _ _ _=>a
 |_=>{ posonlyargs:=[],args:=[],vararg:=none,kwonlyargs:=[],kw_defaults:=[],kwarg:=none,defaults:=[] }
noncomputable def da(s:Stmt):List Stmt:=match s with
 | .FunctionDef _ _ b _ _ _ _ _ _ _=>b
 |_=>[]
noncomputable def aQ(s:Stmt):Scope:=match s with
 | .FunctionDef _ _ _ _ _ _ sc _ _ _=>sc
 |_=>{ kind:=.function,names:=[],isGenerator:=false,isCoroutine:=false }
noncomputable abbrev lC:vW:=λ_ _ _ _ _ _=>False
noncomputable abbrev E0:XK:=λ_ _ _=>False
theorem uP:jm lC X E0:=λ_ _ _ _ _ _ _ h=>h.elim
structure Fun(K:FG)(x qual:Str)(st:Stmt)(f:Addr)(fd:FuncData):Prop where
 ex:∃(oc:Value)(od:Option Addr)(dV kV doc pm:Value)(an:Option Addr)(cdv ct:Value)(osl:Array (OV)),
  fd=gc x qual (hU st) (da st) (aQ st) dV kV doc pm an cdv ct/\K.lookup f=some ⟨oc,od,.func fd,osl⟩/\gd K cdv qual=true
 kp:eT K (.ref f)=true
section
variable{P:Program}{w:World}{K:FG}{mg:SV}{base:Heap}
theorem Dc{x q:Str}{st:Stmt}{f:Addr}{h:Value}{e a:Option Addr}{s:Array (OV)}{V kV o p d t:Value}(l:K.lookup f=some ⟨h,e,.func (gc x q (hU st) (da st) (aQ st) V kV o p a d t),s⟩)
  (c:gd K d q=true) (k:eT K (.ref f)=true):Fun K x q st f (gc x q (hU st) (da st) (aQ st) V kV o p a d t):=⟨⟨h,e,V,kV,o,p,a,d,t,s,rfl,l,c⟩,k⟩
end
section
variable{X:Cx}
end
abbrev KN:List (PyData×V×V)->List (PyData×Addr×Value)->Prop:=Paired λp q=>p.1=q.1/\p.2.1=V.ref q.2.1/\RelV p.2.2 q.2.2
end L2

set_option tactic.hygienic true
namespace Ev
open PySem L2
noncomputable abbrev P1:Bool->Str
 |false=>"standing"
 |true=>"fact"
abbrev P7(k:Bool):Arguments:={ posonlyargs:=[],args:=[{ arg:=P1 k,annotation:=none,pos:=if k=true then ⟨577,46,577,50⟩ else ⟨551,50,551,58⟩ }],vararg:=none,kwonlyargs:=[],kw_defaults:=[],kwarg:=none,defaults:=[] }
noncomputable abbrev P6:Bool->Expr
 |false=>.Call (.Attribute (.Name "court" ⟨551,60,551,65⟩) "ends_of" ⟨551,60,551,73⟩) [.Name "standing" ⟨551,74,551,82⟩] [] ⟨551,60,551,83⟩
 |true=>.Call (.Attribute (.Name "court" ⟨577,52,577,57⟩) "truths_at" ⟨577,52,577,67⟩) [.Name "fact" ⟨577,68,577,72⟩,.Name "standings" ⟨577,74,577,83⟩] [] ⟨577,52,577,84⟩
noncomputable abbrev P2:Bool->Scope
 |false=>{ kind:=.function,names:=[(Str.ofString "standing",.local),(Str.ofString "court",.free)],isGenerator:=false,isCoroutine:=false,more:=[] }
 |true=>{ kind:=.function,names:=[(Str.ofString "fact",.local),(Str.ofString "court",.free),(Str.ofString "standings",.free)],isGenerator:=false,isCoroutine:=false,more:=[] }
noncomputable abbrev P5:Bool->LS
 |false=>["court"]
 |true=>["court","standings"]
abbrev P4(k:Bool)(cs:List Addr)(p:Value)(h:Addr)(c:Value):Obj:=PySem.W.kla_obj "<lambda>" (MS k) (P7 k) (P6 k) (P2 k) ((P5 k).zip cs).reverse p h c
inductive P where
 |non|bl (b:Bool)|int (i:Int)|str (x:Str)|tup (xs:List P)|lst (xs:List P)|ro (xs:List P)|dct (ks:List d8) (vs:List P)
inductive D where
 |p (v:P)|ref (i:Nat)
inductive SO where
 |lst (xs:List D)|dct (ks:List d8) (vs:List D)|fz (v:P)|ins (c:Str) (ks:LS) (vs:List D)|dtn (ks:List P) (vs:List D)|fn (d:Option (Bool×List D))|dtt (ks:List (List d8)) (vs:List D)
noncomputable abbrev aP:=List SO
noncomputable abbrev Lc:=List (Option D)
mutual
noncomputable def pd:P->PyData
 | .non=>.none
 | .bl b=>.bool b
 | .int i=>.int i
 | .str x=>.str x
 | .tup xs=>.tuple (vS xs)
 | .lst xs=>.list (vS xs)
 | .ro xs=>.list (vS xs)
 | .dct _ _=>.none
noncomputable def vS:List P->List PyData
 | []=>[]
 |x::r=>pd x::vS r
end
def Qu(K:FG)(a:Addr)(xs:List V):Prop:=rA K (λ_=>none) a xs
def Qv(K:FG)(a:Addr)(xs:List V):Prop:=jA K (λ_=>none) a xs
def TupAt(K:FG)(H:Hp)(a:Addr)(xs:List V):Prop:=H a=some (.tup xs)\/Qu K a xs
def LstAt(F:Aa)(H:Hp)(a:Addr)(xs:List V):Prop:=F a/\H a=some (.lst xs)
def AK(K:FG)(F:Aa)(H:Hp)(a:Addr)(xs:List V):Prop:=(F a/\∃o,H a=some (.frz o (.lst xs)))\/Qv K a xs
variable{K:FG}{H:Hp}{a:Addr}{xs:List V}
theorem TupAt.sq(h:TupAt K H a xs):rA K H a xs:=by
 rcases h with h|(h|h)
 .exact .inl (.inl h)
 .rcases h with h|⟨o,h⟩<;>cases h
 .exact .inr h
variable{F:Aa}
theorem LstAt.sq(h:LstAt F H a xs):jA K H a xs:=.inl (.inl h.2)
theorem AK.sq(h:AK K F H a xs):jA K H a xs:=by
 rcases h with ⟨_,o,h⟩|(h|h)
 .exact .inl (.inr ⟨o,h⟩)
 .rcases h with h|⟨o,h⟩<;>cases h
 .exact .inr h
section
variable(K:FG)(F:Aa)(H:Hp)
mutual
noncomputable def RP:P->V->Prop
 | .non,v=>v=.non
 | .bl b,v=>v=.bl b
 | .int i,v=>v=.int i
 | .str x,v=>v=.str x
 | .tup ds,v=>∃a xs,v=.ref a/\TupAt K H a xs/\cz ds xs
 | .lst ds,v=>∃a xs,v=.ref a/\LstAt F H a xs/\cz ds xs
 | .ro ds,v=>∃a xs,v=.ref a/\AK K F H a xs/\cz ds xs
 | .dct ks ds,v=>∃a kvs,v=.ref a/\F a/\H a=some (.dK kvs)/\kvs.map (·.1)=ks/\cz ds (kvs.map (·.2))
noncomputable def cz:List P->List V->Prop
 | [],xs=>xs=[]
 |d::ds,xs=>∃x r,xs=x::r/\RP d x/\cz ds r
end
def RD(m:List Addr):D->V->Prop
 | .p d,v=>RP K F H d v
 | .ref i,v=>∃a,v=.ref a/\m[i]? = some a
def d7(m:List Addr):List D->List V->Prop
 | [],xs=>xs=[]
 |d::s,xs=>∃x r,xs=x::r/\RD K F H m d x/\d7 m s r
def AL(H:Hp):List V->List Addr->Prop
 | [],cs=>cs=[]
 |v::s,cs=>∃c r o u,cs=c::r/\H c=some (.frz o (.own c))/\o.data=.cell (some u)/\RelV v u/\AL H s r
inductive FnI(H:Hp)(a:Addr)(k:Bool)(vs:List V):Prop
 |mk (cs:List Addr) (c' P:Addr) (oc:Obj) (pm ctv:Value) (f:H a=some (.frz (P4 k cs pm c' ctv) (.own a))) (c:AL H vs cs) (e:H c'=some (.frz oc (.own P))) (l:CY k oc):FnI H a k vs
def RO(m:List Addr)(a:Addr):SO->Prop
 | .lst d=>∃xs,H a=some (.lst xs)/\d7 K F H m d xs
 | .dct h d=>∃s,H a=some (.dK s)/\s.map (·.1)=h/\d7 K F H m d (s.map (·.2))
 | .fz v=>RP K F H v (.ref a)
 | .ins c h d=>∃C e s,c7 K mainGlobals c=some (some (.ref C))/\H a=some (.ins C e s)/\s.map (·.1)=h/\d7 K F H m d (s.map (·.2))
 | .dtn h d=>∃s,H a=some (.dN s)/\s.map (·.1)=vS h/\cz K F H h (s.map (·.2.1))/\d7 K F H m d (s.map (·.2.2))
 | .fn o=>∀k d,o=some (k,d)->∃x,FnI H a k x/\d7 K F H m d x
 | .dtt h d=>∃s,H a=some (.dT s)/\s.map (·.1)=h/\d7 K F H m d (s.map (·.2))
def SO.own:SO->Prop
 | .fz _=>False
 | .fn _=>False
 |_=>True
structure Rel(m:List Addr)(S:aP):Prop where
 len:m.length=S.length
 nd:m.Nodup
 obj:∀(i:Nat) a o,m[i]? = some a->S[i]? = some o->RO K F H m a o
 sep:∀(i:Nat) a o,m[i]? = some a->S[i]? = some o->o.own->¬F a
 trk:∀a ∈ m,H a≠none
 ft:∀a,F a->H a≠none
end
structure Kp(F:Aa)(m:List Addr)(H:Hp)(F':Aa)(m':List Addr)(H':Hp):Prop where
 pre:∃n,m'=m++n
 frz:∀b,F b->F' b
 frk:∀b o,F b->H b=some o->H' b=some o
 tup:∀b xs,H b=some (.tup xs)->H' b=some (.tup xs)
 cod:∀b o u,H b=some (.frz o (.own u))->H' b=some (.frz o (.own u))
structure Stp(F:Aa)(m:List Addr)(H:Hp)(F':Aa)(m':List Addr)(H':Hp):Prop where
 pre:∃n,m'=m++n
 oth:∀b o,H b=some o->b ∉ m->H' b=some o
 frz:∀b,F b->F' b
 frk:∀b o,F b->H b=some o->H' b=some o
 tup:∀b xs,H b=some (.tup xs)->H' b=some (.tup xs)
 trk:∀b,H b≠none->H' b≠none
 nf:∀b,F' b->F b\/H b=none\/b ∈ m
 nm:∀b,b ∈ m'->b ∈ m\/H b=none
 cod:∀b o u,H b=some (.frz o (.own u))->H' b=some (.frz o (.own u))
variable{H':Hp}
theorem AL.cod(s:∀b o u,H b=some (.frz o (.own u))->H' b=some (.frz o (.own u))):∀{v:List V}{cs:List Addr},AL H v cs->AL H' v cs
 | [],_,h=>h
 |_::_,_,h=>by obtain⟨c,r,o,f,e,x,a,n,k⟩:=h;exact⟨c,r,o,f,e,s _ _ _ x,a,n,AL.cod s k⟩
variable{F':Aa}{m:List Addr}{m':List Addr}
theorem Stp.kp(s:Stp F m H F' m' H'):Kp F m H F' m' H':=⟨s.pre,s.frz,s.frk,s.tup,s.cod⟩
theorem Stp.refl:Stp F m H F m H:=
 ⟨⟨[],by simp⟩,λ_ _ h _=>h,λ_ h=>h,λ_ _ _ h=>h,λ_ _ h=>h,λ_ h=>h,λ_ h=>.inl h,λ_ h=>.inl h,λ_ _ _ h=>h⟩
theorem Stp.trans(a:Stp F m H N k I)(b:Stp N k I B r G):Stp F m H B r G where
 pre:=by obtain⟨f,s⟩:=a.pre;obtain⟨t,n⟩:=b.pre;exact⟨f++t,by rw[n,s,eZ]⟩
 oth:=λc o h x=>b.oth c o (a.oth c o h x) λz=>by
  rcases a.nm c z with z|z
  .exact x z
  .rw [h]at z;cases z
 frz:=λc h=>b.frz c (a.frz c h)
 frk:=λc o h e=>b.frk c o (a.frz c h) (a.frk c o h e)
 tup:=λc xs h=>b.tup c xs (a.tup c xs h)
 cod:=λc o u h=>b.cod c o u (a.cod c o u h)
 trk:=λc h=>b.trk c (a.trk c h)
 nf:=λc h=>by
  rcases b.nf c h with h|h|h
  .exact a.nf c h
  .by_cases e:H c=none
   .exact .inr (.inl e)
   .exact absurd h (a.trk c e)
  .rcases a.nm c h with h|h
   .exact .inr (.inr h)
   .exact .inr (.inl h)
 nm:=λc h=>by
  rcases b.nm c h with h|h
  .exact a.nm c h
  .by_cases e:H c=none
   .exact .inr e
   .exact absurd h (a.trk c e)
section
variable{K:FG}{F F':Aa}{H H':Hp}{m m':List Addr}{S A:aP}
theorem TupAt.kp(s:Kp F m H F' m' H')(h:TupAt K H a xs):TupAt K H' a xs:=by
 rcases h with h|h
 .exact .inl (s.tup _ _ h)
 .exact .inr h
theorem LstAt.kp(s:Kp F m H F' m' H')(h:LstAt F H a xs):LstAt F' H' a xs:=⟨s.frz _ h.1,s.frk _ _ h.1 h.2⟩
theorem AK.kp(s:Kp F m H F' m' H')(h:AK K F H a xs):AK K F' H' a xs:=by
 rcases h with ⟨f,o,h⟩|h
 .exact .inl ⟨s.frz _ f,o,s.frk _ _ f h⟩
 .exact .inr h
mutual
theorem RP.kp(s:Kp F m H F' m' H'):∀{d:P}{v:V},RP K F H d v->RP K F' H' d v
 | .non,_,h=>h
 | .bl _,_,h=>h
 | .int _,_,h=>h
 | .str _,_,h=>h
 | .tup _,_,h=>by obtain⟨a,xs,e,t,r⟩:=h;exact⟨a,xs,e,t.kp s,cz.kp s r⟩
 | .lst _,_,h=>by obtain⟨a,xs,e,t,r⟩:=h;exact⟨a,xs,e,t.kp s,cz.kp s r⟩
 | .ro _,_,h=>by obtain⟨a,xs,e,t,r⟩:=h;exact⟨a,xs,e,t.kp s,cz.kp s r⟩
 | .dct _ _,_,h=>by obtain⟨a,kvs,e,f,t,k,r⟩:=h;exact⟨a,kvs,e,s.frz _ f,s.frk _ _ f t,k,cz.kp s r⟩
theorem cz.kp(s:Kp F m H F' m' H'):∀{ds:List P}{xs:List V},cz K F H ds xs->cz K F' H' ds xs
 | [],_,h=>h
 |_::_,_,h=>by obtain⟨x,r,e,h1,h2⟩:=h;exact⟨x,r,e,RP.kp s h1,cz.kp s h2⟩
end
theorem RD.kp(s:Kp F m H F' m' H'):∀{d:D}{v:V},RD K F H m d v->RD K F' H' m' d v
 | .p _,_,h=>RP.kp s h
 | .ref i,_,h=>by obtain⟨a,e,h⟩:=h;obtain⟨n,x⟩:=s.pre;refine⟨a,e,?_⟩;rw[x];have k:i < m.length:=(bK.mp h).1;rw[eE k];exact h
theorem d7.kp(s:Kp F m H F' m' H'):∀{d:List D}{xs:List V},d7 K F H m d xs->d7 K F' H' m' d xs
 | [],_,h=>h
 |_::_,_,h=>by obtain⟨x,r,e,a,n⟩:=h;exact⟨x,r,e,RD.kp s a,d7.kp s n⟩
variable{d:P}{v:V}
theorem RP.mono(s:Stp F m H F' m' H')(h:RP K F H d v):RP K F' H' d v:=RP.kp s.kp h
theorem cz.mono(s:Stp F m H F' m' H'){d:List P}{v:List V}(h:cz K F H d v):cz K F' H' d v:=cz.kp s.kp h
theorem RD.mono(s:Stp F m H F' m' H'){d:D}{v:V}(h:RD K F H m d v):RD K F' H' m' d v:=RD.kp s.kp h
theorem d7.mono(s:Stp F m H F' m' H'){d:List D}{v:List V}(h:d7 K F H m d v):d7 K F' H' m' d v:=d7.kp s.kp h
theorem cz.length:∀{d:List P}{xs:List V},cz K F H d xs->d.length=xs.length
 | [],_,h=>by rw[show _=([]:List V) from h]<;>rfl
 |_::_,_,h=>by obtain⟨x,r,e,_,a⟩:=h;rw[e,ak,ak,cz.length a]
theorem d7.length:∀{d:List D}{xs:List V},d7 K F H m d xs->d.length=xs.length
 | [],_,h=>by rw[show _=([]:List V) from h]<;>rfl
 |_::_,_,h=>by obtain⟨x,r,e,_,a⟩:=h;rw[e,ak,ak,d7.length a]
theorem cz.get:∀{s:List P}{xs:List V}{i:Nat}{d:P},cz K F H s xs->s[i]? = some d->∃x,xs[i]? = some x/\RP K F H d x
 | [],_,_,_,_,e=>by simp at e
 |_::_,_,0,_,h,e=>by obtain⟨x,r,rfl,n,_⟩:=h;simp at e;subst e;exact⟨x,rfl,n⟩
 |_::_,_,i+1,d,h,e=>by obtain⟨x,r,rfl,_,k⟩:=h;obtain⟨y,a,f⟩:=cz.get (i:=i) k (by simpa using e);exact⟨y,by simpa using a,f⟩
theorem cz.append:∀{d T:List P}{xs y:List V},cz K F H d xs->cz K F H T y->cz K F H (d++T) (xs++y)
 | [],_,_,_,h,g=>by rw[show _=([]:List V) from h];exact g
 |_::_,_,_,_,h,g=>by obtain⟨x,r,rfl,a,e⟩:=h;exact⟨x,r++_,rfl,a,cz.append e g⟩
theorem d7.append:∀{d T:List D}{xs y:List V},d7 K F H m d xs->d7 K F H m T y->d7 K F H m (d++T) (xs++y)
 | [],_,_,_,h,g=>by rw[show _=([]:List V) from h];exact g
 |_::_,_,_,_,h,g=>by obtain⟨x,r,rfl,a,e⟩:=h;exact⟨x,r++_,rfl,a,d7.append e g⟩
theorem cz.take:∀(n:Nat){d:List P}{xs:List V},cz K F H d xs->cz K F H (d.take n) (xs.take n)
 |0,_,_,_=>rfl
 |_+1,[],_,h=>by rw[show _=([]:List V) from h];rfl
 |n+1,_::_,_,h=>by obtain⟨x,r,rfl,a,e⟩:=h;exact⟨x,r.take n,rfl,a,cz.take n e⟩
theorem cz.drop:∀(n:Nat){d:List P}{xs:List V},cz K F H d xs->cz K F H (d.drop n) (xs.drop n)
 |0,_,_,h=>h
 |_+1,[],_,h=>by rw[show _=([]:List V) from h];rfl
 |n+1,_::_,_,h=>by obtain⟨x,r,rfl,_,a⟩:=h;exact cz.drop n a
theorem d7.take:∀(n:Nat){d:List D}{xs:List V},d7 K F H m d xs->d7 K F H m (d.take n) (xs.take n)
 |0,_,_,_=>rfl
 |_+1,[],_,h=>by rw[show _=([]:List V) from h];rfl
 |n+1,_::_,_,h=>by obtain⟨x,r,rfl,a,e⟩:=h;exact⟨x,r.take n,rfl,a,d7.take n e⟩
theorem d7.get:∀{s:List D}{xs:List V}{i:Nat}{d:D},d7 K F H m s xs->s[i]? = some d->∃x,xs[i]? = some x/\RD K F H m d x
 | [],_,_,_,_,e=>by simp at e
 |_::_,_,0,_,h,e=>by obtain⟨x,r,rfl,n,_⟩:=h;simp at e;subst e;exact⟨x,rfl,n⟩
 |_::_,_,i+1,d,h,e=>by obtain⟨x,r,rfl,_,k⟩:=h;obtain⟨y,a,f⟩:=d7.get (i:=i) k (by simpa using e);exact⟨y,by simpa using a,f⟩
theorem d7.ofP:∀{d:List P}{xs:List V},cz K F H d xs->d7 K F H m (d.map .p) xs
 | [],_,h=>h
 |_::_,_,h=>by obtain⟨x,r,e,a,s⟩:=h;exact⟨x,r,e,a,d7.ofP s⟩
variable{p:Addr}
theorem Rel.fresh_m(r:Rel K F H m S)(h:H p=none):p ∉ m:=λz=>r.trk p z h
theorem Rel.fresh_F(r:Rel K F H m S)(h:H p=none):¬F p:=λz=>r.ft p z h
variable{o:HO}
theorem hG(x:H p=none):Stp F m H F m (cJ H p o) where
 pre:=⟨[],by simp⟩
 oth:=λb u h _=>by rw[aN (by rintro rfl;rw[x]at h;cases h)];exact h
 frz:=λ_ h=>h
 frk:=λb u _ h=>by rw[aN (by rintro rfl;rw[x]at h;cases h)];exact h
 tup:=λb u h=>by rw[aN (by rintro rfl;rw[x]at h;cases h)];exact h
 cod:=λb u w h=>by rw[aN (by rintro rfl;rw[x]at h;cases h)];exact h
 trk:=λb h=>by
  by_cases e:b=p
  .subst e;rw[ba];exact λz=>nomatch z
  .rw [aN e];exact h
 nf:=λ_ h=>.inl h
 nm:=λ_ h=>.inl h
theorem RO.kp(s:Kp F m H F' m' H'){a:Addr}{o:SO}(k:∀u,H a=some u->H' a=some u)(h:RO K F H m a o):RO K F' H' m' a o:=by
 cases o with
 |lst b=>obtain⟨xs,e,r⟩:=h;exact⟨xs,k _ e,d7.kp s r⟩
 |dct p b=>obtain⟨x,e,f,r⟩:=h;exact⟨x,k _ e,f,d7.kp s r⟩
 |fz v=>exact RP.kp s (show RP K F H v (.ref a) from h)
 |ins c p b=>obtain⟨C,w,x,n,e,f,r⟩:=h;exact⟨C,w,x,n,k _ e,f,d7.kp s r⟩
 |dtt p b=>obtain⟨x,e,f,r⟩:=h;exact⟨x,k _ e,f,d7.kp s r⟩
 |fn D=>intro j d z;obtain⟨v,⟨cs,q,P,S,A,t,g,i,l,y⟩,r⟩:=h j d z;exact⟨v,⟨cs,q,P,S,A,t,s.cod _ _ _ g,i.cod s.cod,s.cod _ _ _ l,y⟩,d7.kp s r⟩
 |dtn p b=>obtain⟨x,e,f,B,r⟩:=h;exact⟨x,k _ e,f,cz.kp s B,d7.kp s r⟩
theorem RO.mono(s:Stp F m H F' m' H'){a:Addr}{o:SO}(k:∀u,H a=some u->H' a=some u)(h:RO K F H m a o):RO K F' H' m' a o:=RO.kp s.kp k h
theorem Rel.stayK(r:Rel K F H m S)(s:Kp F m H F' m H')(k:∀a u,a ∈ m->H a=some u->H' a=some u)(n:∀a,F' a->F a\/H a=none)(t:∀a,F' a->H' a≠none):Rel K F' H' m S where
 len:=r.len
 nd:=r.nd
 obj:=λi a o e x=>(r.obj i a o e x).kp s λu h=>k a u (d6 e) h
 sep:=λi a o e x w f=>by
  rcases n a f with f|f
  .exact r.sep i a o e x w f
  .exact r.trk a (d6 e) f
 trk:=λa h=>by
  cases q:H a with
  |none=>exact absurd q (r.trk a h)
  |some u=>rw[k a u h q];exact λz=>nomatch z
 ft:=t
theorem Rel.stay(r:Rel K F H m S)(s:Stp F m H F' m H')(k:∀a u,a ∈ m->H a=some u->H' a=some u)(n:∀a,F' a->F a\/H a=none)(t:∀a,F' a->H' a≠none):Rel K F' H' m S where
 len:=r.len
 nd:=r.nd
 obj:=λi a o e x=>(r.obj i a o e x).mono s λu h=>k a u (d6 e) h
 sep:=λi a o e x w f=>by
  rcases n a f with f|f
  .exact r.sep i a o e x w f
  .exact r.trk a (d6 e) f
 trk:=λa h=>s.trk a (r.trk a h)
 ft:=t
theorem Rel.new(r:Rel K F H m S)(x:H p=none):Rel K F (cJ H p o) m S:=
 r.stay (hG x) (λa u e h=>by rw[aN (by rintro rfl;exact r.fresh_m x e)];exact h) (λ_ f=>.inl f) λa f=>(hG (F:=F) (m:=m) x).trk a (r.ft a f)
theorem kv{p:Addr}{o:HO}(x:H p=none):Stp F m H F (m++[p]) (cJ H p o) where
 pre:=⟨[p],rfl⟩
 oth:=(hG (F:=F) (m:=m) (o:=o) x).oth
 frz:=λ_ h=>h
 frk:=(hG (F:=F) (m:=m) (o:=o) x).frk
 tup:=(hG (F:=F) (m:=m) (o:=o) x).tup
 cod:=(hG (F:=F) (m:=m) (o:=o) x).cod
 trk:=(hG (F:=F) (m:=m) (o:=o) x).trk
 nf:=λ_ h=>.inl h
 nm:=λb h=>by
  rcases dD.mp h with h|h
  .exact .inl h
  .have:b=p:=by simpa using h
   subst this;exact .inr x
theorem Rel.own(r:Rel K F H m S){p:Addr}{o:HO}{c:SO}(n:H p=none)(v:RO K F (cJ H p o) (m++[p]) p c):Rel K F (cJ H p o) (m++[p]) (S++[c]) where
 len:=by rw[aL,aL,r.len];rfl
 nd:=by
  rw[yo];refine⟨r.nd,by simp,λa t b q e=>?_⟩;have:b=p:=by simpa using q
  subst this;subst e;exact r.fresh_m n t
 obj:=λi a u x s=>by
  by_cases k:i < m.length
  .rw [eE k]at x;rw[eE (by rw[<- r.len];exact k)]at s;exact(r.obj i a u x s).mono (kv n) λw h=>by rw[aN (by rintro rfl;rw[n]at h;cases h)];exact h
  .have l:i=m.length:=by
    have:=(bK.mp x).1;rw[aL]at this;simp at this;lia
   subst l;rw[fS (aq _)]at x;rw[r.len,fS (aq _)]at s;simp at x s;subst x;subst s;exact v
 sep:=λi a u x s w f=>by
  by_cases k:i < m.length
  .rw [eE k]at x;rw[eE (by rw[<- r.len];exact k)]at s;exact r.sep i a u x s w f
  .have l:i=m.length:=by
    have:=(bK.mp x).1;rw[aL]at this;simp at this;lia
   subst l;rw[fS (aq _)]at x;simp at x;subst x;exact r.fresh_F n f
 trk:=λa h=>by
  rcases dD.mp h with h|h
  .exact (kv (F:=F) (m:=m) n).trk a (r.trk a h)
  .have:a=p:=by simpa using h
   subst this;rw[ba];exact λz=>nomatch z
 ft:=λa f=>(kv (F:=F) (m:=m) n).trk a (r.ft a f)
variable{i:Nat}
theorem iY(r:Rel K F H m S)(n:m[i]? = some p)(k:S[i]? = some s)(w:s.own)(t:∀xs,H p≠some (.tup xs)):Stp F m H F m (cJ H p o) where
 pre:=⟨[],by simp⟩
 oth:=λb u h c=>by rw[aN (by rintro rfl;exact c (d6 n))];exact h
 frz:=λ_ h=>h
 frk:=λb u f h=>by rw[aN (by rintro rfl;exact r.sep i _ s n k w f)];exact h
 tup:=λb xs h=>by rw[aN (by rintro rfl;exact t xs h)];exact h
 cod:=λb x u h=>by
  rw[aN ?_];exact h;rintro rfl;have a:=r.obj i b s n k;cases s with
  |fz _=>exact w
  |fn _=>exact w
  |lst _=>obtain⟨_,e,_⟩:=a;rw[h]at e;cases e
  |dct _ _=>obtain⟨_,e,_⟩:=a;rw[h]at e;cases e
  |ins _ _ _=>obtain⟨_,_,_,_,e,_⟩:=a;rw[h]at e;cases e
  |dtn _ _=>obtain⟨_,e,_⟩:=a;rw[h]at e;cases e
  |dtt _ _=>obtain⟨_,e,_⟩:=a;rw[h]at e;cases e
 trk:=λb h=>by
  by_cases e:b=p
  .subst e;rw[ba];exact λz=>nomatch z
  .rw [aN e];exact h
 nf:=λ_ h=>.inl h
 nm:=λ_ h=>.inl h
theorem uR(h:m.Nodup)(e:m[i]? = some a)(x:m[s]? = some a):i=s:=by exact(List.getElem?_inj (bK.mp e).1 h).mp (e.trans x.symm)
theorem Rel.set(r:Rel K F H m S){i:Nat}{p:Addr}{q b:SO}{o:HO}(s:m[i]? = some p)(k:S[i]? = some q)(c:q.own)(t:∀xs,H p≠some (.tup xs))(v:RO K F (cJ H p o) m p b) :
  Rel K F (cJ H p o) m (S.set i b) where
 len:=by rw[fR];exact r.len
 nd:=r.nd
 obj:=λj a u e x=>by
  by_cases n:i=j
  .subst n;rw[s]at e;cases e;rw[e_ (by exact(bK.mp k).1)]at x;cases x;exact v
  .rw [d5 n]at x;exact(r.obj j a u e x).mono (iY r s k c t) λw h=>by rw[aN (by rintro rfl;exact n (uR r.nd s e))];exact h
 sep:=λj a u e x w f=>by
  by_cases n:i=j
  .subst n;rw[s]at e;cases e;exact r.sep i p q s k c f
  .rw [d5 n]at x;exact r.sep j a u e x w f
 trk:=λa h=>(iY (o:=o) r s k c t).trk a (r.trk a h)
 ft:=λa f=>(iY (o:=o) r s k c t).trk a (r.ft a f)
theorem sZ(x:p ∈ m):Stp F m H (λb=>F b\/b=p) m H:=
 ⟨⟨[],by simp⟩,fun _ _ h _=>h,fun _ h=>.inl h,fun _ _ _ h=>h,fun _ _ h=>h,fun _ h=>h,fun b h=>by
  rcases h with h|h
  .exact .inl h
  .subst h;exact .inr (.inr x),λ_ h=>.inl h,λ_ _ _ h=>h⟩
theorem Rel.frz(r:Rel K F H m S){i:Nat}{p:Addr}{c:SO}{v:P}(n:m[i]? = some p)(k:S[i]? = some c)(o:RP K (λb=>F b\/b=p) H v (.ref p)):Rel K (λb=>F b\/b=p) H m (S.set i (.fz v)) where
 len:=by rw[fR];exact r.len
 nd:=r.nd
 obj:=λj a u x e=>by
  by_cases s:i=j
  .subst s;rw[n]at x;cases x;rw[e_ (by exact(bK.mp k).1)]at e;cases e;exact o
  .rw [d5 s]at e;exact(r.obj j a u x e).mono (sZ (d6 n)) λw h=>h
 sep:=λj a u x e w f=>by
  by_cases s:i=j
  .subst s;rw[e_ (by exact(bK.mp k).1)]at e;cases e;exact w
  .rw [d5 s]at e;rcases f with f|f
   .exact r.sep j a u x e w f
   .subst f;exact s (uR r.nd n x)
 trk:=r.trk
 ft:=λa f=>by
  rcases f with f|f
  .exact r.ft a f
  .subst f;exact r.trk _ (d6 n)
end
noncomputable abbrev EE:=Lc->aP->Option (D×aP)
noncomputable abbrev EL:=Option (D×aP)
noncomputable abbrev EV:=Lc->aP->Option (P×aP)
noncomputable abbrev tyV:=Option (P×aP)
noncomputable abbrev EB:=Lc->aP->Option (Bool×aP)
noncomputable abbrev Ko:=Option (Bool×aP)
noncomputable abbrev kB:=Lc->aP->Option (List P×aP)
noncomputable abbrev EJ:=Option (List P×aP)
inductive Fl where
 |nx|rt (d:D)|bk|ct
noncomputable abbrev ES:=Lc->aP->Option (Fl×Lc×aP)
noncomputable abbrev EK:=Option (Fl×Lc×aP)
variable{Q:Type}{β:Type}
noncomputable def bA(x:Option (Q×aP))(f:Q->aP->Option β):Option β:=match x with
 |some (a,S)=>f a S
 |none=>none
@[simp] theorem p9(a:Q)(S:aP)(f:Q->aP->Option β):bA (some (a,S)) f=f a S:=rfl
@[simp] theorem Nw(f:Q->aP->Option β):bA none f=none:=rfl
theorem aj{Q β:Type}{x:Option (Q×aP)}{f:Q->aP->Option β}{r:β}(h:bA x f=some r):∃a S,x=some (a,S)/\f a S=some r:=by
 cases x with
 |none=>cases h
 |some p=>exact⟨p.1,p.2,rfl,h⟩
def w5(f:D->aP->Option (P×aP)):List D->aP->Option (List P×aP)
 | [],S=>some ([],S)
 |d::r,S=>bA (f d S) λv h=>bA (w5 f r h) λs x=>some (v::s,x)
def y4:Nat->D->aP->Option (P×aP)
 |_,.p v,S=>some (v,S)
 |0,.ref _,_=>none
 |n+1,.ref i,S=>match S[i]? with
  |some (.lst d)=>bA (w5 (y4 n) d S) λs h=>some (.lst s,h.set i (.fz (.lst s)))
  |some (.dct k d)=>bA (w5 (y4 n) d S) λs h=>some (.dct k s,h.set i (.fz (.dct k s)))
  |some (.fz v)=>some (v,S)
  |some (.ins _ _ _)=>none
  |some (.dtn _ _)=>none
  |some (.dtt _ _)=>none
  |some (.fn _)=>none
  |none=>none
@[simp] theorem Lp(n:Nat)(v:P)(S:aP):y4 n (.p v) S=some (v,S):=by cases n<;>rfl
theorem zr(n:Nat):∀(s:List P)(S:aP),w5 (y4 n) (s.map .p) S=some (s,S)
 | [],_=>rfl
 |v::r,S=>by simp[w5,zr n r S]
section
variable{K:FG}{F:Aa}{H:Hp}{m:List Addr}{S A:aP}
theorem tM 
  (k:∀{d:D}{x:V}{v:P}{F:Aa}{S A:aP},f d S=some (v,A)->Rel K F H m S->RD K F H m d x->∃F',Stp F m H F' m H/\Rel K F' H m A/\A.length=S.length/\RP K F' H v x) :
  ∀{a:List D}{xs:List V}{s:List P}{F:Aa}{S A:aP},w5 f a S=some (s,A)->Rel K F H m S->d7 K F H m a xs->∃F',Stp F m H F' m H/\Rel K F' H m A/\A.length=S.length/\cz K F' H s xs
 | [],xs,s,F,S,A,h,r,n=>by cases h;exact⟨F,.refl,r,rfl,n⟩
 |d::a,xs,s,F,S,A,h,r,n=>by obtain⟨x,z,e,q,w⟩:=n;obtain⟨v,o,t,h⟩:=aj h;obtain⟨E,C,p,h⟩:=aj h;cases h;obtain⟨N,b,j,l,g⟩:=k t r q;obtain⟨B,c,y,u,i⟩:=tM k p j (d7.mono b w);exact⟨B,b.trans c,y,u.trans l,x,z,e,RP.mono c g,i⟩
theorem sV:∀(n:Nat){d:D}{x:V}{v:P}{F:Aa}{S A:aP},y4 n d S=some (v,A)->Rel K F H m S->RD K F H m d x->∃F',Stp F m H F' m H/\Rel K F' H m A/\A.length=S.length/\RP K F' H v x
 |n,.p w,x,v,F,S,A,h,r,p=>by rw[Lp]at h;cases h;exact⟨F,.refl,r,rfl,p⟩
 |0,.ref i,x,v,F,S,A,h,r,p=>by cases h
 |n+1,.ref i,x,v,F,S,A,h,r,p=>by
  obtain⟨a,e,k⟩:=p;subst e;have t:i < S.length:=by rw[<- r.len];exact(bK.mp k).1
  obtain⟨o,M⟩:∃o,S[i]? = some o:=⟨S[i],by simp[t]⟩;have y:=r.obj i a o k M;simp only[y4,M]at h;cases o with
  |fz w=>cases h;exact⟨F,.refl,r,rfl,y⟩
  |ins c Q L=>cases h
  |dtn _ _=>cases h
  |dtt _ _=>cases h
  |fn _=>cases h
  |lst L=>obtain⟨I,f,u,h⟩:=aj h;cases h;obtain⟨xs,g,E⟩:=y;obtain⟨N,G,C,l,B⟩:=tM (λh=>sV n h) u r E;obtain⟨R,s⟩:∃o,f[i]? = some o:=⟨f[i]'(by rw[l];exact t),by simp[l,t]⟩;have z:Stp N m H (λb=>N b\/b=a) m H:=sZ (d6 k);have q:RP K (λb=>N b\/b=a) H (.lst I) (.ref a):=⟨a,xs,rfl,⟨.inr rfl,g⟩,cz.mono z B⟩;exact⟨_,G.trans z,C.frz k s q,by rw[fR];exact l,q⟩
  |dct Q L=>obtain⟨I,f,u,h⟩:=aj h;cases h;obtain⟨j,g,hk,E⟩:=y;obtain⟨N,G,C,l,B⟩:=tM (λh=>sV n h) u r E;obtain⟨R,s⟩:∃o,f[i]? = some o:=⟨f[i]'(by rw[l];exact t),by simp[l,t]⟩;have z:Stp N m H (λb=>N b\/b=a) m H:=sZ (d6 k);have q:RP K (λb=>N b\/b=a) H (.dct Q I) (.ref a):=⟨a,j,rfl,.inr rfl,g,hk,cz.mono z B⟩;exact⟨_,G.trans z,C.frz k s q,by rw[fR];exact l,q⟩
end
structure Grow(F:Aa)(H:Hp)(F':Aa)(H':Hp):Prop where
 keep:∀b o,H b=some o->H' b=some o
 frz:∀b,F b->F' b
 nf:∀b,F' b->F b\/(H b=none/\H' b≠none)
section
variable{K:FG}{F F' N B:Aa}{H H' I G:Hp}{m:List Addr}{S A:aP}
theorem Grow.refl:Grow F H F H:=⟨λ_ _ h=>h,λ_ h=>h,λ_ h=>.inl h⟩
theorem Grow.stp(g:Grow F H F' H'):Stp F m H F' m H' where
 pre:=⟨[],by simp⟩
 oth:=λb o h _=>g.keep b o h
 frz:=g.frz
 frk:=λb o _ h=>g.keep b o h
 tup:=λb xs h=>g.keep b _ h
 cod:=λb o u h=>g.keep b _ h
 trk:=λb h=>by
  cases q:H b with
  |none=>exact absurd q h
  |some o=>rw[g.keep b o q];exact λz=>nomatch z
 nf:=λb h=>by
  rcases g.nf b h with h|⟨h,_⟩
  .exact .inl h
  .exact .inr (.inl h)
 nm:=λ_ h=>.inl h
theorem Rel.grow(r:Rel K F H m S)(g:Grow F H F' H'):Rel K F' H' m S:=
 r.stay g.stp (fun a u _ h=>g.keep a u h) (fun a f=>by
  rcases g.nf a f with f|⟨f,_⟩
  .exact .inl f
  .exact .inr f) λa f=>by
  rcases g.nf a f with f|⟨_,f⟩
  .exact (g.stp (m:=m)).trk a (r.ft a f)
  .exact f
theorem cu{p:Addr}{o:HO}(x:H p=none):Grow F H F (cJ H p o):=
 ⟨λb u h=>by rw[aN (by rintro rfl;rw[x]at h;cases h)];exact h,λ_ h=>h,λ_ h=>.inl h⟩
theorem dn{p:Addr}{o:HO}(x:H p=none):Grow F H (λb=>F b\/b=p) (cJ H p o):=
 ⟨fun b u h=>by rw [aN (by rintro rfl;rw [x] at h;cases h)];exact h,fun _ h=>.inl h,fun b h=>by
  rcases h with h|h
  .exact .inl h
  .subst h;exact .inr ⟨x,by rw[ba];exact λz=>nomatch z⟩⟩
theorem RP.grow(g:Grow F H F' H')(h:RP K F H d v):RP K F' H' d v:=RP.mono (m:=[]) g.stp h
theorem cz.grow(g:Grow F H F' H')(h:cz K F H d v):cz K F' H' d v:=cz.mono (m:=[]) g.stp h
theorem RP.newTup(h:H p=none)(r:cz K F H s xs):RP K F (cJ H p (.tup xs)) (.tup s) (.ref p):=⟨p,xs,rfl,.inl ba,r.grow (cu h)⟩
theorem RP.newLst(h:H p=none)(r:cz K F H s xs):RP K (λb=>F b\/b=p) (cJ H p (.lst xs)) (.lst s) (.ref p):=⟨p,xs,rfl,⟨.inr rfl,ba⟩,r.grow (dn h)⟩
end
@[simp] def vC(v:P)(_L:Lc)(S:aP):tyV:=some (v,S)
def U(i:Nat)(L:Lc)(S:aP):EL:=match L[i]? with
 |some (some d)=>some (d,S)
 |_=>none
@[simp] def vE(f:EE)(L:Lc)(S:aP):tyV:=bA (f L S) (y4 9)
@[simp] def Y(f:EV)(L:Lc)(S:aP):EL:=bA (f L S) λv h=>some (.p v,h)
@[simp] def aH(g:P->P->Option P)(a b:EV)(L:Lc)(S:aP):tyV:=bA (a L S) λx h=>bA (b L h) λy e=>(g x y).map λv=>(v,e)
@[simp] def GO(g:P->Option P)(a:EV)(L:Lc)(S:aP):tyV:=bA (a L S) λx h=>(g x).map λv=>(v,h)
@[simp] def bV(a:EV)(L:Lc)(S:aP):Ko:=bA (a L S) λx h=>match x with
 | .bl b=>some (b,h)
 |_=>none
@[simp] def f6(a b:EB)(L:Lc)(S:aP):Ko:=bA (a L S) λc h=>if c=true then b L h else some (false,h)
@[simp] def rn(a b:EB)(L:Lc)(S:aP):Ko:=bA (a L S) λc h=>if c=true then some (true,h) else b L h
@[simp] def mv(a:EB)(L:Lc)(S:aP):Ko:=bA (a L S) λc h=>some (!c,h)
@[simp] def vB(a:EB)(L:Lc)(S:aP):tyV:=bA (a L S) λc h=>some (.bl c,h)
@[simp] def qA(c:EB)(a b:EV)(L:Lc)(S:aP):tyV:=bA (c L S) λk h=>if k=true then a L h else b L h
@[simp] def af(_L:Lc)(S:aP):EJ:=some ([],S)
@[simp] def ab(a:EV)(r:kB)(L:Lc)(S:aP):EJ:=bA (a L S) λx h=>bA (r L h) λxs e=>some (x::xs,e)
@[simp] def au(g:List P->Option P)(a:kB)(L:Lc)(S:aP):tyV:=bA (a L S) λxs h=>(g xs).map λv=>(v,h)
@[simp] def cM(L:Lc)(S:aP):EK:=some (.nx,L,S)
@[simp] def ah(f g:ES)(L:Lc)(S:aP):EK:=match f L S with
 |some (.nx,h,x)=>g h x
 |r=>r
@[simp] def aO(i:Nat)(f:EE)(L:Lc)(S:aP):EK:=bA (f L S) λd h=>some (.nx,L.set i (some d),h)
@[simp] def aV(f:EE)(L:Lc)(S:aP):EK:=bA (f L S) λd h=>some (.rt d,L,h)
@[simp] def aR(f:EE)(L:Lc)(S:aP):EK:=bA (f L S) λ_ h=>some (.nx,L,h)
@[simp] def bI(c:EB)(a b:ES)(L:Lc)(S:aP):EK:=bA (c L S) λk h=>if k=true then a L h else b L h
noncomputable def bH:ES:=λ_ _=>none
noncomputable def NY:ES:=λL S=>some (.ct,L,S)
noncomputable abbrev kM:=P->Lc->Option Lc
noncomputable def cF(i:Nat):kM:=λv L=>some (L.set i (some (.p v)))
noncomputable def dI(g:kM)(b:ES):List P->Lc->aP->Option (Fl×Lc×aP)
 | [],L,S=>some (.nx,L,S)
 |v::r,L,S=>match g v L with
  |none=>none
  |some a=>match b a S with
   |some (.nx,L2,h)=>dI g b r L2 h
   |some (.ct,L2,h)=>dI g b r L2 h
   |some (.bk,L2,h)=>some (.nx,L2,h)
   |x=>x
@[simp] def tu(i:kB)(g:kM)(b:ES)(L:Lc)(S:aP):EK:=bA (i L S) λxs h=>dI g b xs L h
def bh(c:EB)(b:ES):Nat->Lc->aP->Option (Fl×Lc×aP)
 |0,_,_=>none
 |n+1,L,S=>bA (c L S) λk a=>if k=true then match b L a with
   |some (.nx,L2,h)=>bh c b n L2 h
   |some (.ct,L2,h)=>bh c b n L2 h
   |some (.bk,L2,h)=>some (.nx,L2,h)
   |x=>x
  else some (.nx,L,a)
def dP(n:Nat)(c:EB)(b:ES):ES:=bh c b n
open PySem PySem.Spec PyProof.Rows L2
section
variable(K:FG)
structure RL(F:Aa)(H:Hp)(m:List Addr)(J:L2.St)(L:Lc):Prop where
 len:J.length=L.length
 at':∀(i:Nat) d,L[i]? = some (some d)->∃v,J[i]? = some (some v)/\RD K F H m d v
inductive tEI(f:EE)(J:L2.St)(H:Hp)(Q:VK):Prop
 |mk (F:Aa) (m:List Addr) (L:Lc) (S:aP) (d:D) (S':aP) (h0_:Rel K F H m S) (h1_:RL K F H m J L) (h2_:f L S=some (d,S')) (h3_:∀v F' m' H',Stp F m H F' m' H'->Rel K F' H' m' S'->RD K F' H' m' d v->Q v H'):tEI f J H Q
noncomputable def tE(f:EE):TE:=λJ H Q=>tEI K f J H Q
inductive tVI(f:EV)(J:L2.St)(H:Hp)(Q:VK):Prop
 |mk (F:Aa) (m:List Addr) (L:Lc) (S:aP) (d:P) (S':aP) (h0_:Rel K F H m S) (h1_:RL K F H m J L) (h2_:f L S=some (d,S')) (h3_:∀v F' m' H',Stp F m H F' m' H'->Rel K F' H' m' S'->RP K F' H' d v->Q v H'):tVI f J H Q
noncomputable def tV(f:EV):TE:=λJ H Q=>tVI K f J H Q
inductive tQI(f:EB)(J:L2.St)(H:Hp)(Q:Bool->Hp->Prop):Prop
 |mk (F:Aa) (m:List Addr) (L:Lc) (S:aP) (b:Bool) (S':aP) (h0_:Rel K F H m S) (h1_:RL K F H m J L) (h2_:f L S=some (b,S')) (h3_:∀F' m' H',Stp F m H F' m' H'->Rel K F' H' m' S'->Q b H'):tQI f J H Q
noncomputable def tQ(f:EB):TT:=λJ H Q=>tQI K f J H Q
inductive tVsI(f:kB)(J:L2.St)(H:Hp)(Q:List V->Hp->Prop):Prop
 |mk (F:Aa) (m:List Addr) (L:Lc) (S:aP) (ds:List P) (S':aP) (h0_:Rel K F H m S) (h1_:RL K F H m J L) (h2_:f L S=some (ds,S')) (h3_:∀xs F' m' H',Stp F m H F' m' H'->Rel K F' H' m' S'->cz K F' H' ds xs->Q xs H'):tVsI f J H Q
noncomputable def qi(f:kB):TA:=λJ H Q=>tVsI K f J H Q
def Pm(D:Ends)(F:Aa)(m:List Addr)(J:L2.St)(H:Hp):Fl->Prop
 | .nx=>D.nx J H
 | .bk=>D.bk J H
 | .ct=>D.ct J H
 | .rt d=>∀v,RD K F H m d v->D.rt v H
inductive tStI(f:ES)(D:Ends)(J:L2.St)(H:Hp):Prop
 |mk (F:Aa) (m:List Addr) (L:Lc) (S:aP) (fl:Fl) (L':Lc) (S':aP) (h0_:Rel K F H m S) (h1_:RL K F H m J L) (h2_:f L S=some (fl,L',S')) (h3_:∀J' F' m' H',Stp F m H F' m' H'->Rel K F' H' m' S'->RL K F' H' m' J' L'->Pm K D F' m' J' H' fl):tStI f D J H
noncomputable def f_(f:ES):TS:=λD J H=>tStI K f D J H
end
section
variable{K:FG}{F F':Aa}{H H':Hp}{m m':List Addr}{J:L2.St}{L:Lc}{S:aP}
theorem RL.mono(s:Stp F m H F' m' H')(h:RL K F H m J L):RL K F' H' m' J L:=⟨h.len,λi d e=>by obtain⟨v,x,r⟩:=h.at' i d e;exact⟨v,x,RD.mono s r⟩⟩
theorem RL.set (h:RL K F H m J L) (r:RD K F H m d v) (i:Nat):RL K F H m (J.set i (some v)) (L.set i (some d)):=⟨by rw [fR,fR];exact h.len,fun j e q=>by
 by_cases x:i=j
 .subst x;by_cases a:i < L.length
  .rw [e_ a]at q;cases q;exact⟨v,e_ (by rw[h.len];exact a),r⟩
  .rw [yu (by rw[fR];lia)]at q;cases q
 .rw [d5 x]at q;rw[d5 x];exact h.at' j e q⟩
end
section
variable{X:Cx}{e:Expr}{T:Ab}{z:Stmt}{sts:List Stmt}
theorem _root_.L2.PE.imp'(h:PE X e t)(i:∀J H Q,k J H Q->t J H Q):PE X e k:=λp s J H Q I q=>h p s J H Q I (i J H Q q)
theorem _root_.L2.PT.imp'(h:PT X e t)(i:∀J H Q,k J H Q->t J H Q):PT X e k:=λp s J H Q I q=>h p s J H Q I (i J H Q q)
theorem _root_.L2.PW.imp'(h:PW X e t)(i:∀J H Q,k J H Q->t J H Q):PW X e k:=λw p s J H Q I q=>h w p s J H Q I (i J H Q q)
theorem _root_.L2.PA.imp'(h:PA X T t)(i:∀J H Q,k J H Q->t J H Q):PA X T k:=λM p s J H Q I q=>h M p s J H Q I (i J H Q q)
theorem _root_.L2.PS.imp'(h:PS X z t)(i:∀D J H,k D J H->t D J H):PS X z k:=λp s J H D I q=>h p s J H D I (i D J H q)
theorem _root_.L2.mD.imp'(h:mD X sts t)(i:∀D J H,k D J H->t D J H):mD X sts k:=λp s J H D I q=>h p s J H D I (i D J H q)
end
section
variable{X:Cx}{a b c e:Expr}{T:Ab}{l fb:EV}{fe:EE}{M:Pos}
theorem NR(h:PE X e (tE X.K fe)):PE X e (tV X.K (vE fe)):=h.imp' λJ H Q z=>by obtain⟨F,m,L,S,d,A,r,l,q,k⟩:=z;obtain⟨a,x,n,f⟩:=aj q;refine⟨F,m,L,S,a,x,r,l,n,λv F' m' H' s b t=>?_⟩;obtain⟨B,w,c,_,p⟩:=sV 9 f b t;exact k v B m' H' (s.trans w) c p
theorem Km(h:PE X e (tV X.K l)):PE X e (tE X.K (Y l)):=h.imp' λJ H Q z=>by obtain⟨F,m,L,S,d,A,r,x,q,k⟩:=z;obtain⟨a,t,n,f⟩:=aj q;cases f;exact⟨F,m,L,S,a,A,r,x,n,λv F' m' H' s b c=>k v F' m' H' s b c⟩
theorem OL(i:Nat)(N:X.N[i]? = some x:=by rfl)(n:Kf X.e.scope x:=by first|exact Or.inl rfl|exact Or.inr (Or.inl rfl)|exact Or.inr (Or.inr rfl))(s:(x == ("__debug__":Str))=false:=by decide)
  (h:(x == ("__classdict__":Str))=false:=by decide):PE X (.Name x M) (tE X.K (U i)):=(Iz N n s h).imp' λJ H Q z=>by
 obtain⟨F,m,L,S,d,A,r,l,q,k⟩:=z;unfold U at q;split at q
 .rename_i b e;cases q;obtain⟨v,a,f⟩:=l.at' i _ e;exact⟨v,a,k v F m H .refl r f⟩
 .cases q
theorem xC(h:PE X e (tC v))(r:∀F H,RP X.K F H d v):PE X e (tV X.K (vC d)):=h.imp' λJ H Q z=>by obtain⟨F,m,L,S,a,A,x,l,q,k⟩:=z;cases q;exact k v F m H .refl x (r F H)
theorem OY {i h M}:PE X (.Constant (.int i) h M) (tV X.K (vC (.int i))):=xC IF λ_ _=>rfl
theorem Q5 {i h M}:PE X (.Constant (.bool i) h M) (tV X.K (vC (.bl i))):=xC L8 λ_ _=>rfl
theorem OR {h M}:PE X (.Constant .none h M) (tV X.K (vC .non)):=xC IE λ_ _=>rfl
theorem K5 {i h M}:PE X (.Constant (.str i) h M) (tV X.K (vC (.str i))):=xC IB λ_ _=>rfl
inductive rPI(K:FG)(g:P->P->Option P)(x:V)(y:V)(H:Hp)(Q:VK):Prop
 |mk (F:Aa) (dx:P) (dy:P) (d:P) (h0_:(∀a,F a->H a≠none)) (h1_:RP K F H dx x) (h2_:RP K F H dy y) (h3_:g dx dy=some d) (h4_:∀v F' H',Grow F H F' H'->RP K F' H' d v->Q v H'):rPI K g x y H Q
noncomputable def rP(K:FG)(g:P->P->Option P):R2:=λx y H Q=>rPI K g x y H Q
def m9(X:Cx)(f:Value->Value->Sem Value)(g:P->P->Option P):Prop:=iC X f (rP X.K g)
theorem ph(h:tV X.K (aH g l fb) J H s):GR (rP X.K g) (tV X.K l) (tV X.K fb) J H s:=by
 obtain⟨F,m,L,S,d,A,r,a,q,k⟩:=h;obtain⟨x,n,o,q⟩:=aj q;obtain⟨y,j,K,q⟩:=aj q;refine⟨F,m,L,S,x,n,r,a,o,λv N P I c Q D=>?_⟩;refine⟨N,P,L,n,y,j,Q,a.mono c,K,λu B C G t b E=>?_⟩;cases e:g x y with
 |none=>rw[e]at q;cases q
 |some z=>rw[e]at q;cases q;refine⟨B,x,y,_,b.ft,RP.mono t D,E,e,λw p i f M=>?_⟩;exact k w p C i (c.trans (t.trans f.stp)) (b.grow f) M
theorem Q2(o:m9 X (binaryOp s) g)(x:PE X a (tV X.K l))(e:PE X b (tV X.K fb)):PE X (.BinOp a s b M) (tV X.K (aH g l fb)):=
 (L7 o x e).imp' λ_ _ _ h=>ph h
theorem O2(o:m9 X (compareOp s) g)(x:PE X a (tV X.K l))(e:PE X b (tV X.K fb))(m:behindInMarks s b=false):PE X (.Compare a [s] [b] M) (tV X.K (aH g l fb)):=
 (zh o x e m).imp' λ_ _ _ h=>ph h
theorem BF(h:tQ X.K (bV (aH g l fb)) J H t):BG (GR (rP X.K g) (tV X.K l) (tV X.K fb)) J H t:=by
 refine ph ?_;obtain⟨F,m,L,S,d,A,r,a,q,k⟩:=h;obtain⟨x,f,e,q⟩:=aj q;cases x with
 |bl b=>cases q;exact⟨F,m,L,S,_,_,r,a,e,λv F' m' H' s n p=>⟨_,p,k F' m' H' s n⟩⟩
 |_=>cases q
theorem OJ(o:m9 X (compareOp s) g)(x:PE X a (tV X.K l))(e:PE X b (tV X.K fb))(m:behindInMarks s b=false):PT X (.Compare a [s] [b] M) (tQ X.K (bV (aH g l fb))):=
 (zf o x e m).imp' λ_ _ _ h=>BF h
variable{y qb:EB}{w:Ab}
theorem KZ(h:PT X a (tQ X.K y)):PW X (.BoolOp .And [a] M) (tQ X.K y):=Fa h
theorem OH(h:PT X a (tQ X.K y)):PW X (.BoolOp .Or [a] M) (tQ X.K y):=Il h
theorem OK(n:PT X a (tQ X.K y))(f:PW X (.BoolOp .And (b::w) M) (tQ X.K qb)):PW X (.BoolOp .And (a::b::w) M) (tQ X.K (f6 y qb)):=
 (Im n f).imp' λJ H Q z=>by
  obtain⟨F,m,L,S,d,A,r,l,q,k⟩:=z;obtain⟨c,h,e,q⟩:=aj q;refine⟨F,m,L,S,c,h,r,l,e,λF' m' H' s x=>?_⟩;cases c with
  |true=>rw[ac rfl]at q ⊢;exact⟨F',m',L,h,d,A,x,l.mono s,q,λB t G v p=>k B t G (s.trans v) p⟩
  |false=>rw[ae aX]at q ⊢;cases q;exact k F' m' H' s x
theorem Q0(n:PT X a (tQ X.K y))(f:PW X (.BoolOp .Or (b::w) M) (tQ X.K qb)):PW X (.BoolOp .Or (a::b::w) M) (tQ X.K (rn y qb)):=
 (L0 n f).imp' λJ H Q z=>by
  obtain⟨F,m,L,S,d,A,r,l,q,k⟩:=z;obtain⟨c,h,e,q⟩:=aj q;refine⟨F,m,L,S,c,h,r,l,e,λF' m' H' s x=>?_⟩;cases c with
  |false=>rw[ae aX]at q ⊢;exact⟨F',m',L,h,d,A,x,l.mono s,q,λB t G v p=>k B t G (s.trans v) p⟩
  |true=>rw[ac rfl]at q ⊢;cases q;exact k F' m' H' s x
theorem OI(h:PT X a (tQ X.K y)):PT X (.UnaryOp .Not a M) (tQ X.K (mv y)):=
 (Io h).imp' λJ H Q z=>by obtain⟨F,m,L,S,d,A,r,l,q,k⟩:=z;obtain⟨c,n,e,q⟩:=aj q;cases q;exact⟨F,m,L,S,c,A,r,l,e,λF' m' H' s x=>k F' m' H' s x⟩
theorem Li {s} (h:PE X a (tV X.K (vB y))):PE X (.BoolOp s [a] M) (tV X.K (vB y)):=IC h
theorem uE(h:tQ X.K y J H k)(hk:∀b H',k b H'->t (.bl b) H'):tV X.K (vB y) J H t:=by obtain⟨F,m,L,S,d,A,r,l,q,x⟩:=h;exact⟨F,m,L,S,.bl d,A,r,l,by unfold vB;rw[q];rfl,λv F' m' H' s a p=>by rw[show v=.bl d from p];exact hk _ _ (x F' m' H' s a)⟩
theorem zl(h:tV X.K (vB y) J H k):tQ X.K y J H λb H'=>k (.bl b) H':=by obtain⟨F,m,L,S,d,A,r,l,q,x⟩:=h;obtain⟨c,n,e,q⟩:=aj q;cases q;exact⟨F,m,L,S,c,A,r,l,e,λF' m' H' s a=>x _ F' m' H' s a rfl⟩
theorem O3(f:PE X a (tV X.K (vB y)))(t:PE X (.BoolOp .And (b::w) M) (tV X.K (vB qb))):PE X (.BoolOp .And (a::b::w) M) (tV X.K (vB (f6 y qb))):=
 (II f t).imp' λJ H Q h=>by
  obtain⟨F,m,L,S,d,A,r,l,q,k⟩:=zl h;obtain⟨c,x,n,q⟩:=aj q;refine uE (k:=λc I=>if c=true then tV X.K (vB qb) J I Q else Q (.bl false) I) ⟨F,m,L,S,c,x,r,l,n,λF' m' H' s e=>?_⟩ λb H' q=>⟨b,rfl,q⟩;cases c with
  |true=>rw[ac rfl]at q ⊢;exact uE (k:=λb G=>Q (.bl b) G) ⟨F',m',L,x,d,A,e,l.mono s,q,λB p G u v=>k B p G (s.trans u) v⟩ λ_ _ q=>q
  |false=>rw[ae aX]at q ⊢;cases q;exact k F' m' H' s e
theorem Q1(f:PE X a (tV X.K (vB y)))(t:PE X (.BoolOp .Or (b::w) M) (tV X.K (vB qb))):PE X (.BoolOp .Or (a::b::w) M) (tV X.K (vB (rn y qb))):=
 (L6 f t).imp' λJ H Q h=>by
  obtain⟨F,m,L,S,d,A,r,l,q,k⟩:=zl h;obtain⟨c,x,n,q⟩:=aj q;refine uE (k:=λc I=>if c=true then Q (.bl true) I else tV X.K (vB qb) J I Q) ⟨F,m,L,S,c,x,r,l,n,λF' m' H' s e=>?_⟩ λb H' q=>⟨b,rfl,q⟩;cases c with
  |false=>rw[ae aX]at q ⊢;exact uE (k:=λb G=>Q (.bl b) G) ⟨F',m',L,x,d,A,e,l.mono s,q,λB p G u v=>k B p G (s.trans u) v⟩ λ_ _ q=>q
  |true=>rw[ac rfl]at q ⊢;cases q;exact k F' m' H' s e
theorem OQ(x:PE X a (tV X.K (vB y))):PE X (.UnaryOp .Not a M) (tV X.K (vB (mv y))):=
 (ID x).imp' λJ H Q h=>by obtain⟨F,m,L,S,d,A,r,l,q,k⟩:=zl h;obtain⟨c,f,e,q⟩:=aj q;cases q;exact uE (k:=λb H'=>Q (.bl (!b)) H') ⟨F,m,L,S,c,A,r,l,e,λF' m' H' s n=>k F' m' H' s n⟩ λb H' q=>⟨b,rfl,q⟩
theorem uy(h:PE X e (tV X.K l)):PE X e (tV X.K (vB (bV l))):=h.imp' λJ H Q h=>by
 obtain⟨F,m,L,S,d,A,r,a,q,k⟩:=zl h;obtain⟨x,c,n,q⟩:=aj q;cases x with
 |bl b=>cases q;exact⟨F,m,L,S,_,_,r,a,n,λv F' m' H' s f p=>by cases (show v=.bl d from p);exact k F' m' H' s f⟩
 |_=>cases q
theorem Q4(g:PT X c (tQ X.K y))(w:PE X a (tV X.K l))(u:PE X b (tV X.K fb)):PE X (.IfExp c a b M) (tV X.K (qA y l fb)):=
 (uO g w u).imp' λJ H Q z=>by
  obtain⟨F,m,L,S,d,A,r,h,q,k⟩:=z;obtain⟨c,x,p,q⟩:=aj q;refine⟨F,m,L,S,c,x,r,h,p,λF' m' H' s t=>?_⟩;cases c with
  |true=>rw[ac rfl]at q ⊢;exact⟨F',m',L,x,d,A,t,h.mono s,q,λv B e G f n=>k v B e G (s.trans f) n⟩
  |false=>rw[ae aX]at q ⊢;exact⟨F',m',L,x,d,A,t,h.mono s,q,λv B e G f n=>k v B e G (s.trans f) n⟩
variable{fs:kB}
theorem GB:PA X [] (qi X.K af):=i4.imp' λJ H Q h=>by obtain⟨F,m,L,S,d,A,r,l,q,k⟩:=h;cases q;exact k [] F m H .refl r rfl
theorem Hw(t:PE X e (tV X.K l))(p:PA X T (qi X.K fs))(w:starEach (e::T) X.e=(false,eval e X.e)::starEach T X.e:=by rfl):PA X (e::T) (qi X.K (ab l fs)):=
 (eJ t p w).imp' λJ H Q z=>by obtain⟨F,m,L,S,d,A,r,h,q,k⟩:=z;obtain⟨x,a,b,q⟩:=aj q;obtain⟨xs,K,c,q⟩:=aj q;cases q;refine⟨F,m,L,S,x,a,r,h,b,λv N u I s y i=>?_⟩;refine⟨N,u,L,a,xs,A,y,h.mono s,c,λf B g G n o j=>?_⟩;exact k (v::f) B g G (s.trans n) o ⟨v,f,rfl,RP.mono n i,j⟩
noncomputable def few(xs:List Q):Bool:=decide (xs.length≤1000000)
theorem mY{Q:Type}{xs:List Q}(h:few xs=true):xs.length≤sizeLine:=a9 (aG h) (by decide)
@[simp] def aY(a:kB)(L:Lc)(S:aP):tyV:=bA (a L S) λxs h=>if few xs=true then some (.tup xs,h) else none
@[simp] def gg(a:kB)(L:Lc)(S:aP):tyV:=bA (a L S) λxs h=>if few xs=true then some (.lst xs,h) else none
@[simp] def zL(a:kB)(L:Lc)(S:aP):EL:=bA (a L S) λxs h=>if few xs=true then some (.ref h.length,h++[.lst (xs.map .p)]) else none
theorem OM {t} (h:PA X T (qi X.K fs)):PE X (.Tuple T t M) (tV X.K (aY fs)):=(IA h).imp' λJ H Q z=>by
 obtain⟨F,m,L,S,d,A,r,l,q,k⟩:=z;obtain⟨xs,c,e,q⟩:=aj q;split at q
 .rename_i f;cases q;refine⟨F,m,L,S,xs,A,r,l,e,λv N s I b n a=>⟨by rw[<- a.length];exact mY f,λp x=>?_⟩⟩;exact k (.ref p) N s _ (b.trans (cu x).stp) (n.grow (cu x)) (.newTup x a)
 .cases q
theorem OT(h:PA X T (qi X.K fs)):PE X (.List T M) (tV X.K (gg fs)):=(wX h).imp' λJ H Q z=>by
 obtain⟨F,m,L,S,d,A,r,l,q,k⟩:=z;obtain⟨xs,c,e,q⟩:=aj q;split at q
 .rename_i f;cases q;refine⟨F,m,L,S,xs,A,r,l,e,λv N s I b n a=>⟨by rw[<- a.length];exact mY f,λp x=>?_⟩⟩;exact k (.ref p) _ s _ (b.trans (dn x).stp) (n.grow (dn x)) (.newLst x a)
 .cases q
theorem K9(h:PA X T (qi X.K fs)):PE X (.List T M) (tE X.K (zL fs)):=(wX h).imp' λJ H Q z=>by
 obtain⟨F,m,L,S,d,A,r,l,q,k⟩:=z;obtain⟨xs,f,b,q⟩:=aj q;split at q
 .rename_i c;cases q;refine⟨F,m,L,S,xs,f,r,l,b,λv N x I t s e=>⟨by rw[<- e.length];exact mY c,λp a=>?_⟩⟩;have n:Stp N x I N (x++[p]) (cJ I p (.lst v)):=kv a;refine k (.ref p) N (x++[p]) _ (t.trans n) (s.own a ⟨v,ba,d7.ofP (cz.mono n e)⟩) ⟨p,rfl,?_⟩;rw[<- s.len,fS (aq _)];simp
 .cases q
def rC(K:FG)(g:List P->Option P):List V->Hp->VK->Prop:=λxs H Q=>∃F s d,(∀a,F a->H a≠none)/\cz K F H s xs/\g s=some d/\∀v F' H',Grow F H F' H'->RP K F' H' d v->Q v H'
theorem sX(h:tV X.K (au g fs) J H s):qi X.K fs J H λn I=>rC X.K g n I s:=by
 obtain⟨F,m,L,S,d,A,r,l,q,k⟩:=h;obtain⟨xs,w,f,q⟩:=aj q;cases e:g xs with
 |none=>rw[e]at q;cases q
 |some z=>rw[e]at q;cases q;exact⟨F,m,L,S,xs,_,r,l,f,λn N b I t a c=>⟨N,xs,_,a.ft,c,e,λv B G x p=>k v B b G (t.trans x.stp) (a.grow x) p⟩⟩
theorem Bn{x:Str}{p:Pos}{id:String}{g:List P->Option P}(c:ez X (.builtin id) (rC X.K g))(n:Gl X x)(m:X.g x=none)(v:bootBuiltins x=some (.builtin id))(a:PA X (e::T) (qi X.K fs))(k:x≠"__name__":=by decide)(d:(x == ("__debug__":Str))=false:=by decide)
  (s:starEach (e::T) X.e=(false,eval e X.e)::starEach T X.e:=by rfl) (l:(backTo M (starEach T X.e)).any (·.1)=false:=by rfl):PE X (.Call (.Name x p) (e::T) [] M) (tV X.K (au g fs)):=
 (pA c n m v a k d s l).imp' λ_ _ _ h=>sX h
theorem Bm(c:ez X (.type s) (rC X.K g))(k:Gl X x)(m:X.g x=none)(v:bootBuiltins x=some (.type s))(a:PA X (e::T) (qi X.K fs))(f:x≠"__name__":=by decide)(d:(x == ("__debug__":Str))=false:=by decide)
  (n:starEach (e::T) X.e=(false,eval e X.e)::starEach T X.e:=by rfl) (l:(backTo M (starEach T X.e)).any (·.1)=false:=by rfl):PE X (.Call (.Name x p) (e::T) [] M) (tV X.K (au g fs)):=
 (Aj c k m v a f d n l).imp' λ_ _ _ h=>sX h
noncomputable def G0(K:FG)(g:List P->Option P):Sp:=λv H Q _=>rC K g v H Q
theorem Lh(G:FnOk X.p X.w X.K X.g X.b lC k f t ps (G0 X.K g))(i:Room k X.A)(w:Gl X x)(u:X.g x=some (.ref f))(hk:eT X.K (.ref f)=true)(c:Binds X.K t ps [])
  (b:PA X (e::T) (qi X.K fs)) (d:(x == ("__debug__":Str))=false:=by decide) (v:starEach (e::T) X.e=(false,eval e X.e)::starEach T X.e:=by rfl) (a:(backTo M (starEach T X.e)).any (·.1)=false:=by rfl) :
  PE X (.Call (.Name x p) (e::T) [] M) (tV X.K (au g fs)):=
 (Fx G i w u hk c .nil uP b d v a).imp' λJ H Q h=>by obtain⟨F,m,L,S,n,A,r,l,q,k⟩:=sX h;exact⟨F,m,L,S,n,A,r,l,q,λxs F' m' H' s j p=>by show G0 X.K g (xs++[]) H' Q E0;rw[cg];exact k xs F' m' H' s j p⟩
end
section
variable{X:Cx}{a b e:Expr}{z:Stmt}{w bs cs:List Stmt}{f g:ES}{fe:EE}{y:EB}{M:Pos}
theorem KP:mD X [] (f_ X.K cM):=Fc.imp' λD J H h=>by obtain⟨F,m,L,S,f,x,A,r,l,q,k⟩:=h;cases q;exact k J F m H .refl r l
theorem GL(y:PS X z (f_ X.K f))(o:mD X w (f_ X.K g)):mD X (z::w) (f_ X.K (ah f g)):=(B4 y o).imp' λD J H K=>by
 obtain⟨F,m,L,S,u,v,A,r,l,q,k⟩:=K;cases e:f L S with
 |none=>rw[show ah f g L S=none by unfold ah;rw[e]]at q;cases q
 |some x=>
  obtain⟨i,t,p⟩:=x;cases i with
  |nx=>
   have s:g t p=some (u,v,A):=by have:=q;unfold ah at this;rw[e]at this;exact this
   exact⟨F,m,L,S,.nx,t,p,r,l,e,λc N a I b n h=>⟨N,a,t,p,u,v,A,n,h,s,λj B C G M E P=>k j B C G (b.trans M) E P⟩⟩
  |rt d=>
   have s:some (Fl.rt d,t,p)=some (u,v,A):=by have:=q;unfold ah at this;rw[e]at this;exact this
   cases s;exact⟨F,m,L,S,_,_,_,r,l,e,λc N a I b n h=>k c N a I b n h⟩
  |bk=>
   have s:some (Fl.bk,t,p)=some (u,v,A):=by have:=q;unfold ah at this;rw[e]at this;exact this
   cases s;exact⟨F,m,L,S,_,_,_,r,l,e,λc N a I b n h=>k c N a I b n h⟩
  |ct=>
   have s:some (Fl.ct,t,p)=some (u,v,A):=by have:=q;unfold ah at this;rw[e]at this;exact this
   cases s;exact⟨F,m,L,S,_,_,_,r,l,e,λc N a I b n h=>k c N a I b n h⟩
theorem KO(h:PS X z (f_ X.K f)):mD X [z] (f_ X.K f):=Fb h
theorem OC(h:PE X e (tE X.K fe)):PS X (.Return (some e) M) (f_ X.K (aV fe)):=(Iq h).imp' λD J H z=>by obtain⟨F,m,L,S,b,n,A,r,l,q,k⟩:=z;obtain⟨d,f,x,q⟩:=aj q;cases q;exact⟨F,m,L,S,d,A,r,l,x,λv F' m' H' s a p=>k J F' m' H' s a (l.mono s) v p⟩
theorem KQ(h:PE X e (tE X.K fe))(a:swapsWith e none M.line X.e=pure false:=by rfl):PS X (.Expr e M) (f_ X.K (aR fe)):=(Fg h a).imp' λD J H z=>by obtain⟨F,m,L,S,c,f,A,r,l,q,k⟩:=z;obtain⟨d,b,x,q⟩:=aj q;cases q;exact⟨F,m,L,S,d,A,r,l,x,λv F' m' H' s n p=>k J F' m' H' s n (l.mono s)⟩
theorem Ez(i:Nat)(N:X.N.Nodup)(h:PE X e (tE X.K fe))(n:X.N[i]? = some x:=by rfl)(c:Loc X.e.scope x:=by first|exact Or.inl rfl|exact Or.inr rfl)(b:swapsWith e (some (.Name x t)) M.line X.e=pure false:=by rfl)
  (f:X.fn x=true\/X.e.scope.names.lookup x=some .local:=by first|exact .inl rfl|exact .inr rfl|assumption):PS X (.Assign [.Name x t] e M) (f_ X.K (aO i fe)):=
 (Ip N n c h b f).imp' λD J H z=>by obtain⟨F,m,L,S,j,u,A,r,l,q,k⟩:=z;obtain⟨d,g,a,q⟩:=aj q;cases q;exact⟨F,m,L,S,d,A,r,l,a,λv F' m' H' s w p=>k (J.set i (some v)) F' m' H' s w ((l.mono s).set p i)⟩
theorem QY(i:PT X c (tQ X.K y))(w:mD X bs (f_ X.K f))(u:mD X cs (f_ X.K g)):PS X (.If c bs cs M) (f_ X.K (bI y f g)):=(L4 i w u).imp' λD J H z=>by
 obtain⟨F,m,L,S,p,t,A,r,l,q,k⟩:=z;obtain⟨c,x,d,q⟩:=aj q;refine⟨F,m,L,S,c,x,r,l,d,λF' m' H' s v=>?_⟩;cases c with
 |true=>rw[ac rfl]at q ⊢;exact⟨F',m',L,x,p,t,A,v,l.mono s,q,λh B e G b n a=>k h B e G (s.trans b) n a⟩
 |false=>rw[ae aX]at q ⊢;exact⟨F',m',L,x,p,t,A,v,l.mono s,q,λh B e G b n a=>k h B e G (s.trans b) n a⟩
theorem HC:PS X z (f_ X.K bH):=uM.imp' λD J H h=>by obtain⟨F,m,L,S,f,x,A,r,l,q,k⟩:=h;cases q
theorem QZ:PS X (.Continue M) (f_ X.K NY):=uN.imp' λD J H h=>by obtain⟨F,m,L,S,f,x,A,r,l,q,k⟩:=h;cases q;exact k J F m H .refl r l
inductive gTI(K:FG)(g:kM)(x:V)(J:L2.St)(H:Hp)(Q:L2.St->Hp->Prop):Prop
 |mk (F:Aa) (m:List Addr) (L:Lc) (v:P) (L':Lc) (h0_:RL K F H m J L) (h1_:RP K F H v x) (h2_:g v L=some L') (h3_:∀J',RL K F H m J' L'->Q J' H):gTI K g x J H Q
noncomputable def gT(K:FG)(g:kM):TG:=λx J H Q=>gTI K g x J H Q
theorem _root_.L2.PG.imp'(h:PG X tg t)(i:∀v J H Q,k v J H Q->t v J H Q):PG X tg k:=λp s J H v u Q I r q=>h p s J H v u Q I r (i v J H Q q)
theorem JD(i:Nat)(h:X.N.Nodup)(a:X.N[i]? = some x:=by rfl)(e:Loc X.e.scope x:=by first|exact Or.inl rfl|exact Or.inr rfl)(f:X.fn x=true\/X.e.scope.names.lookup x=some .local:=by first|exact .inl rfl|exact .inr rfl|assumption) :
  PG X (.Name x M) (gT X.K (cF i)):=(Fp h a e f).imp' λv J H Q z=>by
 obtain⟨F,m,L,d,s,l,p,q,k⟩:=z;cases q;exact k _ (l.set (d:=.p d) p i)
def Hy(K:FG)(a:It)(s:List P)(F:Aa)(m:List Addr)(H:Hp):Prop:=∀B n G,Stp F m H B n G ->
 (∀(i:Nat) v,s[i]? = some v->a.go i G/\∀x h,a.yld i G x h->∃e,Grow B G e h/\RP K e h v x)/\a.stop s.length G
inductive tII(K:FG)(f:kB)(J:L2.St)(H:Hp)(R:It->Hp->Prop):Prop
 |mk (F:Aa) (m:List Addr) (L:Lc) (S:aP) (vs:List P) (S':aP) (h0_:Rel K F H m S) (h1_:RL K F H m J L) (h2_:f L S=some (vs,S')) (h3_:∀J9 F' m' H',Stp F m H F' m' H'->Rel K F' H' m' S'->Hy K J9 vs F' m' H'->R J9 H'):tII K f J H R
noncomputable def tI(K:FG)(f:kB):TI:=λJ H R=>tII K f J H R
theorem OD{tg iter:Expr}{fi:kB}{g:kM}{b:List Stmt}{fb:ES}(hp:PassesOwn (model X.p X.w) X.A X.e X.xe)(hc:X.c=true)(hi:PI X tg iter (tI X.K fi))(hg:PG X tg (gT X.K g))(hb:mD X b (f_ X.K fb))
  (hs:∀x,foldedSetIterable iter X.e x=pure x:=by intro _;rfl):PS X (.For tg iter b [] M) (f_ X.K (tu fi g fb)):=
 (Ir hp hc hi hg hb hs).imp' λD J H hz=>by
  obtain⟨F,m,L,S,fl,L',A,r,l,q,k⟩:=hz;obtain⟨v,S1,e1,q⟩:=aj q;refine⟨F,m,L,S,v,S1,r,l,e1,fun J9 N u I P r1 it=>?_⟩;refine⟨fun i n R G=>n=v.length-i/\i≤v.length/\∃B a L2 s,Stp N u I B a G/\Rel X.K B G a s/\RL X.K B G a R L2/\dI g fb (v.drop i) L2 s=some (fl,L',A),
   ⟨v.length,rfl,bJ _,N,u,L,S1,.refl,r1,l.mono P,by rw[kt];exact q⟩,?_⟩
  rintro i n R G ⟨rfl,hi,B,a,L2,s,s2,r2,l2,h⟩;obtain⟨go,o⟩:=it B a G s2;by_cases t:i < v.length
  .right;have hv:v[i]? = some v[i]:=by simp[t]
   rw[lS t]at h;obtain⟨hgo,hy⟩:=go i _ hv;refine⟨hgo,λJ3 f=>∃n',n' < v.length-i/\(n'=v.length-(i+1)/\i+1≤v.length/\∃B a L2 s,Stp N u I B a f/\Rel X.K B f a s/\RL X.K B f a J3 L2/\dI g fb (v.drop (i+1)) L2 s=some (fl,L',A)),λ_ _ z=>z,λx f y=>?_⟩;obtain⟨Q,gr,p3⟩:=hy x f y;unfold dI at h;cases eg:g v[i] L2 with
   |none=>rw[eg]at h;cases h
   |some T=>
    rw[eg]at h;dsimp only at h;refine⟨Q,a,L2,v[i],T,l2.mono gr.stp,p3,eg,λJ3 l3=>?_⟩;have C:Stp N u I Q a f:=s2.trans gr.stp;have r3:=r2.grow gr;cases Z:fb T s with
    |none=>rw[Z]at h;cases h
    |some z=>
     obtain⟨c,V,W⟩:=z;rw[Z]at h;refine⟨Q,a,T,s,c,V,W,r3,l3,Z,λJ4 p j H4 E K w=>?_⟩;cases c with
     |nx=>exact⟨v.length-(i+1),by lia,rfl,t,p,j,V,W,C.trans E,K,w,h⟩
     |ct=>exact⟨v.length-(i+1),by lia,rfl,t,p,j,V,W,C.trans E,K,w,h⟩
     |bk=>cases h;exact k J4 p j H4 (P.trans (C.trans E)) K w
     |rt d=>cases h;exact k J4 p j H4 (P.trans (C.trans E)) K w
  .left;have e:i=v.length:=by lia
   subst e;rw[lN]at h;cases h;exact⟨o,k R B a G (P.trans s2) r2 l2⟩
theorem HB(hp:PassesOwn (model X.p X.w) X.A X.e X.xe)(hc:PT X c (tQ X.K y))(hb:mD X t (f_ X.K fb)):PS X (.While c t [] M) (f_ X.K (dP n y fb)):=
 (B5 hp hc hb).imp' λD J H hz=>by
  obtain⟨F,m,L,S,Q,N,A,r,l,q,k⟩:=hz;refine⟨λn j G=>∃B x L2 a,Stp F m H B x G/\Rel X.K B G x a/\RL X.K B G x j L2/\bh y fb n L2 a=some (Q,N,A),⟨n,F,m,L,S,.refl,r,l,q⟩,?_⟩;rintro n j G ⟨B,x,L2,a,b,r2,E,T⟩;cases n with
  |zero=>cases T
  |succ n=>
   obtain⟨c,K,Z,h⟩:=aj (show bA (y L2 a) _=_ from T);refine⟨B,x,L2,a,c,K,r2,E,Z,λI R W s V=>?_⟩;cases c with
   |false=>rw[ae aX]at h ⊢;cases h;exact k j I R W (b.trans s) V (E.mono s)
   |true=>
    rw[ac rfl]at h ⊢;cases C:fb L2 K with
    |none=>rw[C]at h;cases h
    |some z=>
     obtain⟨f,o,P⟩:=z;rw[C]at h;refine⟨λv e=>∃m',m' < n+1/\∃B x L2 a,Stp F m H B x e/\Rel X.K B e x a/\RL X.K B e x v L2/\bh y fb m' L2 a=some (Q,N,A),λ_ _ z=>z,I,R,L2,K,f,o,P,V,E.mono s,C,λv p u e i g w=>?_⟩;cases f with
     |nx=>exact⟨n,d0 _,p,u,o,P,b.trans (s.trans i),g,w,h⟩
     |ct=>exact⟨n,d0 _,p,u,o,P,b.trans (s.trans i),g,w,h⟩
     |bk=>cases h;exact k v p u e (b.trans (s.trans i)) g w
     |rt d=>cases h;exact k v p u e (b.trans (s.trans i)) g w
end
theorem Stp.toGrow(s:Stp F [] H F' m' H')(f:∀a,F' a->H' a≠none):Grow F H F' H':=
 ⟨fun b o h=>s.oth b o h (by simp),s.frz,fun b h=>by
  rcases s.nf b h with q|q|q
  .exact .inl q
  .exact .inr ⟨q,f b h⟩
  .simp at q⟩
theorem kP{Q:Prop}{β:Type}{d:β}(h:(none:Option β)=some d):Q:=nomatch h
noncomputable def eO(n:Nat):Bool:=decide (n≤1000000)
variable{n:Nat}
theorem dF(h:eO n=true):n≤sizeLine:=a9 (aG h) (by decide)
section
variable{X:Cx}
def mo:P->P->Option P
 | .int i,.int j=>some (.int (i+j))
 | .str x,.str y=>if eO (x.length+y.length)=true then some (.str (x++y)) else none
 | .tup xs,.tup s=>if (!xs.isEmpty && eO (xs.length+s.length))=true then some (.tup (xs++s)) else none
 | .lst xs,.lst s=>if eO (xs.length+s.length)=true then some (.lst (xs++s)) else none
 |_,_=>none
theorem Mr:m9 X (binaryOp .Add) mo:=by
 intro n s J H x y v u Q I l o h;obtain⟨F,D,t,d,G,w,g,q,k⟩:=h;cases D with
 |int i=>
  cases t with
  |int j=>cases q;cases (show x=.int i from w);cases (show y=.int j from g);exact IS n s J H _ _ v u Q I l o ⟨i,j,rfl,rfl,k _ F H .refl rfl⟩
  |_=>exact kP q
 |str i=>
  cases t with
  |str j=>
   simp only[mo]at q;split at q
   .rename_i c;cases q;cases (show x=.str i from w);cases (show y=.str j from g);exact wY n s J H _ _ v u Q I l o ⟨i,j,rfl,rfl,dF c,k _ F H .refl rfl⟩
   .cases q
  |_=>exact kP q
 |tup A=>
  cases t with
  |tup T=>
   simp only[mo]at q;split at q
   .rename_i c;rw[aE]at c;cases q;obtain⟨a,xs,rfl,S,r⟩:=w;obtain⟨b,P,rfl,K,m⟩:=g;have B:=r.length;have C:=m.length;have E:xs≠[]:=λz=>by
     subst z;have:A=[]:=iT B;subst this;simp at c
    refine FD n s J H _ _ v u Q I l o ⟨a,b,xs,P,rfl,rfl,S.sq,K.sq,E,by rw[<- B,<- C];exact dF c.2,λz=>?_,λ_ p f=>?_⟩
    .subst z;have e:T=[]:=iT C;subst e;refine k _ F H .refl ?_;rw[cg];exact⟨a,xs,rfl,S,r⟩
    .exact k _ F _ (cu f) (.newTup f (r.append m))
   .cases q
  |_=>exact kP q
 |lst A=>
  cases t with
  |lst T=>
   simp only[mo]at q;split at q
   .rename_i c;cases q;obtain⟨a,xs,rfl,S,r⟩:=w;obtain⟨b,P,rfl,K,m⟩:=g;exact IR n s J H _ _ v u Q I l o ⟨a,b,xs,P,rfl,rfl,S.2,K.2,by rw[<- r.length,<- m.length];exact dF c,λp f=>k _ _ _ (dn f) (.newLst f (r.append m))⟩
   .cases q
  |_=>exact kP q
 |_=>exact kP q
noncomputable def Dp(c:Int->Int->Bool)(g:Int->Int->P):P->P->Option P
 | .int i,.int j=>if c i j=true then some (g i j) else none
 |_,_=>none
@[simp] theorem Ge(c:Int->Int->Bool)(g:Int->Int->P)(i j:Int):Dp c g (.int i) (.int j)=if c i j=true then some (g i j) else none:=rfl
theorem tH{f:Value->Value->Sem Value}{C:Int->Int->Prop}{a:Int->Int->V}{c:Int->Int->Bool}{g:Int->Int->P}(o:iC X f (rI C a))(b:∀i j,c i j=true->C i j)(m:∀K F H i j,RP K F H (g i j) (a i j)):m9 X f (Dp c g):=by
 intro p s J H x y v u Q I l z h;obtain⟨F,e,n,d,S,t,w,q,k⟩:=h;cases e with
 |int i=>
  cases n with
  |int j=>
   rw[Ge]at q;split at q
   .rename_i r;cases q;cases (show x=.int i from t);cases (show y=.int j from w);exact o p s J H _ _ v u Q I l z ⟨i,j,rfl,rfl,b i j r,k _ F H .refl (m _ _ _ _ _)⟩
   .cases q
  |_=>exact kP q
 |_=>exact kP q
theorem pu(h:iC X f (E9 k)):iC X f (rI (λ_ _=>True) k):=λp s J H x y v u Q I r n ⟨i,j,e,a,_,q⟩=>h p s J H x y v u Q I r n ⟨i,j,e,a,q⟩
noncomputable abbrev Bl:Int->Int->Bool:=λ_ _=>true
abbrev ug:=Dp Bl λi j=>.int (i-j)
theorem Me:m9 X (binaryOp .Sub) ug:=tH (pu IL) (λ_ _ _=>trivial) λ_ _ _ _ _=>rfl
noncomputable abbrev Iv:Int->Int->Bool:=λ_ j=>decide (0 < j) && decide (j < 1152921504606846976)
theorem Ci:iC X (binaryOp .FloorDiv) (rI (λ_ j=>0 < j/\j < 1152921504606846976) λi j=>.int (i / j)):=Mo λi j _ _ _ _ _ h q=>by have a:(0:Int) < j:=h.1;have e:j < 1152921504606846976:=h.2;have x:j.natAbs.log2 < 9000:=be ((og (by lia)).mpr (show j.natAbs < 2 ^ 60 by lia)) (by decide);exact floordiv_int (by lia) (by rw[xT i (by lia)];exact q) (.inl (PyProof.noPylong_of_log2 x))
abbrev lx:=Dp Iv λi j=>.int (i / j)
theorem FE:m9 X (binaryOp .FloorDiv) lx:=tH Ci (λi j h=>by rw[aE]at h;exact⟨aG h.1,aG h.2⟩) λ_ _ _ _ _=>rfl
abbrev gW:=Dp (λ_ j=>decide (0 < j)) λi j=>.int (i % j)
theorem Mj:m9 X (binaryOp .Mod) gW:=tH IQ (λi j h=>aG h) λ_ _ _ _ _=>rfl
abbrev Gd:=Dp (λi j=>decide (0≤j) && decide (j≤1000000) && decide (i.natAbs < 2 ^ 64)) λi j=>.int (i ^ j.toNat)
theorem Mg:m9 X (binaryOp .Pow) Gd:=tH IP (λi j h=>by simp only[aE]at h;exact⟨aG h.1.1,aG h.1.2,aG h.2⟩) λ_ _ _ _ _=>rfl
abbrev vv:=Dp Bl λi j=>.bl (decide (i < j))
theorem PM:m9 X (compareOp .Lt) vv:=tH (pu L_) (λ_ _ _=>trivial) λ_ _ _ _ _=>rfl
abbrev Oj:=Dp Bl λi j=>.bl (decide (i≤j))
theorem PP:m9 X (compareOp .LtE) Oj:=tH (pu Ma) (λ_ _ _=>trivial) λ_ _ _ _ _=>rfl
abbrev DX:=Dp Bl λi j=>.bl (decide (j < i))
theorem PQ:m9 X (compareOp .Gt) DX:=tH (pu Mc) (λ_ _ _=>trivial) λ_ _ _ _ _=>rfl
abbrev Hq:=Dp Bl λi j=>.bl (decide (j≤i))
theorem PR:m9 X (compareOp .GtE) Hq:=tH (pu Md) (λ_ _ _=>trivial) λ_ _ _ _ _=>rfl
noncomputable def hL(i j:Int):Bool:=decide (i.natAbs.log2+j.natAbs.log2 < 100000000)
theorem Cv{i j:Int}(h:hL i j=true):IntMulOk i j:=by
 have a:i.natAbs.log2+j.natAbs.log2 < 100000000:=aG h;have b:∀x:Int,Builtin.Int.intBits x≤x.natAbs.log2+1:=λx=>by
  unfold Builtin.Int.intBits;split
  .exact bJ _
  .exact aq _
 exact IntMulOk.of_le (b i) (b j) (by lia)
theorem FC:iC X (binaryOp .Mult) (rI (λi j=>IntMulOk i j) λi j=>.int (i * j)):=Mo λ_ _ _ _ _ _ _ h q=>mul_int q h
noncomputable def gh(x:Str)(n:Nat):Str:=⟨(List.replicate n x.cps).foldl (·++·) #[]⟩
theorem wM(x:Str):gh x 1=x:=by unfold gh;cases x;simp
theorem AA(n:Nat):(List.replicate n (#[]:Array Nat)).foldl (·++·) #[]=#[]:=by
 induction n with
 |zero=>rfl
 |succ n i=>rw[b4,hE];simpa using i
theorem sY(x:Str)(n:Nat)(h:x.length=0):gh x n=x:=by have e:x.cps=#[]:=Array.eq_empty_of_size_eq_zero (by simpa[kg] using h);unfold gh;cases x;simp only at e;subst e;rw[AA]
theorem xb(a:Array Nat)(n:Nat):∀b:Array Nat,((List.replicate n a).foldl (·++·) b).size=b.size+n * a.size:=by
 induction n with
 |zero=>intro b;simp
 |succ n i=>intro b;rw[b4,hE,i,yC,r9];lia
theorem qj(x:Str)(n:Nat):(gh x n).length=n * x.length:=by unfold gh kg;simp only;rw[xb];simp
def vu:P->P->Option P
 | .int i,.int j=>if hL i j=true then some (.int (i * j)) else none
 | .str x,.int n=>if (eO (n.toNat * x.length) && decide (n.natAbs < 1000000))=true then some (.str (gh x n.toNat)) else none
 | .lst xs,.int n=>if (eO (xs.length * n.toNat) && decide (n.natAbs < 1000000))=true then some (.lst (List.replicate n.toNat xs).flatten) else none
 |_,_=>none
theorem cz.rep(h:cz K F H s xs):∀k:Nat,cz K F H (List.replicate k s).flatten (List.replicate k xs).flatten
 |0=>rfl
 |k+1=>by rw[b4,b4,e6,e6];exact h.append (cz.rep h k)
theorem Mi:m9 X (binaryOp .Mult) vu:=by
 intro r s J H x y v u Q I o S h;obtain⟨F,B,w,d,M,g,l,q,k⟩:=h;cases B with
 |int i=>
  cases w with
  |int j=>
   simp only[vu]at q;split at q
   .rename_i c;cases q;cases (show x=.int i from g);cases (show y=.int j from l);exact FC r s J H _ _ v u Q I o S ⟨i,j,rfl,rfl,Cv c,k _ F H .refl rfl⟩
   .cases q
  |_=>exact kP q
 |str i=>
  cases w with
  |int n=>
   simp only[vu]at q;split at q
   .rename_i c;rw[aE]at c;have E:=aG c.2;have N:n.toNat * i.length≤1000000:=aG c.1;have T:=li;have V:(1000000:Nat)≤sizeLine:=by decide
    cases q;cases (show x=.str i from g);cases (show y=.int n from l);obtain⟨t,rfl⟩:=o;obtain⟨W,rfl⟩:=S;refine PySem.P.mul_str (by have C:decide (n < -(2 ^ 63:Int))=false:=a7 (by lia);have D:decide (n ≥ 2 ^ 63)=false:=a7 (by lia);rw[C,D];rfl) (λa b=>?_) (λa b=>?_) ?_
    .intro z;have R:((i.length:Nat):Int)≤(2 ^ 63-1) / n:=by
      refine(Int.le_ediv_iff_mul_le (by lia)).mpr ?_;have e:((i.length:Nat):Int) * n=((n.toNat * i.length:Nat):Int):=by rw[xP,xS (by lia),Int.mul_comm]
      rw[e];lia
     lia
    .unfold Builtin.Str.tooLong;first
      |exact a7 (by rw[iM];lia)
      |(rw[iM];exact a7 (by lia))
    .have f:Q (.str (gh i n.toNat)) H:=k _ F H .refl rfl;by_cases K:n < 1
     .rw [ac K];have e:n.toNat=0:=by lia
      rw[e]at f;exact⟨by decide,⟨.str Str.empty,H,I.tok _,⟨_,rfl⟩,f⟩⟩
     .rw [ae K];by_cases m:(n == 1 ||i.length == 0)=true
      .rw [ac m];rw[yB]at m;have e:gh i n.toNat=i:=by
        rcases m with m|m
        .have:n=1:=by simpa using m
         subst this;exact wM i
        .exact sY i _ (by simpa using m)
       rw[e]at f;exact⟨.str i,H,I,⟨_,rfl⟩,f⟩
      .rw [ae m];refine⟨?_,⟨.str (gh i n.toNat),H,I.tok _,⟨_,rfl⟩,f⟩⟩;have:=qj i n.toNat
       unfold gh at this;rw[this];lia
   .cases q
  |_=>exact kP q
 |lst L=>
  cases w with
  |int n=>
   simp only[vu]at q;split at q
   .rename_i c;rw[aE]at c;have E:=aG c.2;cases q;obtain⟨a,xs,rfl,G,A⟩:=g;cases (show y=.int n from l);exact IN r s J H _ _ v u Q I o S ⟨a,n,xs,rfl,rfl,G.2,by lia,by lia,by rw[<- A.length];exact dF c.1,λp P=>k _ _ _ (dn P) (.newLst P (A.rep _))⟩
   .cases q
  |_=>exact kP q
 |_=>exact kP q
noncomputable def QN:P->P->Option P
 | .int i,.int j=>some (.bl (decide (i=j)))
 | .str x,.str y=>some (.bl (decide (x=y)))
 | .bl a,.bl b=>some (.bl (decide (a=b)))
 |_,_=>none
noncomputable def Ho:P->P->Option P
 | .int i,.int j=>some (.bl (!decide (i=j)))
 | .str x,.str y=>some (.bl (!decide (x=y)))
 | .bl a,.bl b=>some (.bl (!decide (a=b)))
 |_,_=>none
theorem np{i j:Int}:decide (V.int i=V.int j)=decide (i=j):=by
 by_cases h:i=j
 .subst h;simp
 .rw [a7 h,a7 λz=>h (V.int.inj z)]
theorem nl:decide (V.str i=V.str s)=decide (i=s):=by
 by_cases h:i=s
 .subst h;simp
 .rw [a7 h,a7 λz=>h (V.str.inj z)]
theorem pU:decide (V.bl i=V.bl s)=decide (i=s):=by
 by_cases h:i=s
 .subst h;simp
 .rw [a7 h,a7 λz=>h (V.bl.inj z)]
theorem PU:m9 X (compareOp .Eq) QN:=by
 intro p s J H x y v u Q I r f h;obtain⟨F,b,a,d,t,e,n,q,k⟩:=h;cases b with
 |int i=>
  cases a with
  |int j=>cases q;cases (show x=.int i from e);cases (show y=.int j from n);exact Cj p s J H _ _ v u Q I r f ⟨rfl,by rw[np];exact k _ F H .refl rfl⟩
  |_=>exact kP q
 |str i=>
  cases a with
  |str j=>cases q;cases (show x=.str i from e);cases (show y=.str j from n);exact Cj p s J H _ _ v u Q I r f ⟨rfl,by rw[nl];exact k _ F H .refl rfl⟩
  |_=>exact kP q
 |bl i=>
  cases a with
  |bl j=>cases q;cases (show x=.bl i from e);cases (show y=.bl j from n);exact Cj p s J H _ _ v u Q I r f ⟨rfl,by rw[pU];exact k _ F H .refl rfl⟩
  |_=>exact kP q
 |_=>exact kP q
theorem PL:m9 X (compareOp .NotEq) Ho:=by
 intro p s J H x y v u Q I r f h;obtain⟨F,b,a,d,t,e,n,q,k⟩:=h;cases b with
 |int i=>
  cases a with
  |int j=>cases q;cases (show x=.int i from e);cases (show y=.int j from n);exact Ch p s J H _ _ v u Q I r f ⟨rfl,by rw[np];exact k _ F H .refl rfl⟩
  |_=>exact kP q
 |str i=>
  cases a with
  |str j=>cases q;cases (show x=.str i from e);cases (show y=.str j from n);exact Ch p s J H _ _ v u Q I r f ⟨rfl,by rw[nl];exact k _ F H .refl rfl⟩
  |_=>exact kP q
 |bl i=>
  cases a with
  |bl j=>cases q;cases (show x=.bl i from e);cases (show y=.bl j from n);exact Ch p s J H _ _ v u Q I r f ⟨rfl,by rw[pU];exact k _ F H .refl rfl⟩
  |_=>exact kP q
 |_=>exact kP q
theorem z3{Q β:Type}{xs:List Q}{s:List β}{i:Int}{d:Q}(l:xs.length=s.length)(h:L2.atI xs i=some d):∃j:Nat,xs[j]? = some d/\∀y,s[j]? = some y->L2.atI s i=some y:=by
 unfold L2.atI at h ⊢;rw[l]at h;cases e:Hi s.length i with
 |none=>rw[e]at h;cases h
 |some j=>rw[e]at h;exact⟨j,h,λy x=>x⟩
theorem cz.atI{K:FG}{F:Aa}{H:Hp}{s:List P}{xs:List V}{i:Int}{d:P}(r:cz K F H s xs)(h:L2.atI s i=some d):∃x,L2.atI xs i=some x/\RP K F H d x:=by obtain⟨j,a,n⟩:=z3 r.length h;obtain⟨x,e,p⟩:=r.get a;exact⟨x,n x e,p⟩
theorem d7.atI{K:FG}{F:Aa}{H:Hp}{m:List Addr}{s:List D}{xs:List V}{i:Int}{d:D}(r:d7 K F H m s xs)(h:L2.atI s i=some d):∃x,L2.atI xs i=some x/\RD K F H m d x:=by obtain⟨j,a,n⟩:=z3 r.length h;obtain⟨x,e,p⟩:=r.get a;exact⟨x,n x e,p⟩
noncomputable def fE(k:d8):List d8->List Q->Option Q
 |h::s,v::x=>if h=k then some v else fE k s x
 |_,_=>none
noncomputable def kT:P->Option d8
 | .int i=>some (.inl i)
 | .str x=>some (.inr x)
 |_=>none
def bX:P->P->Option P
 | .tup xs,.int i=>L2.atI xs i
 | .lst xs,.int i=>L2.atI xs i
 | .ro xs,.int i=>L2.atI xs i
 | .str x,.int i=>if eO x.length=true then (L2.atI x.cps.toList i).map λc=>.str ⟨#[c]⟩ else none
 | .dct s v,y=>match kT y with
  |some k=>fE k s v
  |none=>none
 |_,_=>none
theorem mN:∀{s:List (d8×V)}{a:List P}{d:P},cz K F H a (s.map (·.2))->fE k (s.map (·.1)) a=some d->∃v,iV s k=some v/\RP K F H d v
 | [],a,d,r,h=>by cases a<;>exact kP h
 |(n,v)::s,[],d,r,h=>kP h
 |(n,v)::s,q::a,d,r,h=>by
  obtain⟨x,u,e,p,f⟩:=r;rw[a6]at e;injection e with b c;simp only[a6,fE]at h;by_cases hk:n=k
  .rw [ac hk]at h;cases h;exact⟨v,iD (p:=(n,v)) hk,by rw[show v=x from b];exact p⟩
  .rw [ae hk]at h;rw[<- c]at f;obtain⟨w,m,t⟩:=mN f h;exact⟨w,by rw[gf (p:=(n,v)) hk];exact m,t⟩
theorem ma(h:kT s=some k)(r:RP K F H s v):v=kV k:=by
 cases s with
 |int i=>cases h;exact r
 |str x=>cases h;exact r
 |_=>exact kP h
theorem CM(m:X.A.units+1 < cLine):DP X (λx y H Q=>∃a v,x=.ref a/\nS H a y (some v)/\(∃k,H a=some (.dK k))/\Q v H):=by
 intro f l p s J H x y v u Q I t d h c;obtain⟨a,w,rfl,g,⟨k,hk⟩,q⟩:=h;cases t;have n:∃o,s.heap.get? a=some o/\o.ExactDict:=by obtain⟨_,_,_,_,o,_,_,e,n,_⟩:=I.h a _ hk;exact⟨o,e,n⟩
 obtain⟨o,e,n⟩:=n;exact nZ ⟨o,e,n.1⟩ yO.lookup (AB m I g d λj i b r=>⟨w,H,b,r,q⟩) c
theorem QH(M:X.A.units+1 < cLine):DP X (rP X.K bX):=by
 intro f n b s J H x y v u Q I S K h g;obtain⟨F,D,t,d,R,j,o,q,k⟩:=h;cases D with
 |tup m=>
  cases t with
  |int i=>obtain⟨a,xs,rfl,P,r⟩:=j;cases (show y=.int i from o);obtain⟨z,e,p⟩:=r.atI (show L2.atI m i=some d from q);exact CL f n b s J H _ _ v u Q I S K ⟨a,xs,i,z,rfl,rfl,P.sq,e,k z F H .refl p⟩ g
  |_=>exact kP q
 |lst m=>
  cases t with
  |int i=>obtain⟨a,xs,rfl,P,r⟩:=j;cases (show y=.int i from o);obtain⟨z,e,p⟩:=r.atI (show L2.atI m i=some d from q);exact tS f n b s J H _ _ v u Q I S K ⟨a,xs,i,z,rfl,rfl,P.sq,e,k z F H .refl p⟩ g
  |_=>exact kP q
 |ro m=>
  cases t with
  |int i=>obtain⟨a,xs,rfl,P,r⟩:=j;cases (show y=.int i from o);obtain⟨z,e,p⟩:=r.atI (show L2.atI m i=some d from q);exact tS f n b s J H _ _ v u Q I S K ⟨a,xs,i,z,rfl,rfl,P.sq,e,k z F H .refl p⟩ g
  |_=>exact kP q
 |str z=>
  cases t with
  |int i=>
   cases (show x=.str z from j);cases (show y=.int i from o);simp only[bX]at q;split at q
   .rename_i L;cases e:L2.atI z.cps.toList i with
    |none=>rw[e]at q;exact kP q
    |some c=>rw[e]at q;cases q;exact Js f n b s J H _ _ v u Q I S K ⟨z,i,c,rfl,rfl,dF L,e,k _ F H .refl rfl⟩ g
   .cases q
  |_=>exact kP q
 |dct T m=>
  obtain⟨a,C,rfl,l,hk,G,r⟩:=j;simp only[bX]at q;cases A:kT t with
  |none=>rw[A]at q;exact kP q
  |some N=>rw[A]at q;dsimp only at q;subst G;obtain⟨w,E,p⟩:=mN r q;have B:=ma A o;subst B;exact CM M f n b s J H _ _ v u Q I S K ⟨a,w,rfl,by rw[<- E];exact nS.k hk,⟨C,hk⟩,k w F H .refl p⟩ g
 |_=>exact kP q
theorem Q3{a b:Expr}{l fb:EV}{M:Pos}(u:X.A.units+1 < cLine)(x:PE X a (tV X.K l))(e:PE X b (tV X.K fb))(s:mB b):PE X (.Subscript a b M) (tV X.K (aH bX l fb)):=
 (Ca (QH u) x e s).imp' λ_ _ _ h=>ph h
end
section
variable{X:Cx}
theorem o8:∀{s:List (d8×V)}{a:List D}{d:D},d7 K F H m a (s.map (·.2))->fE k (s.map (·.1)) a=some d->∃v,iV s k=some v/\RD K F H m d v
 | [],a,d,r,h=>by cases a<;>exact kP h
 |(n,v)::s,[],d,r,h=>kP h
 |(n,v)::s,u::a,d,r,h=>by
  obtain⟨x,g,e,p,f⟩:=r;rw[a6]at e;injection e with b c;simp only[a6,fE]at h;by_cases hk:n=k
  .rw [ac hk]at h;cases h;exact⟨v,iD (p:=(n,v)) hk,by rw[show v=x from b];exact p⟩
  .rw [ae hk]at h;rw[<- c]at f;obtain⟨w,t,q⟩:=o8 f h;exact⟨w,by rw[gf (p:=(n,v)) hk];exact t,q⟩
@[simp] def qX(r:EE)(k:EV)(L:Lc)(S:aP):EL:=bA (r L S) λd x=>bA (k L x) λy h=>match d with
 | .p v=>(bX v y).map λz=>(.p z,h)
 | .ref i=>match h[i]? with
  | some (.lst s)=>(match y with
   | .int j=>(L2.atI s j).map λz=>(z,h)
   |_=>none)
  |some (.fz v)=>(bX v y).map λz=>(.p z,h)
  | some (.dct a e)=>(match kT y with
   |some k=>(fE k a e).map λz=>(z,h)
   |none=>none)
  |_=>none
theorem OW{a b:Expr}{l:EE}{fb:EV}{M:Pos}(hu:X.A.units+1 < cLine)(ha:PE X a (tE X.K l))(hb:PE X b (tV X.K fb))(hs:mB b):PE X (.Subscript a b M) (tE X.K (qX l fb)):=
 (Ca ((((QH hu).or tS).or (CM hu)).or CL) ha hb hs).imp' λJ H Q hz=>by
  obtain⟨F,m,L,S,d,A,r,h,q,k⟩:=hz;obtain⟨x,S1,K,q⟩:=aj q;obtain⟨y,o,e2,q⟩:=aj q;refine⟨F,m,L,S,x,S1,r,h,K,λv N m1 I c r1 p1=>?_⟩;refine⟨N,m1,L,S1,y,o,r1,h.mono c,e2,λu B V G g f Z=>?_⟩;have px:=RD.mono g p1;have s:∀w:P,RP X.K B G w v->(bX w y).map (λz=>(D.p z,o))=some (d,A)->rP X.K bX v u G Q:=λw pw q=>by
   cases e:bX w y with
   |none=>rw[e]at q;cases q
   |some z=>rw[e]at q;cases q;exact⟨B,w,y,z,f.ft,pw,Z,e,λt F3 H3 gr p3=>k t F3 V H3 (c.trans (g.trans gr.stp)) (f.grow gr) p3⟩
  cases x with
  |p w=>exact .inl (.inl (.inl (s w px q)))
  |ref i=>
   obtain⟨a,rfl,hm⟩:=px;dsimp only at q;cases T:o[i]? with
   |none=>rw[T]at q;cases q
   |some so=>
    rw[T]at q;have W:=f.obj i a so hm T;cases so with
    |fz w=>exact .inl (.inl (.inl (s w W q)))
    |dct ks vs=>
     dsimp only at q;obtain⟨n,hk,ek,ra⟩:=W;cases C:kT y with
     |none=>rw[C]at q;cases q
     |some R=>
      rw[C]at q;dsimp only at q;subst ek;cases e:fE R (n.map (·.1)) vs with
      |none=>rw[e]at q;cases q
      |some z=>rw[e]at q;cases q;obtain⟨w,K,p⟩:=o8 ra e;have E:=ma C Z;subst E;exact .inl (.inr ⟨a,w,rfl,by rw[<- K];exact nS.k hk,⟨n,hk⟩,k w B V G (c.trans g) f p⟩)
    |ins _ _ _=>cases q
    |dtn _ _=>cases q
    |dtt _ _=>cases q
    |fn _=>cases q
    |lst ds=>
     dsimp only at q;cases y with
     |int j=>
      dsimp only at q;obtain⟨xs,hH,rs⟩:=W;cases e:L2.atI ds j with
      |none=>rw[e]at q;cases q
      |some z=>rw[e]at q;cases q;obtain⟨t,e3,p3⟩:=rs.atI e;cases (show u=.int j from Z);exact .inl (.inl (.inr ⟨a,xs,j,t,rfl,rfl,jA.of hH,e3,k t B V G (c.trans g) f p3⟩))
     |_=>cases q
def cE:P->Option Nat
 | .tup xs=>some xs.length
 | .lst xs=>some xs.length
 | .ro xs=>some xs.length
 | .str x=>if eO x.length=true then some x.length else none
 |_=>none
def b8:D->aP->Option Nat
 | .p v,_=>cE v
 | .ref i,S=>match S[i]? with
  |some (.lst d)=>some d.length
  |some (.fz v)=>cE v
  |_=>none
def d_(r:EE):EV:=λL S=>bA (r L S) λd h=>(b8 d h).map λn=>(.int n,h)
theorem zx{F:Aa}{H:Hp}{w:P}{v:V}{n:Nat}{Q:VK}(p:RP X.K F H w v)(h:cE w=some n)(q:Q (.int n) H) :
  (∃p y,[v]=[V.ref p]/\(jA X.K H p y\/rA X.K H p y)/\Q (.int y.length) H)\/(∃z,[v]=[V.str z]/\z.length≤sizeLine/\Q (.int z.length) H):=by
 cases w with
 |tup d=>obtain⟨a,xs,rfl,t,r⟩:=p;cases h;exact .inl ⟨a,xs,rfl,.inr t.sq,by rw[<- r.length];exact q⟩
 |lst d=>obtain⟨a,xs,rfl,t,r⟩:=p;cases h;exact .inl ⟨a,xs,rfl,.inl t.sq,by rw[<- r.length];exact q⟩
 |ro d=>obtain⟨a,xs,rfl,t,r⟩:=p;cases h;exact .inl ⟨a,xs,rfl,.inl t.sq,by rw[<- r.length];exact q⟩
 |str x=>
  cases (show v=.str x from p);simp only[cE]at h;split at h
  .rename_i c;cases h;exact .inr ⟨x,rfl,dF c,q⟩
  .cases h
 |_=>exact kP h
theorem OU(K:Gl X "len")(s:X.g "len"=none)(z:PE X e (tE X.K fe))(b:starEach [e] X.e=[(false,eval e X.e)]:=by rfl):PE X (.Call (.Name "len" p) [e] [] M) (tV X.K (d_ fe)):=
 (pA (uk.or uj) K s PySem.boot_len (eJ z i4 (by rw[b];rfl)) (by decide) (by decide) (by rw[b];rfl) rfl).imp' λJ H Q P=>by
  obtain⟨F,m,L,S,d,A,r,l,q,k⟩:=P;obtain⟨x,f,g,q⟩:=aj q;refine⟨F,m,L,S,x,f,r,l,g,λv N B I D t c=>?_⟩;cases h:b8 x f with
  |none=>rw[h]at q;cases q
  |some n=>
   rw[h]at q;cases q;have y:Q (.int n) I:=k _ N B I D t rfl;cases x with
   |p w=>exact zx c h y
   |ref i=>
    obtain⟨a,rfl,s⟩:=c;simp only[b8]at h;cases T:A[i]? with
    |none=>rw[T]at h;cases h
    |some u=>
     rw[T]at h;have o:=t.obj i a u s T;cases u with
     |fz w=>exact zx o h y
     |dct G R=>cases h
     |ins _ _ _=>cases h
     |dtn _ _=>cases h
     |dtt _ _=>cases h
     |fn _=>cases h
     |lst E=>cases h;obtain⟨xs,j,C⟩:=o;exact .inl ⟨a,xs,rfl,.inl (jA.of j),by rw[<- C.length];exact y⟩
noncomputable def fk(d:D)(S:aP):Option (Nat×List D):=match d with
 | .ref i=>match S[i]? with
  |some (.lst s)=>some (i,s)
  |_=>none
 |_=>none
theorem tF(h:fk d S=some (i,s)):d=.ref i/\S[i]? = some (.lst s):=by
 unfold fk at h;split at h
 .split at h
  .rename_i e;cases h;exact⟨rfl,e⟩
  .cases h
 .cases h
@[simp] def cv(r:EE)(a:EE)(L:Lc)(S:aP):EL:=bA (r L S) λd h=>match fk d h with
 |none=>none
 |some _=>bA (a L h) λx e=>match fk d e with
  |some (i,s)=>if few s=true then some (.p .non,e.set i (.lst (s++[x]))) else none
  |none=>none
theorem EC{o e:Expr}{W fe:EE}{p c:Pos}(ho:PE X o (tE X.K W))(he:PE X e (tE X.K fe))(E:starEach [e] X.e=[(false,eval e X.e)]:=by rfl)
  (b:attributeBase o "append" X.e (eval o X.e)=eval o X.e:=by rfl) (f:(p.endLine == c.line)=true:=by rfl):PE X (.Call (.Attribute o "append" p) [e] [] c) (tE X.K (cv W fe)):=
 (Ce xG PySem.F.slot_list_append PySem.F.type_list_append qK ho (eJ he i4 (by rw[E];rfl)) b (by rw[E];rfl) f (by rw[E];rfl) rfl).imp' λJ H Q hz=>by
  obtain⟨F,m,L,S,d,A,r,l,q,k⟩:=hz;obtain⟨x,K,e1,q⟩:=aj q;refine⟨F,m,L,S,x,K,r,l,e1,λv N m1 I s1 r1 p1=>?_⟩;cases C:fk x K with
  |none=>rw[C]at q;cases q
  |some h=>
   obtain⟨i,ds⟩:=h;rw[C]at q;dsimp only at q;obtain⟨rfl,T⟩:=tF C;obtain⟨a,rfl,hm⟩:=id p1;obtain⟨xs,hH,rs⟩:=r1.obj i a _ hm T;refine⟨.inl ⟨rfl,xs,jA.of hH⟩,?_⟩;obtain⟨y,V,e2,q⟩:=aj q;refine⟨N,m1,L,K,y,V,r1,l.mono s1,e2,λu B M G s2 R p2=>?_⟩;cases s:fk (.ref i) V with
   |none=>rw[s]at q;cases q
   |some h=>
    obtain⟨i2,P⟩:=h;rw[s]at q;dsimp only at q;obtain⟨e3,n⟩:=tF s;cases e3;split at q
    .rename_i Z;cases q;obtain⟨a2,e4,t⟩:=RD.mono s2 p1;cases e4;obtain⟨w,g,j⟩:=R.obj i a _ t n;have hl:=mY Z;have D:w.length < sizeLine:=by
      have:P.length≤1000000:=aG Z;rw[<- j.length];exact ye this (by decide)
     have nt:∀zs,G a≠some (.tup zs):=λzs h=>by rw[g]at h;cases h
     have z:Stp B M G B M (cJ G a (.lst (w++[u]))):=iY R t n trivial nt;refine⟨a,w,u,rfl,rfl,g,D,?_⟩;exact k .non B M _ (s1.trans (s2.trans z)) (R.set t n trivial nt ⟨_,ba,d7.mono z (j.append ⟨u,[],rfl,p2,rfl⟩)⟩) rfl
    .cases q
def nK(r:EE):EE:=λL S=>bA (r L S) λd h=>match fk d h with
 |some (i,s)=>match s[s.length-1]? with
  |some x=>some (x,h.set i (.lst s.dropLast))
  |none=>none
 |none=>none
theorem d7.dropLast(r:d7 K F H m s xs):d7 K F H m s.dropLast xs.dropLast:=by rw[yt,yt,r.length];exact r.take _
theorem OO(G:PE X o (tE X.K fo))
  (b:attributeBase o "pop" X.e (eval o X.e)=eval o X.e:=by rfl) (n:(s.endLine == t.line)=true:=by rfl):PE X (.Call (.Attribute o "pop" s) [] [] t) (tE X.K (nK fo)):=
 (IH xG PySem.F.slot_list_pop PySem.F.type_list_pop Ja G b n).imp' λJ H Q M=>by
  obtain⟨F,m,L,S,d,A,r,l,q,k⟩:=M;obtain⟨x,K,D,q⟩:=aj q;refine⟨F,m,L,S,x,K,r,l,D,λv N w I W g R=>?_⟩;cases e:fk x K with
  |none=>rw[e]at q;cases q
  |some h=>
   obtain⟨i,P⟩:=h;rw[e]at q;dsimp only at q;obtain⟨rfl,T⟩:=tF e;obtain⟨a,rfl,p⟩:=id R;obtain⟨xs,c,j⟩:=g.obj i a _ p T;refine⟨.inl ⟨rfl,xs,jA.of c⟩,?_⟩;cases f:P[P.length-1]? with
   |none=>rw[f]at q;cases q
   |some y=>
    rw[f]at q;cases q;obtain⟨u,E,V⟩:=j.get f;have B:∀C,I a≠some (.tup C):=λC h=>by rw[c]at h;cases h
    have z:Stp N w I N w (cJ I a (.lst xs.dropLast)):=iY g p T trivial B;refine⟨a,xs,u,rfl,rfl,c,by rw[<- j.length];exact E,?_⟩;exact k u N w _ (W.trans z) (g.set p T trivial B ⟨_,ba,d7.mono z j.dropLast⟩) (RD.mono z V)
noncomputable abbrev EO:=Lc->aP->Option (Option Int×aP)
noncomputable def jN:EO:=λ_ S=>some (none,S)
def b9(a:EV):EO:=λL S=>bA (a L S) λv h=>match v with
 | .int i=>some (some i,h)
 |_=>none
inductive tOI(K:FG)(f:EO)(J:L2.St)(H:Hp)(Q:Option Int->Hp->Prop):Prop
 |mk (F:Aa) (m:List Addr) (L:Lc) (S:aP) (b:Option Int) (S':aP) (h0_:Rel K F H m S) (h1_:RL K F H m J L) (h2_:f L S=some (b,S')) (h3_:∀F' m' H',Stp F m H F' m' H'->Rel K F' H' m' S'->Q b H'):tOI K f J H Q
noncomputable def tO(K:FG)(f:EO):TO:=λJ H Q=>tOI K f J H Q
theorem _root_.L2.PO.imp'(h:PO X e t)(i:∀J H Q,k J H Q->t J H Q):PO X e k:=λp s J H Q I q=>h p s J H Q I (i J H Q q)
theorem IW:PO X none (tO X.K jN):=Fj.imp' λJ H Q h=>by obtain⟨F,m,L,S,d,A,r,l,q,k⟩:=h;cases q;exact k F m H .refl r
theorem IV(h:PE X e (tV X.K l)):PO X (some e) (tO X.K (b9 l)):=(Fi h).imp' λJ H Q z=>by
 obtain⟨F,m,L,S,d,A,r,a,q,k⟩:=z;obtain⟨x,c,s,q⟩:=aj q;cases x with
 |int i=>cases q;exact⟨F,m,L,S,_,_,r,a,s,λv N n I b f p=>⟨i,p,k N n I b f⟩⟩
 |_=>cases q
def cut(xs:List Q)(lo h:Option Int):List Q:=(xs.drop (HT.em xs.length 0 lo)).take (HT.em xs.length xs.length h-HT.em xs.length 0 lo)
theorem cz.cut(r:cz K F H s xs)(lo h:Option Int):cz K F H (Ev.cut s lo h) (vw xs lo h):=by unfold Ev.cut vw;rw[r.length];exact(r.drop _).take _
def RE:P->Option Int->Option Int->Option P
 | .lst xs,lo,h=>some (.lst (cut xs lo h))
 | .ro xs,lo,h=>some (.lst (cut xs lo h))
 | .tup xs,lo,h=>if HT.em xs.length 0 lo=0/\HT.em xs.length xs.length h=xs.length then none else some (.tup (cut xs lo h))
 |_,_,_=>none
theorem _root_.L2.PI.imp'(h:PI X r iter t)(i:∀J H R,k J H R->t J H R):PI X r iter k:=λp s J H R I q=>h p s J H R I (i J H R q)
theorem tU(f:∀B h G,Stp F m H B h G->jA K G a xs)(r:cz K F H t xs):Hy K (Oz K a) t F m H:=by
 intro B h G s;have q:=f B h G s;have k:=cz.mono s r;refine⟨λi v e=>?_,⟨xs,q,by rw[k.length];exact aq _⟩⟩;obtain⟨x,n,p⟩:=k.get e;refine⟨⟨xs,x,q,n⟩,λy b z=>?_⟩;obtain⟨rfl,z⟩:=z;have:=z xs q
 rw[n]at this;cases this;exact⟨B,.refl,p⟩
theorem CO(k:TupAt K H a xs)(r:cz K F H t xs):Hy K (QV K a) t F m H:=by
 intro B b G s;have q:=(k.kp s.kp).sq;have n:=cz.mono s r;refine⟨λi v e=>?_,⟨xs,q,by rw[n.length];exact aq _⟩⟩;obtain⟨x,h,p⟩:=n.get e;refine⟨⟨xs,x,q,h⟩,λy f z=>?_⟩;obtain⟨rfl,z⟩:=z;have:=z xs q
 rw[h]at this;cases this;exact⟨B,.refl,p⟩
noncomputable def intsFrom(lo:Int)(n:Nat):List P:=(List.range n).map λ(i:Nat)=>.int (lo+(i:Int))
def CQ(a:EV):kB:=λL S=>bA (a L S) λv h=>match v with
 | .int j=>if decide (j.natAbs < 1000000)=true then some (intsFrom 0 j.toNat,h) else none
 |_=>none
theorem CP{lo:Int}:Hy K (NN lo n) (intsFrom lo n) F m H:=by
 intro B k G s;have l:(intsFrom lo n).length=n:=by unfold intsFrom;simp
 refine⟨λi v e=>?_,by show n≤(intsFrom lo n).length;rw[l];exact aq _⟩;have h:i < n:=by rw[<- l];exact(bK.mp e).1
 refine⟨h,λx a z=>?_⟩;obtain⟨rfl,rfl⟩:=z;refine⟨B,.refl,?_⟩;unfold intsFrom at e;simp[h]at e;subst e;exact rfl
theorem Rp{u a:Expr}{l:EV}{p M:Pos}(g:Gl X "range")(f:X.g "range"=none)(n:PE X a (tV X.K l))(s:starEach [a] X.e=[(false,eval a X.e)]:=by rfl):PI X u (.Call (.Name "range" p) [a] [] M) (tI X.K (CQ l)):=
 (Ai g f (eJ n i4 (by rw[s];rfl)) s).imp' λJ H R z=>by
  obtain⟨F,m,L,S,o,A,r,h,q,k⟩:=z;obtain⟨v,i,e,q⟩:=aj q;cases v with
  |int j=>
   dsimp only at q;split at q
   .rename_i c;have y:j.natAbs < 1000000:=aG c;cases q;refine⟨F,m,L,S,_,_,r,h,e,λx N b I w d t=>?_⟩;cases (show x=.int j from t);exact⟨j,rfl,by lia,by lia,k _ N b I w d CP⟩
   .cases q
  |_=>cases q
end
def iz(g:kM)(c:EB)(e:EV):List P->Lc->aP->Option (List P×aP)
 | [],_,S=>some ([],S)
 |v::r,L,S=>match g v L with
  |none=>none
  |some h=>bA (c h S) λk x=>if k=true then bA (e h x) λy a=>bA (iz g c e r h a) λn s=>some (y::n,s) else iz g c e r h x
open Classical in
def ji(ok:aP->Prop)(g:kM)(c:EB)(e:EV):List P->Lc->aP->Option (List P×aP)
 | [],_,S=>if ok S then some ([],S) else none
 | v::r,L,S=>if ok S then (match g v L with
  |none=>none
  |some h=>bA (c h S) λk x=>if k=true then bA (e h x) λy a=>bA (ji ok g c e r h a) λn s=>some (y::n,s) else ji ok g c e r h x) else none
theorem pW:∀{s:List P}{L:Lc}{S:aP},ji (λ_=>True) g c e s L S=iz g c e s L S
 | [],_,_=>ac trivial
 |v::r,L,S=>by
  unfold ji iz;rw[ac trivial];cases g v L with
  |none=>rfl
  |some h=>simp only[pW (s:=r)]
noncomputable def wD(j:List Nat)(n:Nat)(L:List (Option Q)):List (Option Q):=(j.foldl (λL i=>L.set i none) L)++List.replicate n none
def qB(i:kB)(j:List Nat)(n:Nat)(g:kM)(c:EB)(e:EV):EV:=λL S=>bA (i L S) λxs h=>if few xs=true then bA (iz g c e xs (wD j n L) h) λy x=>some (.lst y,x) else none
@[simp] def Gx(_L:Lc)(S:aP):Ko:=some (true,S)
theorem ff(j:List Nat):∀L:List (Option Q),(j.foldl (λL i=>L.set i none) L).length=L.length:=by
 induction j with
 |nil=>intro L;rfl
 |cons t j h=>intro L;rw[hE,h,fR]
theorem qp(j:List Nat):∀(L:List (Option Q))(i:Nat)(d:Q),(j.foldl (λL i=>L.set i none) L)[i]? = some (some d)->L[i]? = some (some d)/\i ∉ j:=by
 induction j with
 |nil=>intro L i d h;exact⟨h,by simp⟩
 |cons t j s=>
  intro L i d h;rw[hE]at h;obtain⟨x,a⟩:=s _ _ _ h;by_cases e:t=i
  .subst e;by_cases l:t < L.length
   .rw [e_ l]at x;cases x
   .rw [yu (by rw[fR];lia)]at x;cases x
  .rw [d5 e]at x;exact⟨x,by simp[a];exact λz=>e z.symm⟩
theorem sQ(j:List Nat)(n:Nat)(L:List (Option Q)):(wD j n L).length=L.length+n:=by unfold wD;rw[aL,ff,iR]
theorem yY(h:(wD j n L)[i]? = some (some d)):L[i]? = some (some d)/\i ∉ j/\i < L.length:=by
 unfold wD at h;by_cases x:i < L.length
 .rw [eE (by rw[ff];exact x)]at h;obtain⟨a,e⟩:=qp j L i d h;exact⟨a,e,x⟩
 .rw [fS (by rw[ff];lia),sE]at h;split at h<;>cases h
variable{J:L2.St}
theorem RL.up(l:RL K F H m J L)(j:List Nat)(n:Nat):RL K F H m (wD j n J) (wD j n L):=by
 refine⟨by rw[sQ,sQ,l.len],λi d h=>?_⟩;obtain⟨a,s,f⟩:=yY h;obtain⟨v,e,r⟩:=l.at' i d a;refine⟨v,?_,r⟩;unfold wD;rw[eE (by rw[ff,l.len];exact f)];have k:∀(j:List Nat)(J:L2.St),i ∉ j->J[i]? = some (some v)->(j.foldl (λL i=>L.set i none) J)[i]? = some (some v):=by
  intro j;induction j with
  |nil=>intro J _ e;exact e
  |cons t j b=>intro J x e;rw[hE];refine b _ (λz=>x (aW _ z)) ?_;rw[d5 (λz=>x (by rw[z];exact aM))];exact e
 exact k j J s e
noncomputable def m7(E:Scope)(e:Env):List (Str×Addr):=((E.names.filter λx=>x.2 == .free).map λx=>(x.1,(e.cells.lookup x.1).getD 0)).reverse
def inn(X:Cx)(E:Scope)(q:LS)(s:Shared)(H:Hp)(C:Addr)(f:List Addr):Cx:=
 { X with N:=q,z:=s,y:=H,e:=compEnvC E (m7 E X.e) C X.e,o:=X.k,ex:=f,fn:=λ_=>false,pn:=[],xe:=λ_ _=>False }
structure BlockOk(X:Cx)(scope:Scope)(N':LS)(ts:List Nat)(n:Nat):Prop where
 kind:scope.kind=.function
 cell:∀x ∈ scope.names,x.2≠.cell
 loc:∀x ∈ scope.names,x.2=.local->scope.names.lookup x.1=some .local
 fr:∀x ∈ scope.names,x.2=.free->scope.names.lookup x.1=some .free/\(X.e.kindOf x.1=some .cell\/X.e.kindOf x.1=some .free)
 names:X.N=N'.take X.N.length
 more:N'.length=X.N.length+n
 ts:∀x ∈ scope.names,x.2=.local->∀i:Nat,X.N[i]? = some x.1->i ∈ ts
theorem gj:∀{l:List (Str×Q)}{x:Str}{v:Q},l.lookup x=some v->(x,v) ∈ l
 | [],_,_,h=>by simp at h
 |(y,w)::r,x,v,h=>by
  rw[lO]at h;cases e:x == y with
  |true=>rw[e]at h;cases h;rw[show x=y from by simpa using e];exact aM
  |false=>rw[e]at h;exact aW _ (gj h)
theorem kR:∀{l:List (Str×Q)}{x:Str}{v:Q},(x,v) ∈ l->∃w,l.lookup x=some w
 | [],_,_,h=>by simp at h
 |(y,w)::r,x,v,h=>by
  rw[lO];cases e:x == y with
  |true=>exact⟨w,rfl⟩
  |false=>
   rcases aU.mp h with h|h
   .injection h with a _;subst a;simp at e
   .exact kR h
variable{x:Str}
theorem eI(h:(relabel E s).names.lookup x=some k):∃a,(x,a) ∈ E.names/\(k=a\/(k=.cell/\a=.free)):=by
 have r:=gj h;unfold relabel at r;obtain⟨⟨n,a⟩,t,e⟩:=fP.mp r;by_cases c:(a == NameKind.free && s.scope.kind == .function && s.kindOf n == some .cell)=true
 .have f:(n,NameKind.cell)=(x,k):=by simpa[c] using e
  injection f with b m;subst b;rw[aE,aE]at c;exact⟨a,t,.inr ⟨m.symm,by simpa using c.1.1⟩⟩
 .have f:(n,a)=(x,k):=by simpa[c] using e
  injection f with b m;subst b;exact⟨a,t,.inl m.symm⟩
section
variable{X:Cx}{E:Scope}{q:LS}{j:List Nat}{n:Nat}
theorem BlockOk.cl(B:BlockOk X E q j n)(I:Inv X u J H s)(h:(m7 E X.e).lookup x=some c):X.e.cells.lookup x=some c/\(x,NameKind.free) ∈ E.names:=by
 have t:=gj h;unfold m7 at t;obtain⟨⟨y,k⟩,m,e⟩:=fP.mp (ym.mp t);obtain⟨m,hk⟩:=oj.mp m;have r:k=.free:=by simpa using hk
 subst r;injection e with v f;subst v;obtain⟨_,d⟩:=B.fr _ m rfl;obtain⟨p,a⟩:=I.o.has y d;dsimp only at f;rw[a]at f;have b:p=c:=f;subst b;exact⟨a,m⟩
theorem BlockOk.has(B:BlockOk X E q j n)(h:(x,NameKind.free) ∈ E.names):∃c,(m7 E X.e).lookup x=some c:=by unfold m7;exact kR (v:=(X.e.cells.lookup x).getD 0) (ym.mpr (fP.mpr ⟨(x,.free),oj.mpr ⟨h,by simp⟩,rfl⟩))
theorem C4(B:BlockOk X E q j n)(I:Inv X k J H s)(t:s.heap.objs.size≤C)(f:∀b ∈ r,mE X k H b)(u:∀b ∈ r,b < s.heap.objs.size) :
  (inn X E q s H C r).Ok where
 mod:=I.o.mod
 kind:=B.kind
 glob:=I.o.glob
 blt:=I.o.blt
 above:=t
 inj:=λx y c v d=>I.o.inj x y c (B.cl I v).1 (B.cl I d).1
 has:=λx h=>by
  have p:(relabel E X.e).names.lookup x=some .cell\/(relabel E X.e).names.lookup x=some .free:=h;rcases p with h|h
  .obtain⟨g,m,e|⟨_,e⟩⟩:=eI h
   .subst e;exact absurd rfl (B.cell _ m)
   .subst e;exact B.has m
  .obtain⟨g,m,e|⟨e,_⟩⟩:=eI h
   .subst e;exact B.has m
   .cases e
 cab:=λx c h=>nomatch h
 hd:=I.o.hd
 frames:=I.o.frames
 stk:=.inl rfl
 exf:=λb a=>⟨bg (be (u b a) t),λx c h=>(f b a).2.2.2.2.1 x c (B.cl I h).1⟩
 bs:=I.bs
 bsz:=a9 I.o.bsz I.sz
 noex:=λb o e a=>by
  rcases(f b a).2.2.2.1 with z|z
  .exact I.o.noex b o e z
  .exact absurd (be (az (I.o.bs b o e).1) z) (kr _)
 exfs:=λb a z=>by
  rcases aU.mp (I.stkSub b z) with z|z
  .exact (f b a).2.1 z
  .exact (f b a).2.2.1 z
 funs:=I.stack
 frf:=I.stkFree
 tab:=λP w=>I.base.tbls P (I.o.tab P w)
theorem _root_.L2.Un.sameBut(u:Un fs r H H' h t)(k:dC C t h2)(a:∀b o,h.get? b=some o->b≠C):Un fs r H H' h h2 where
 keep:=λb o e n s x=>k.extBut b o (a b o e) (u.keep b o e n s x)
 slot:=λb o e n s x=>by obtain⟨l,q⟩:=u.slot b o e n s x;exact⟨l,k.extBut b _ (a b o e) q⟩
 free:=u.free
 there:=λb o e x=>by obtain⟨f,q⟩:=u.there b o e x;exact⟨f,k.extBut b _ (a b o e) q⟩
 tups:=u.tups
 frzs:=u.frzs
 tbls:=u.tbls
theorem _root_.L2.kN.sameBut{P:Program}{w:World}{H:Hp}{h x:Heap}{C:Addr}(ok:kN P w H h)(n:dC C h x)(a:H C=none):kN P w H x:=λb u e=>
 (ok b u e).stay (fun c v s q=>n.extBut c v (by
  rintro rfl;rcases s with z|z
  .subst z;rw[a]at e;cases e
  .rw [a]at z;cases z) q) (λ_ q=>q) λ_ _ q=>q
inductive PIfs(X:Cx):Ab->EB->Prop where
 |none:PIfs X [] Gx
 |one {c:Expr}{q:EB}:PT X c (tQ X.K q)->PIfs X [c] q
theorem Kp.bump(a:¬F p)(t:∀xs,H p≠some (.tup xs))(c:∀x u,H p≠some (.frz x (.own u))):Kp F m H F m (cJ H p o):=
 ⟨⟨[],by simp⟩,λ_ h=>h,λb u f h=>by rw[aN (by rintro rfl;exact a f)];exact h,λb xs h=>by rw[aN (by rintro rfl;exact t xs h)];exact h,λb x u h=>by rw[aN (by rintro rfl;exact c x u h)];exact h⟩
theorem Stp.bump(s:Stp F m H F' m' H')(a:H p=none):Stp F m H F' m' (cJ H' p o) where
 pre:=s.pre
 oth:=λb u h n=>by rw[aN (by rintro rfl;rw[a]at h;cases h)];exact s.oth b u h n
 frz:=s.frz
 frk:=λb u f h=>by rw[aN (by rintro rfl;rw[a]at h;cases h)];exact s.frk b u f h
 tup:=λb xs h=>by rw[aN (by rintro rfl;rw[a]at h;cases h)];exact s.tup b xs h
 cod:=λb x u h=>by rw[aN (by rintro rfl;rw[a]at h;cases h)];exact s.cod b x u h
 trk:=λb h=>by
  by_cases e:b=p
  .subst e;rw[ba];exact λz=>nomatch z
  .rw [aN e];exact s.trk b h
 nf:=s.nf
 nm:=s.nm
theorem Rel.bump(r:Rel K F H m S)(e:¬F p)(n:p ∉ m)(t:∀xs,H p≠some (.tup xs))(c:∀x u,H p≠some (.frz x (.own u))):Rel K F (cJ H p o) m S:=
 r.stayK (Kp.bump e t c) (λa u s h=>by rw[aN (by rintro rfl;exact n s)];exact h) (λ_ f=>.inl f) λa f=>by rw[aN (by rintro rfl;exact e f)];exact r.ft a f
theorem P8:Kp F m H (λb=>F b\/b=p) m H:=⟨⟨[],by simp⟩,λ_ h=>.inl h,λ_ _ _ h=>h,λ_ _ h=>h,λ_ _ _ h=>h⟩
theorem Stp.addF(s:Stp F m H F' m' H')(x:H p=none):Stp F m H (λb=>F' b\/b=p) m' H':=
 ⟨s.pre,s.oth,fun b h=>.inl (s.frz b h),s.frk,s.tup,s.trk,fun b h=>by
  rcases h with h|h
  .exact s.nf b h
  .subst h;exact .inr (.inl x),s.nm,s.cod⟩
theorem Rel.addF(r:Rel K F H m S)(s:p ∉ m)(n:H p≠none):Rel K (λb=>F b\/b=p) H m S where
 len:=r.len
 nd:=r.nd
 obj:=λi a o e x=>(r.obj i a o e x).kp P8 λu h=>h
 sep:=λi a o e x w f=>by
  rcases f with f|f
  .exact r.sep i a o e x w f
  .subst f;exact s (d6 e)
 trk:=r.trk
 ft:=λa f=>by
  rcases f with f|f
  .exact r.ft a f
  .subst f;exact n
theorem _root_.L2.Inv.letGo(I:Inv X h J H s)(k:dC C s.heap r)(u:H C=none)(t:X.z.heap.objs.size≤C)(v:C≠X.e.locals)
  (d:∀x c,X.e.cells.lookup x=some c->c≠C) (w:∀p ∈ X.pn++h,p.1≠C):Inv X h J H { s with heap:=r }:=by
 have m:∀b:Addr,b ∉ [C]->b≠C:=λb f z=>f (by simp[z]);refine I.call' (s':={ s with heap:=r }) (q:=[C]) rfl ⟨λb o e _ _ a=>k.extBut b o (m b a) e,λb o e _ _ a=>⟨o.slots,k.extBut b o (m b a) e⟩,λ_ _ _ n _=>n,λb o e a=>⟨o,k.extBut b o (m b a) e⟩,λ_ _ q=>q,λ_ _ _ q=>q,λ_ q=>q⟩ (I.h.sameBut k u) I.bare λb f=>?_;have e:b=C:=by simpa using f
 subst e;exact⟨.inr t,v,d,w⟩
theorem AF(I:Nat->Shared->Prop)
  (f:∀n s,I n s->wpAny (model Pg k) t (pyNext it) (fun r b=>match r with
   |none=>R (.ok .next) b
   | some v=>wpAny (model Pg k) t (letOwnedTupleGo tg it v) (fun _ w=>wpAny (model Pg k) t (assign tg u v) (fun _ g=>
     wpAny (model Pg k) t (forIn ifs true fun c r=>if r=true then do let ok <- isTrue c u (eval c u);pure (ForInStep.yield ok) else pure (ForInStep.yield r)) (fun ok p=>
      if ok=true then wpAny (model Pg k) t (eval elt u) (fun x i=>
       wpAny (model Pg k) t (call (.builtin "list.append") [acc,x]) (λ_ j=>∃m,m < n/\I m j) (notedBy (model Pg k) t u λe a=>R (.error e) a) i) (notedBy (model Pg k) t u λe a=>R (.error e) a) p
      else ∃m,m < n/\I m p) (notedBy (model Pg k) t u λe a=>R (.error e) a) g) (notedBy (model Pg k) t u λe a=>R (.error e) a) w) (notedBy (model Pg k) t u λe a=>R (.error e) a) b) (notedBy (model Pg k) t u λe a=>R (.error e) a) s)
  (n:Nat) (h:I n s):codeAny (model Pg k) t (.compLoop (.ListComp elt [⟨tg,iter,ifs,0⟩] E M) 0 it acc u) R s:=by
 refine codeAny_loop rfl I (λn s S=>?_) n h;show wpAny _ t ((compTurn (.ListComp elt [⟨tg,iter,ifs,0⟩] E M) 0 it acc u).onRaise (λx=>do noteFrame x u;theTreesLotGoes x)) _ _ s;refine wpAny_noted ?_;rw[compTurn_list];refine ag (v_ (ag (bC (f n s S) (λr b q=>?_) λ_ _ z=>z)));cases r with
 |none=>exact aF q
 |some v=>
  refine ag (bC q (λ_ w l=>ag (bC l (λ_ g y=>ag (bC y (λok p d=>?_) λ_ _ z=>z)) λ_ _ z=>z)) λ_ _ z=>z);cases ok with
  |false=>exact aF ⟨rfl,d⟩
  |true=>exact ag (ag (bC d (λx i o=>ag (bC o (λ_ j H=>aF (aF ⟨rfl,H⟩)) λ_ _ z=>z)) λ_ _ z=>z))
theorem Gg{g:Heap}{tk:Nat}(B:BlockOk X E q j n)(I:Inv X pins J G s)(k:s.heap.objs.size≤C)(f2:∀b ∈ fp,mE X pins G b)(A:∀b ∈ fp,b < s.heap.objs.size)(l:∀b o,s.heap.get? b=some o->g.get? b=some o)
  (hD:G s.heap.objs.size=none) (D:s.heap.objs.size≠C) (P:G C=none) (t:g.Ns C mC) (a:g.get? s.heap.objs.size=some { cls:=.type "list",dict:=none,data:=.seq ([]:LV).toArray }) :
  Inv (inn X E q s G C fp) [] (wD j n J) (cJ G s.heap.objs.size (.lst [])) { s with heap:=g,toks:=tk }:=by
 refine⟨C4 B I k f2 A,rfl,I.bare,Un.laid l (aq _) hD,?_,λx c e=>?_,?_,λx c e=>?_,λp hp=>absurd (show p ∈ ([]:PN) from hp) (by simp),?_,?_⟩
 .obtain⟨m0,hn0,L⟩:=I.loc;refine⟨_,t,λi x v V W hv=>?_⟩;obtain⟨S,F,K⟩:=yY W;have r:J.length=X.N.length:=I.len;have Q:X.N[i]? = some x:=by
   rw[B.names,yy (by rw[<- r];exact K)];exact V
  have w:(relabel E X.e).names.lookup x=some .local\/(relabel E X.e).names.lookup x=some .cell\/(relabel E X.e).names.lookup x=some .free:=hv;have T:¬(relabel E X.e).names.lookup x=some .local:=λz=>by
   obtain⟨R,h,e|⟨e,_⟩⟩:=eI z
   .subst e;exact absurd (B.ts _ h rfl i Q) F
   .cases e
  have N:(x,NameKind.free) ∈ E.names:=by
   rcases w with z|z|z
   .exact absurd z T
   .obtain⟨R,h,e|⟨_,e⟩⟩:=eI z
    .subst e;exact absurd rfl (B.cell _ h)
    .subst e;exact h
   .obtain⟨R,h,e|⟨e,_⟩⟩:=eI z
    .subst e;exact h
    .cases e
  obtain⟨_,m⟩:=B.fr _ N rfl;have M:Kf X.e.scope x:=by
   rcases m with z|z
   .exact .inr (.inl z)
   .exact .inr (.inr z)
  obtain⟨u,ru,lk⟩:=L i x v Q S M;refine⟨u,ru,.inr ⟨?_,?_⟩⟩
  .rcases w with z|z|z
   .exact absurd z T
   .exact .inl z
   .exact .inr z
  .rcases lk with ⟨z,_⟩|⟨_,c,Z,ic⟩
   .rcases m with y|y
    .rw [z]at y;cases y
    .rw [z]at y;cases y
   .obtain⟨c',f⟩:=B.has N;have:=(B.cl I f).1
    rw[Z]at this;cases this;obtain⟨o,d,H⟩:=ic;exact⟨c,f,o,l c o d,H⟩
 .obtain⟨v,o,d,H⟩:=I.cell x c (B.cl I e).1;exact⟨v,o,l c o d,H⟩
 .show cJ G s.heap.objs.size (.lst []) C=none;rw[aN (bB D)];exact P
 .obtain⟨v,o,d,H⟩:=I.cell x c (B.cl I e).1;rw[aN (bg (az d))];exact I.freeC x c (B.cl I e).1
 .exact I.h.laid l (aq _) ⟨bJ _,[],0,.nil,a⟩
 .show (wD j n J).length=q.length;rw[sQ,I.len,B.more]
inductive cIv(K:FG)(Y9:Cx)(F1:Aa)(m1:List Addr)(H2:Hp)(A:Addr)(tn:Nat->Heap->Prop)(fp:List Addr)(R:Nat->Nat->Lc->aP->List P->Prop)(ys:List P)(nn:Nat)(sx:Shared):Prop
 |mk (i:Nat) (J':L2.St) (F':Aa) (m':List Addr) (H':Hp) (L':Lc) (S':aP) (acc rest:List P) (xs:List V) (h0_:Inv Y9 [] J' H' sx) (h1_:tn i sx.heap) (h2_:∀b ∈ fp,H' b=none) (h3_:Stp F1 m1 H2 F' m' H') (h4_:Rel K F' H' m' S') (h5_:RL K F' H' m' J' L') (h6_:H' A=some (.lst xs)) (h7_:cz K F' H' acc xs) (h8_:acc.length≤i) (h9_:¬F' A) (ha_:A ∉ m') (hb_:R nn i L' S' rest) (hc_:acc++rest=ys):cIv K Y9 F1 m1 H2 A tn fp R ys nn sx
def QW(K:FG)(ok:aP->Prop)(a:It)(n:List P)(F:Aa)(m:List Addr)(H:Hp):Prop:=∀B s G S,Stp F m H B s G->Rel K B G s S->ok S ->
 (∀(i:Nat) v,n[i]? = some v->a.go i G/\∀x h,a.yld i G x h->∃e,Grow B G e h/\RP K e h v x)/\a.stop n.length G
def vR(X:Cx)(t iter:Expr)(f:EV)(j:List Nat)(n:Nat)(g:kM)(c:EB)(fe:EV):Prop:=∃w,PI X t iter w/\∀J H F m L S d a,Rel X.K F H m S->RL X.K F H m J L->f L S=some (d,a) ->
 ∃ok v x s,d=.lst s/\few v=true/\w J H (λe I=>∃N h,Stp F m H N h I/\Rel X.K N I h x/\QW X.K ok e v N h I)/\ji ok g c fe v (wD j n L) x=some (s,a)
theorem Nn(i:PI X tg iter (tI X.K u)):vR X tg iter (qB u j n g t fe) j n g t fe:=by
 refine⟨_,i,λJ H F m L S d a r l q=>?_⟩;obtain⟨v,x,s,q⟩:=aj q;split at q;case isFalse=>cases q
 rename_i h;obtain⟨y,e,k,q⟩:=aj q;cases q;exact⟨λ_=>True,v,x,y,rfl,h,⟨F,m,L,S,v,x,r,l,s,λo N b I w p f=>⟨N,b,w,p,λB c G a z _ _=>f B c G z⟩⟩,by rw[pW];exact k⟩
theorem rc 
  (B:BlockOk X E q j n) (hcalm:X.c=true)
  (hi:PI X tg iter wi) (hg:∀s H C D,PG (inn X E q s H C D) tg (gT X.K g)) (hc:∀s H C D,PIfs (inn X E q s H C D) ifs fc) (he:∀s H C D,PE (inn X E q s H C D) elt (tV X.K fe))
  (hclos:closureFor E X.e=pure (m7 E X.e)) (hs:∀x,foldedSetIterable iter X.e x=pure x)
  (h:Inv X pins J H s) (r:Rel X.K F H m S) (l:RL X.K F H m J L) (hw:wi J H λJ9 I=>∃N m1,Stp F m H N m1 I/\Rel X.K N I m1 S1/\QW X.K ok J9 vs N m1 I) (hfew:few vs=true) (e2:ji ok g fc fe vs (wD j n L) S1=some (ds,S2))
  (fin:∀p F' m' H' sx C xs,Inv X pins J H' sx->Stp F m H F' m' H'->Rel X.K F' H' m' S2->H p=none/\¬F' p/\p ∉ m'/\H' p=some (.lst xs)/\cz X.K F' H' ds xs->H' C=none->X.z.heap.objs.size≤C->C≠X.e.locals->(∀x c,X.e.cells.lookup x=some c->c≠C)->(∀p ∈ X.pn++pins,p.1≠C) ->
   (∃mC,sx.heap.Ns C mC)->compPost (model X.p X.w) X.A X.xe use k (.ref p) C (.ok .next) sx) :
  wpAny (model X.p X.w) X.A (comprehension (.ListComp elt [⟨tg,iter,ifs,0⟩] E M) E X.e p2 (newList []) false (eval iter X.e) use) k X.xe s:=by
 refine wpAny_comprehension_free (use:=use) rfl hs hclos B.kind B.loc (bF (hi pins s J H _ h hw) λxv sA hA=>bF hA λitv K h2=>?_);obtain⟨it,D,tn,J9,G,rfl,I2,T,st2,f2,N,m1,s1,r1,itp⟩:=h2;have hfp:∀b ∈ D,b < K.heap.objs.size:=λb R=>by obtain⟨o,e,_⟩:=T.obj _ _ st2 b R;exact az e
 refine oX ?_ (by show 0≤sizeLine;exact bJ _);refine wpAny_newFunctionEnv B.cell (by intro y hy;simp at hy) (λh1 hns1 hsb1=>?_) B.kind;dsimp only at hns1 hsb1 ⊢;have hD:G K.heap.objs.size=none:=I2.h.fresh (aq _);generalize hH2:K.heap.push { cls:=.type "list",dict:=none,data:=.seq ([]:LV).toArray }=d at hns1 hsb1 ⊢;have hC:d.objs.size=K.heap.objs.size+1:=by rw[<- hH2,rX]
 have P:K.heap.objs.size≤d.objs.size:=by rw[hC];exact ko _
 have old:∀b o,K.heap.get? b=some o->h1.get? b=some o:=λb o e=>hsb1.extBut b o (bg (be (az e) P)) (aJ _ (hH2 ▸ aJ _ e));have hDC:K.heap.objs.size≠d.objs.size:=by rw[hC];exact bg (d0 _)
 have accO:h1.get? K.heap.objs.size=some { cls:=.type "list",dict:=none,data:=.seq ([]:LV).toArray }:=hsb1.extBut _ _ hDC (aJ _ (hH2 ▸ aS _ rfl));have hCn:G d.objs.size=none:=I2.h.fresh P;have hCcell:∀x c,X.e.cells.lookup x=some c->c≠d.objs.size:=λx c e z=>by obtain⟨v,o,ho,_⟩:=I2.cell x c e;exact absurd (az ho) (x_.mpr (by rw[z];exact P))
 have hCloc:d.objs.size≠X.e.locals:=fO (be I2.lt P);have hCpin:∀p ∈ X.pn++pins,p.1≠d.objs.size:=λp hp z=>absurd (az (I2.pin p hp).1) (x_.mpr (by rw[z];exact P));have I3:=Gg (tk:=K.toks+([]:List (Str×Value)).length) B I2 P f2 hfp old hD hDC hCn hns1 accO;have okX:=C4 (C:=d.objs.size) B I2 P f2 hfp;have fpH:∀{H':Hp},(∀b ∈ D,H' b=none)->∀b ∈ D,mE (inn X E q K G d.objs.size D) [] H' b:=λhn b R=>
  ⟨hn b R,bg (be (hfp b R) P),okX.exfs b R,.inl R,(okX.exf b R).2,λp hp=>absurd (show p ∈ ([]:PN) from hp) (by simp)⟩
 have tn1:tn 0 h1:=T.keep _ _ _ st2 λb R o e=>old b o e;have loop:∀s3:Shared,s3={ K with heap:=h1,toks:=K.toks+([]:List (Str×Value)).length } ->
   codeAny (model X.p X.w) X.A (.compLoop (.ListComp elt [⟨tg,iter,ifs,0⟩] E M) 0 (.ref it) (.ref K.heap.objs.size) (compEnvC E (m7 E X.e) d.objs.size X.e))
    (compPost (model X.p X.w) X.A X.xe use k (.ref K.heap.objs.size) d.objs.size) s3:=by
  rintro s3 rfl;refine AF (cIv X.K (inn X E q K G d.objs.size D) N m1 G K.heap.objs.size tn D (λnn i L' A w=>nn=vs.length-i/\i≤vs.length/\ji ok g fc fe (vs.drop i) L' A=some (w,S2)) ds) ?_ vs.length ?_
  .rintro nn sx ⟨i,J',F',m',H',L',A,acc,w,xs,I',tn',fr',st',r',l',hacc,ra,hal,nF,nm,⟨rfl,hi',Q⟩,rfl⟩;by_cases hlt:i < vs.length
   .have hv:vs[i]? = some vs[i]:=by simp[hlt]
    rw[lS hlt]at Q;unfold ji at Q;split at Q;case isFalse=>cases Q
    rename_i hok;obtain⟨hgo,_⟩:=itp F' m' H' A st' r' hok;obtain⟨hgo1,hy⟩:=hgo i _ hv;refine bC (T.item (inn X E q K G d.objs.size D) rfl rfl rfl hcalm i [] sx J' H' (λ_ _=>False) I' (fpH fr') tn' hgo1) (λrr sy hr=>?_) (λ_ _ f=>f.elim);obtain⟨u,rfl,hr⟩:=hr;refine bC hr (λ_ sz hz=>?_) (λ_ _ f=>f.elim);obtain⟨x,H3,I4,rx,yl,tn4,fr4⟩:=hz;obtain⟨F3,gr,p3⟩:=hy x H3 yl;have st4:Stp N m1 G F3 m' H3:=st'.trans gr.stp;have r4:=r'.grow gr;have l4:=l'.mono (gr.stp (m:=m'));have acc4:=gr.keep _ _ hacc;have nF4:¬F3 K.heap.objs.size:=λz=>by
     rcases gr.nf _ z with z|⟨z,_⟩
     .exact nF z
     .rw [hacc]at z;cases z
    have I4':=I4.pinned (fpH fr4) (T.obj _ _ tn4);have back:∀{J7:L2.St}{H7:Hp}{s7:Shared},Inv (inn X E q K G d.objs.size D) ([]++jK D sz.heap) J7 H7 s7->tn (i+1) s7.heap/\∀b ∈ D,H7 b=none:=λ{J7 H7 s7} I7=>
     ⟨T.keep _ _ _ tn4 λb R o e=>(I7.pin (b,o) (b5 _ (b5 _ (dj R e)))).1,λb R=>by obtain⟨o,e,dd⟩:=T.obj _ _ tn4 b R;exact(I7.pin (b,o) (b5 _ (b5 _ (dj R e)))).2.1⟩
    cases eg:g vs[i] L' with
    |none=>rw[eg]at Q;cases Q
    |some L1=>
     rw[eg]at Q;dsimp only at Q;obtain⟨kk,S5,e5,Q⟩:=aj Q;refine bC (hg K G d.objs.size D _ sz J' H3 x u (λJ5 H5=>H5=H3/\RL X.K F3 H3 m' J5 L1) I4' rx ⟨F3,m',L',vs[i],L1,l4,p3,eg,λJ5 l5=>⟨rfl,l5⟩⟩) (λ_ s5 h5=>?_) (λ_ _ f=>f.elim);obtain⟨J5,H5,I5,rfl,l5⟩:=h5;have test:wpAny (model X.p X.w) X.A (forIn ifs true λc r=>if r=true then do let ok <- isTrue c (compEnvC E (m7 E X.e) d.objs.size X.e) (eval c (compEnvC E (m7 E X.e) d.objs.size X.e));pure (ForInStep.yield ok) else pure (ForInStep.yield r))
       (λok s6=>ok=kk/\∃W m6 H6,Inv (inn X E q K G d.objs.size D) ([]++jK D sz.heap) J5 H6 s6/\Stp F3 m' H5 W m6 H6/\Rel X.K W H6 m6 S5) (λ_ _=>False) s5:=by
      have hcc:=hc K G d.objs.size D;cases hcc with
      |none=>cases e5;exact wpAny_tests_nil ⟨rfl,F3,m',H5,I5,.refl,r4⟩
      |one hq=>refine wpAny_tests_one (bC (hq _ s5 J5 H5 (λb H6=>b=kk/\∃W m6,Stp F3 m' H5 W m6 H6/\Rel X.K W H6 m6 S5) I5 ⟨F3,m',L1,A,kk,S5,r4,l5,e5,λW m6 H6 s6 r6=>⟨rfl,W,m6,s6,r6⟩⟩) (λb s6 h6=>?_) λ_ _ f=>f);obtain⟨H6,I6,rfl,W,m6,V,r6⟩:=h6;exact⟨rfl,W,m6,H6,I6,V,r6⟩
     refine bC test (λok s6 h6=>?_) (λ_ _ f=>f.elim);obtain⟨rfl,W,m6,H6,I6,V,r6⟩:=h6;have Z:=V.oth _ _ acc4 nm;have nm6:K.heap.objs.size ∉ m6:=λz=>by
      rcases V.nm _ z with z|z
      .exact nm z
      .rw [acc4]at z;cases z
     have nF6:¬W K.heap.objs.size:=λz=>by
      rcases V.nf _ z with z|z|z
      .exact nF4 z
      .rw [acc4]at z;cases z
      .exact nm z
     have ra6:=cz.mono V (ra.grow gr);have l6:=l5.mono V;cases ok with
     |false=>rw[ae aX]at Q ⊢;obtain⟨t7,f7⟩:=back I6;exact⟨vs.length-(i+1),by lia,i+1,J5,W,m6,H6,L1,S5,acc,w,xs,I6.pins_of λp hp=>absurd hp (by simp),t7,f7,st4.trans V,r6,l6,Z,ra6,Nat.le_succ_of_le hal,nF6,nm6,⟨rfl,hlt,Q⟩,rfl⟩
     |true=>
      rw[ac rfl]at Q ⊢;obtain⟨y,S8,e8,Q⟩:=aj Q;obtain⟨zs,S9,e9,Q⟩:=aj Q;cases Q;refine bC (he K G d.objs.size D _ s6 J5 H6 (λv8 H8=>∃F8 m8,Stp W m6 H6 F8 m8 H8/\Rel X.K F8 H8 m8 S8/\RP X.K F8 H8 y v8) I6 ⟨W,m6,L1,S5,y,S8,r6,l6,e8,λv8 F8 m8 H8 s8 r8 p8=>⟨F8,m8,s8,r8,p8⟩⟩) (λu8 s8 h8=>?_) (λ_ _ f=>f.elim);obtain⟨v8,H8,I8,rv8,F8,m8,st8,r8,p8⟩:=h8;have acc8:=st8.oth _ _ Z nm6;have nm8:K.heap.objs.size ∉ m8:=λz=>by
       rcases st8.nm _ z with z|z
       .exact nm6 z
       .rw [Z]at z;cases z
      have nF8:¬F8 K.heap.objs.size:=λz=>by
       rcases st8.nf _ z with z|z|z
       .exact nF6 z
       .rw [Z]at z;cases z
       .exact nm6 z
      have ra8:=cz.mono st8 ra6;have nt8:∀zs,H8 K.heap.objs.size≠some (.tup zs):=λzs z=>by rw[acc8]at z;cases z
      have nc8:∀x u,H8 K.heap.objs.size≠some (.frz x (.own u)):=λx u z=>by rw[acc8]at z;cases z
      have hl8:xs.length < sizeLine:=by have h9:vs.length≤1000000:=aG hfew;rw[<- ra8.length];exact be (ye hal hlt) (a9 h9 (by decide))
      refine bC (qK (X:=inn X E q K G d.objs.size D) _ s8 J5 H8 (.ref K.heap.objs.size) [v8] (.ref K.heap.objs.size) [u8] (λ_ H9=>H9=cJ H8 K.heap.objs.size (.lst (xs++[v8]))) I8 rfl (.cons rv8 .nil) ⟨_,xs,v8,rfl,rfl,acc8,hl8,rfl⟩) (λ_ s9 h9=>?_) (λ_ _ f=>f.elim);obtain⟨_,H9,I9,_,rfl⟩:=h9;obtain⟨t9,f9⟩:=back I9;have kb:Kp F8 m8 H8 F8 m8 (cJ H8 K.heap.objs.size (.lst (xs++[v8]))):=Kp.bump nF8 nt8 nc8;have st9:Stp N m1 G F8 m8 (cJ H8 K.heap.objs.size (.lst (xs++[v8]))):=(st4.trans (V.trans st8)).bump hD;have l9:RL X.K F8 (cJ H8 K.heap.objs.size (.lst (xs++[v8]))) m8 J5 L1:=⟨l6.len,λa dd e=>by obtain⟨v,e1,rr⟩:=(l6.mono st8).at' a dd e;exact⟨v,e1,RD.kp kb rr⟩⟩
      exact⟨vs.length-(i+1),by lia,i+1,J5,F8,m8,_,L1,S8,acc++[y],zs,xs++[v8],I9.pins_of fun p hp=>absurd hp (by simp),t9,f9,st9,r8.bump nF8 nm8 nt8 nc8,l9,ba,
       cz.kp kb (ra8.append ⟨v8,[],rfl,p8,rfl⟩),by rw[aL];exact yd hal,nF8,nm8,⟨rfl,hlt,e9⟩,by simp⟩
   .have e:i=vs.length:=by lia
    subst e;rw[lN]at Q;unfold ji at Q;split at Q;case isFalse=>cases Q
    rename_i hok;cases Q;obtain⟨_,hstop⟩:=itp F' m' H' _ st' r' hok;refine bC (T.done (inn X E q K G d.objs.size D) rfl rfl rfl hcalm vs.length [] sx J' H' (λ_ _=>False) I' (fpH fr') tn' hstop) (λrr sy hr=>?_) (λ_ _ f=>f.elim);obtain⟨rfl,I5⟩:=hr;rw[cg] at *
    have Iout:Inv X pins J H' sy:=I2.call' (q:=D) I5.os I5.base I5.h I5.bare λb R=>⟨(f2 b R).2.2.2.1,(f2 b R).2.1,(f2 b R).2.2.2.2.1,(f2 b R).2.2.2.2.2⟩;have hD0:H K.heap.objs.size=none:=by
     cases t:H K.heap.objs.size with
     |none=>rfl
     |some o=>exact absurd hD (s1.trk _ (by rw[t];exact λz=>nomatch z))
    have hCH:H' d.objs.size=none:=I5.free;obtain⟨mC,hmC,_⟩:=I5.loc;exact fin K.heap.objs.size F' m' H' sy d.objs.size xs Iout (s1.trans st') r' ⟨hD0,nF,nm,hacc,ra⟩ hCH (a9 I2.sz P) hCloc hCcell hCpin ⟨mC,hmC⟩
  .exact⟨0,_,N,m1,_,wD j n L,S1,[],ds,[],I3,tn1,λb R=>by rw[aN (bg (hfp b R))];exact(f2 b R).1,(cu hD).stp,r1.grow (cu hD),((l.mono s1).mono (cu hD).stp).up j n,ba,rfl,bJ _,r1.fresh_F hD,r1.fresh_m hD,⟨rfl,bJ _,by rw[kt];exact e2⟩,rfl⟩
 exact codeAny_compStart_list (loop _ rfl) (T.self X.A 0 _ _ _ tn1 (loop _ rfl))
theorem vD(z:Stp F m H F' m' H')(r:Rel K F' H' m' S)(f:H p=none/\¬F' p/\p ∉ m'/\H' p=some (.lst xs)/\cz K F' H' s xs) :
  Stp F m H (λb=>F' b\/b=p) m' H'/\Rel K (λb=>F' b\/b=p) H' m' S/\RP K (λb=>F' b\/b=p) H' (.lst s) (.ref p):=by
 obtain⟨x,k,n,a,e⟩:=f;exact⟨z.addF x,r.addF n (by rw[a];exact λh=>nomatch h),_,xs,rfl,⟨.inr rfl,a⟩,cz.kp (m:=m') P8 e⟩
theorem Le(B:BlockOk X E q j n)(c:X.c=true)
  (W:vR X tg iter f j n g fc fe) (hg:∀s H C a,PG (inn X E q s H C a) tg (gT X.K g)) (V:∀s H C a,PIfs (inn X E q s H C a) u fc) (Z:∀s H C a,PE (inn X E q s H C a) t (tV X.K fe))
  (o:closureFor E X.e=pure (m7 E X.e)) (hs:∀x,foldedSetIterable iter X.e x=pure x:=by intro _;rfl) :
  PE X (.ListComp t [⟨tg,iter,u,0⟩] E M) (tV X.K f):=by
 intro i s J H Q I ⟨F,m,L,S,d,A,r,l,h,k⟩;rw[eval_ListComp];obtain⟨wi,hi,W⟩:=W;obtain⟨ok,vs,S1,ds,rfl,e,hw,P⟩:=W J H F m L S d A r l h;refine rc B c hi hg V Z o hs I r l hw e P λp F' m' H' sx C xs v z r' f T D G N R hz=>?_
 obtain⟨mC,b⟩:=hz;obtain⟨w,y,K⟩:=vD z r' f;exact⟨mC,b,λh' sb=>⟨.ref p,H',v.letGo sb T D G N R,rfl,k _ _ m' H' w y K⟩⟩
theorem KR(i:Nat)(hN:X.N.Nodup)(B:BlockOk X E q j n)(c:X.c=true)
  (W:vR X tg iter f j n g fc fe) (hg:∀s H C b,PG (inn X E q s H C b) tg (gT X.K g)) (hc:∀s H C b,PIfs (inn X E q s H C b) u fc) (he:∀s H C b,PE (inn X E q s H C b) t (tV X.K fe))
  (o:closureFor E X.e=pure (m7 E X.e)) (T:swapsWith (.ListComp t [⟨tg,iter,u,0⟩] E M) (some (.Name x px)) spos.line X.e=pure true:=by rfl)
  (hs:∀x,foldedSetIterable iter X.e x=pure x:=by intro _;rfl) (N:X.N[i]? = some x:=by rfl) (hx:Loc X.e.scope x:=by first|exact Or.inl rfl|exact Or.inr rfl)
  (hf:X.fn x=true\/X.e.scope.names.lookup x=some .local:=by first|exact .inl rfl|exact .inr rfl|assumption) :
  PS X (.Assign [.Name x px] (.ListComp t [⟨tg,iter,u,0⟩] E M) spos) (f_ X.K (aO i (Y f))):=by
 intro P s J H D I ⟨F,m,L,S,fl,L',A,r,l,h,k⟩;obtain⟨d,S1,e1,h⟩:=aj h;cases h;obtain⟨v,S2,e2,e3⟩:=aj e1;cases e3;rw[exec_Assign_Name_used _ _ _ _ T];refine ag (v_ (ag ?_));show wpAny _ _ (do let _ <- comprehension (.ListComp t [⟨tg,iter,u,0⟩] E M) E X.e _ (newList []) false (eval iter X.e) (some (assign (.Name x px) X.e))) _ _ s;obtain⟨wi,hi,W⟩:=W;obtain⟨ok,vs,S3,ds,rfl,y,hw,e4⟩:=W J H F m L S v _ r l e2;refine ag (bC (rc (use:=some (assign (.Name x px) X.e)) (k:=λ_ V=>SP X P D .next V) B c hi hg hc he o hs I r l hw y e4 λp F' m' H' sx C xs I' st0 r0 f hC h0 h1 h2 h3 hz=>?_) (λ_ V hq=>aF (aF hq)) λ_ _ e=>e);obtain⟨mC,R⟩:=hz;obtain⟨z,r',rp⟩:=vD st0 r0 f;refine wf (qE I' hN N hx (v:=.ref p) rfl (λV G K=>?_) hf);refine⟨mC,?_,λh' sb=>⟨_,H',G.letGo sb hC h0 h1 h2 h3,k _ _ m' H' z r' ((l.mono z).set (d:=.p (.lst ds)) rp i)⟩⟩;obtain⟨a,Z,w⟩:=K;refine R.sameBut Z ?_;rcases w with w|w
 .rw [w];exact h1
 .exact bB (h2 x a w)
end
end Ev
namespace Ev
open PySem PySem.Spec PyProof.Rows L2
section
variable{X:Cx}{a b e:Expr}{es:Ab}{N T:EV}{fs:kB}{B p:Pos}
noncomputable def uh:P->Option P
 | .int i=>some (.int (-i))
 |_=>none
theorem OS(f:PE X a (tV X.K N)):PE X (.UnaryOp .USub a B) (tV X.K (GO uh N)):=(L5 HL f).imp' λJ H Q z=>by
 obtain⟨F,m,L,S,d,t,r,l,q,k⟩:=z;obtain⟨x,w,n,q⟩:=aj q;cases x with
 |int i=>cases q;exact⟨F,m,L,S,_,_,r,l,n,λv h b e s c p=>⟨i,p,k _ h b e s c rfl⟩⟩
 |_=>cases q
noncomputable def p6:List P->Option P
 | [.int i,.int j]=>some (.int (if j < i then j else i))
 |_=>none
noncomputable def zV:List P->Option P
 | [.int i]=>some (.int i)
 | [.bl b]=>some (.int (if b then 1 else 0))
 |_=>none
theorem Pw{K:FG}{F:Aa}{H:Hp}{d h:P}{s:List V}(r:cz K F H [d,h] s):∃x y,s=[x,y]/\RP K F H d x/\RP K F H h y:=by obtain⟨x,f,rfl,p,e⟩:=r;obtain⟨y,n,rfl,a,k⟩:=e;cases (show n=[] from k);exact⟨x,y,rfl,p,a⟩
theorem Ac{K:FG}{F:Aa}{H:Hp}{d:P}{s:List V}(r:cz K F H [d] s):∃x,s=[x]/\RP K F H d x:=by obtain⟨x,h,rfl,p,a⟩:=r;cases (show h=[] from a);exact⟨x,rfl,p⟩
theorem Gq(c:X.c=true):ez X (.builtin "min") (rC X.K p6):=by
 intro G s J H b u Q I r h;obtain⟨F,n,d,f,e,q,k⟩:=h;unfold p6 at q;split at q
 .cases q;obtain⟨x,y,rfl,p,a⟩:=Pw e;exact AH c G s J H _ u Q I r ⟨_,_,by rw[show x=_ from p,show y=_ from a],k _ F H .refl rfl⟩
 .cases q
theorem Gr:ez X (.type "int") (rC X.K zV):=by
 intro G s J H n u Q I r h;obtain⟨F,e,d,f,a,q,k⟩:=h;unfold zV at q;split at q
 .cases q;obtain⟨x,rfl,p⟩:=Ac a;exact rf G s J H _ u Q I r (.inl ⟨_,by rw[show x=_ from p],k _ F H .refl rfl⟩)
 .cases q;obtain⟨x,rfl,p⟩:=Ac a;exact rf G s J H _ u Q I r (.inr ⟨_,by rw[show x=_ from p],k _ F H .refl rfl⟩)
 .cases q
theorem K3(g:Gl X "min")(m:X.g "min"=none)(a:PA X (e::es) (qi X.K fs))(c:X.c=true:=by rfl)
  (x:starEach (e::es) X.e=(false,eval e X.e)::starEach es X.e:=by rfl) (h:(backTo B (starEach es X.e)).any (·.1)=false:=by rfl):PE X (.Call (.Name "min" p) (e::es) [] B) (tV X.K (au p6 fs)):=Bn (Gq c) g m Es a (by decide) (by decide) x h
end
section
variable{X:Cx}{a b c e:Expr}{es:Ab}{N T r:EV}{fs:kB}{B p:Pos}
abbrev AD:P->P->Option P:=QN
theorem Mq(_:X.A.units+1 < cLine):m9 X (compareOp .Eq) AD:=PU
noncomputable def signs(x:Str):List P:=x.cps.toList.map λc=>.str ⟨#[c]⟩
noncomputable def QU(x:Str):It:=⟨λi _=>i < x.cps.size,λi H v h=>h=H/\∃c,x.cps[i]? = some c/\v=.str ⟨#[c]⟩,λi _=>x.cps.size≤i⟩
theorem qC{P:Program}{w:World}{K:FG}{Q:Expr}(n:Addr)(x:Str)(t:Tok):Turn P w K Q (QU x) [n] n (λi h=>h.IsStrIter n "str_ascii_iterator" x t i) where
 mem:=by simp
 obj:=λi h st b a=>by
  have e:b=n:=by simpa using a
  subst e;obtain⟨o,e,c,d⟩:=st;exact⟨o,e,λv z=>by rw[d]at z;cases z⟩
 keep:=λi h m st k=>let ⟨o,e,r⟩:=st;⟨o,k n (by simp) o e,r⟩
 item:=by
  intro X F A S B i G s J H E I p st g;subst F A S;obtain⟨q,u,M,j,l,y⟩:=p n (by simp);have C:x.cps[i]? = some (x.cps[i]'g):=Array.getElem?_eq_getElem g;refine wpAny_pyNext_ascii_item st C λm f N=>?_
  have D:L2.Inv X G J H { s with heap:=m,toks:=s.toks+1 }:=I.turned (λb o a e=>(N.2 b a).trans e) q u j l y;obtain⟨o,e,c,d⟩:=id f;exact⟨_,rfl,vf (s:={ s with heap:=m,toks:=s.toks+1 }) e c d (by decide) ⟨.str ⟨#[x.cps[i]'g]⟩,H,D,⟨_,rfl⟩,⟨rfl,_,C,rfl⟩,f,λb a=>(p b a).1⟩⟩
 done:=by intro X F A S B i G s J H E I p st g;subst F A S;obtain⟨q,u,M,j,l,y⟩:=p n (by simp);exact wpAny_pyNext_ascii_end (I.o.hd B) st (by rw[Array.getElem?_eq_none_iff];exact g) λm L=>⟨rfl,I.turned (t':=s.toks) (λb o a e=>L b o a e) q u j l y⟩
 self:=λ_ _ _ _ _ st h=>wpAny_pyIter_striter_ascii st h
theorem CN{K:FG}{F:Aa}{m:List Addr}{H:Hp}{x:Str}:Hy K (QU x) (signs x) F m H:=by
 intro a r f s;have h:(signs x).length=x.cps.size:=by unfold signs;simp
 refine⟨λi v e=>?_,by show x.cps.size≤(signs x).length;rw[h];exact aq _⟩;have k:i < x.cps.size:=by rw[<- h];exact(bK.mp e).1
 refine⟨k,λy b z=>?_⟩;obtain⟨rfl,c,n,rfl⟩:=z;refine⟨a,.refl,?_⟩;unfold signs at e;rw[lP,yE,n]at e;cases e;exact rfl
@[simp] def DV(a:EV)(L:Lc)(S:aP):EJ:=bA (a L S) λv h=>match v with
 | .lst s=>some (s,h)
 | .ro s=>some (s,h)
 | .tup s=>some (s,h)
 | .str x=>if (x.cps.all (· < 128))=true then some (signs x,h) else none
 |_=>none
theorem iS{T iter:Expr}(h:PE X iter (tV X.K N)):PI X T iter (tI X.K (DV N)):=by
 intro G s J H R I ⟨F,m,L,S,vs,S',r,l,q,k⟩;obtain⟨v,B,e1,q⟩:=aj q;refine bF (h G s J H (λx f=>∃d g,Stp F m H d g f/\Rel X.K d f g B/\RP X.K d f v x) I ⟨F,m,L,S,v,B,r,l,e1,λx d g f n D j=>⟨d,g,n,D,j⟩⟩) λu n C=>?_
 obtain⟨x,f,c,E,d,g,st,D,j⟩:=C;have mk:∀{M:It},Hy X.K M vs d g f->B=S'->R M f:=λit e=>by subst e;exact k _ d g f st D it
 have i:∀{a:Addr}{A:List V},x=.ref a->jA X.K f a A->R (Oz X.K a) f->wpAny (model X.p X.w) X.A (pyIter u) (KH X G J T R) X.xe n:=λ{a A} e hq q=>by
  subst e;cases E;obtain⟨K,rv,p,C⟩:=c.list hq;refine mH p.isList ?_;refine⟨n.heap.objs.size,[n.heap.objs.size],_,_,f,rfl,c.kept (t':=n.toks) λb o e=>aJ _ e,qD a _,⟨_,aS _ rfl,rfl,rfl⟩,λb y=>?_,q⟩;have e:b=n.heap.objs.size:=by simpa using y
  subst e;exact c.fpOk (aq _) (c.h.fresh (aq _))
 cases v with
 |lst Q=>cases q;obtain⟨a,A,rfl,w,P⟩:=j;exact i rfl w.sq (mk (tU (λW m2 Z s=>(w.kp s.kp).sq) P) rfl)
 |ro Q=>cases q;obtain⟨a,A,rfl,w,P⟩:=j;exact i rfl w.sq (mk (tU (λW m2 Z s=>(w.kp s.kp).sq) P) rfl)
 |tup Q=>
  cases q;obtain⟨a,A,rfl,w,P⟩:=j;cases E;obtain⟨K,rv,pp,C⟩:=c.tuple w.sq;refine mJ (show n.heap.IsTuple a K.toArray from pp) ?_;refine⟨n.heap.objs.size,[n.heap.objs.size],_,_,f,rfl,c.kept (t':=n.toks) λb o e=>aJ _ e,o_ a _,⟨_,aS _ rfl,rfl,rfl⟩,λb y=>?_,mk (CO w P) rfl⟩;have e:b=n.heap.objs.size:=by simpa using y
  subst e;exact c.fpOk (aq _) (c.h.fresh (aq _))
 |str z=>
  dsimp only at q;split at q
  .rename_i ha;cases q;cases (show x=.str z from j);obtain⟨t,rfl⟩:=(show ∃t,u=Value.str z t from E);refine AX ha ?_;refine⟨n.heap.objs.size,[n.heap.objs.size],_,_,f,rfl,c.kept (t':=n.toks) λb o e=>aJ _ e,qC _ z t,⟨_,aS _ rfl,rfl,rfl⟩,λb y=>?_,mk CN rfl⟩;have e:b=n.heap.objs.size:=by simpa using y
   subst e;exact c.fpOk (aq _) (c.h.fresh (aq _))
  .cases q
 |_=>cases q
end
section
variable{X:Cx}{B p:Pos}
noncomputable abbrev DE:=List (Str×EV)
noncomputable def xh:DE:=[]
noncomputable def hW(k:Str)(f:EV)(r:DE):DE:=(k,f)::r
def sO:DE->kB
 | []=>af
 |(_,f)::r=>ab f (sO r)
noncomputable def l_(l:DE):List d8:=l.map λx=>.inr x.1
def o9(l:DE):EV:=λL S=>bA (sO l L S) λv h=>if (l_ l).Nodup/\l.length≤15 then some (.dct (l_ l) v,h) else none
def Lo(K:FG)(l:DE):List (TE×TE):=l.map λx=>(tV K (vC (.str x.1)),tV K x.2)
def KD(X:Cx)(B:Pos)(k:List (Option Expr))(v:Ab)(l:DE):Prop:=NI X B k v (Lo X.K l)
theorem P':KD X B [] [] xh:=Fh
theorem MZ(hk:PE X u (tV X.K (vC (.str x))))(a:PE X v (tV X.K f))(h:KD X B ks vs a0):KD X B (some u::ks) (v::vs) (hW x f a0):=B6 hk a h
theorem uQ{K:FG}{J:L2.St}{L:Lc}:∀{l:DE}{F:Aa}{m:List Addr}{H:Hp}{S a:aP}{e:List P}{Q:List (V×V)->Hp->Prop},Rel K F H m S->RL K F H m J L->sO l L S=some (e,a) ->
  (∀s n c h,Stp F m H n c h->Rel K n h c a->cz K n h e s->Q ((l.map (·.1)).zipWith (λk x=>(V.str k,x)) s) h)->sW (Lo K l) J H Q
 | [],F,m,H,S,a,e,Q,r,l,q,k=>by cases q;exact k [] F m H .refl r rfl
 |(x,f)::t,F,m,H,S,a,e,Q,r,l,q,k=>by obtain⟨y,j,z,q⟩:=aj (show bA (f L S) _=_ from q);obtain⟨Z,W,o,q⟩:=aj q;cases q;refine⟨F,m,L,S,.str x,S,r,l,rfl,λv u A R b G C=>?_⟩;refine⟨u,A,L,S,y,j,G,l.mono b,z,λw N X T p I D=>?_⟩;refine uQ I ((l.mono b).mono p) o λs g B i d M E=>?_;cases (show v=.str x from C);exact k (w::s) g B i (b.trans (p.trans d)) M ⟨w,s,rfl,RP.mono d D,E⟩
theorem l8:∀{m s:List (d8×V)},((s++m).map (·.1)).Nodup->jR s m=s++m
 | [],s,_=>by simp[jR]
 |(k,v)::m,s,n=>by
  have hk:iV s k=none:=by
   cases e:iV s k with
   |none=>rfl
   |some w=>
    exfalso;unfold iV at e;cases f:s.find? (λb=>decide (b.1=k)) with
    |none=>rw[f]at e;cases e
    |some q=>have h:=sF f;have x:=sr f;have a:q.1=k:=aG x;rw[yj,yo]at n;exact n.2.2 q.1 (fP.mpr ⟨q,h,rfl⟩) k (by simp) a
  show jR (putK s k v) m=_;rw[B1 v hk,l8 (by simpa using n)];simp
theorem o7:∀{l:DE}{L:Lc}{S a:aP}{v:List P},sO l L S=some (v,a)->v.length=l.length
 | [],L,S,a,v,h=>by cases h;rfl
 |(x,f)::r,L,S,a,v,h=>by obtain⟨y,s,k,q⟩:=aj (show bA (f L S) _=_ from h);obtain⟨b,n,e,q⟩:=aj q;cases q;rw[ak,ak,o7 e]
theorem Bi{l:DE}{s:List V}(h:s.length=l.length):(l.map (·.1)).zipWith (λk x=>(V.str k,x)) s=((l_ l).zip s).map (λv=>(kV v.1,v.2)):=by
 unfold l_;induction l generalizing s with
 |nil=>cases s<;>rfl
 |cons q l i=>
  cases s with
  |nil=>rfl
  |cons x s=>simp only[a6,List.zipWith_cons_cons,lQ];rw[i (by simpa using h)];rfl
theorem sL:∀{s:List d}{a:List v},s.length=a.length->(s.zip a).map (·.1)=s
 | [],[],_=>rfl
 |x::s,y::a,h=>by rw[lQ,a6,sL (by simpa using h)]
theorem yV:∀{a:List d}{s:List v},a.length=s.length->(a.zip s).map (·.2)=s
 | [],[],_=>rfl
 |x::a,y::s,h=>by rw[lQ,a6,yV (by simpa using h)]
theorem Ld(h:KD X B keys values v)(t:keys.all (·.isSome)=true)(I:keys.length=values.length)(G:keys≠[])(j:keys.length≤15):PE X (.Dict keys values B) (tV X.K (o9 v)):=
 (Fw h t I G j).imp' λJ H Q M=>by
  obtain⟨F,m,L,S,d,V,r,T,q,k⟩:=M;obtain⟨Z,W,y,q⟩:=aj q;split at q
  .rename_i o;cases q;intro p e;have i:Grow F H F (cJ H p (.dK [])):=cu e;refine uQ (r.grow i) (T.mono (i.stp (m:=m))) y λw c f n g R D=>?_
   have l:w.length=v.length:=by rw[<- D.length,o7 y]
   have a:(l_ v).length=w.length:=by unfold l_;rw[d3,l]
   have s:n p=some (.dK []):=g.oth p _ ba (r.fresh_m e);refine⟨s,(l_ v).zip w,Bi l,by rw[yi,a,l];simpa using o.2,?_⟩;rw[l8 (s:=[]) (by rw[cI,sL a];exact o.1),cI];have K:¬c p:=λz=>by
    rcases g.nf p z with z|z|z
    .exact r.fresh_F e z
    .rw [ba]at z;cases z
    .exact r.fresh_m e z
   have A:p ∉ f:=λz=>by
    rcases g.nm p z with z|z
    .exact r.fresh_m e z
    .rw [ba]at z;cases z
   have C:∀E,n p≠some (.tup E):=λE z=>by rw[s]at z;cases z
   have P:∀x u,n p≠some (.frz x (.own u)):=λx u z=>by rw[s]at z;cases z
   have N:Kp c f n c f (cJ n p (.dK ((l_ v).zip w))):=Kp.bump K C P;have st:Stp F m H c f (cJ n p (.dK ((l_ v).zip w))):=((i.stp (m:=m)).trans g).bump e;refine k (.ref p) (λb=>c b\/b=p) f _ (st.addF e) ((R.bump K A C P).addF A (by rw[ba];exact λz=>nomatch z)) ⟨p,_,rfl,.inr rfl,ba,sL a,?_⟩;rw[yV a];exact cz.kp (m:=f) P8 (cz.kp N D)
  .cases q
end
noncomputable def ig:Nat->P->Bool
 |_,.non=>true
 |_,.bl _=>true
 |_,.int _=>true
 |_,.str x=>fj x
 |n+1,.tup s=>s.all (ig n)
 |n+1,.lst s=>s.all (ig n)
 |n+1,.ro s=>s.all (ig n)
 |_,_=>false
variable{n:Nat}
theorem oH:∀{s:List P},(∀d ∈ s,(pd d).canLay0=true/\(pd d).depth≤n)->uu (vS s)=true/\o4 (vS s)≤n
 | [],_=>⟨rfl,bJ _⟩
 |d::r,h=>by obtain⟨⟨p,a⟩,q⟩:=List.forall_mem_cons.mp h;obtain⟨x,e⟩:=oH q;exact⟨by simp only[vS,uu,p,x,yz],by simp only[vS,o4];lia⟩
theorem hJ:∀(n:Nat)(p:P),ig n p=true->(pd p).canLay0=true/\(pd p).depth≤n
 |_,.non,_=>⟨rfl,bJ _⟩
 |_,.bl _,_=>⟨rfl,bJ _⟩
 |_,.int _,_=>⟨rfl,bJ _⟩
 |n,.str x,h=>⟨by cases n<;>exact h,bJ _⟩
 |n,.dct _ _,h=>by cases n<;>cases h
 |0,.tup _,h=>by cases h
 |0,.lst _,h=>by cases h
 |0,.ro _,h=>by cases h
 |n+1,.tup s,h=>by obtain⟨a,b⟩:=oH λd e=>hJ n d (bj.mp h d e);exact⟨a,by simp only[pd,qw];lia⟩
 |n+1,.lst s,h=>by obtain⟨a,b⟩:=oH λd e=>hJ n d (bj.mp h d e);exact⟨a,by simp only[pd,qw];lia⟩
 |n+1,.ro s,h=>by obtain⟨a,b⟩:=oH λd e=>hJ n d (bj.mp h d e);exact⟨a,by simp only[pd,qw];lia⟩
theorem i6(h:ig 20 p=true):SeqAt.shaped (pd p)=true:=by obtain⟨x,a⟩:=hJ 20 p h;unfold SeqAt.shaped;rw[x,Bool.true_and];exact eY (by lia)
section
variable{X:Cx}{G:PN}{J:L2.St}{H:Hp}{s:Shared}{F:Aa}
theorem hI(o:∀{p:P}{v:V}{u:Value},RP X.K F H p v->RelV v u->ig n p=true->∃k,Reads s.heap u (pd p) k) :
  ∀{f:List P}{a:List V}{b:LV},cz X.K F H f a->a8 a b->(∀d ∈ f,ig n d=true)->∃k,ReadsAll s.heap b (vS f) k
 | [],a,b,r,v,_=>by cases (show a=[] from r);cases v;exact⟨_,.nil⟩
 |d::f,a,b,r,v,h=>by
  obtain⟨x,i,rfl,p,r⟩:=r;cases v with
  |cons w t=>obtain⟨k,q⟩:=o p w (h d (.head _));obtain⟨g,m⟩:=hI o r t λe c=>h e (.tail _ c);exact⟨_,.cons q m⟩
theorem pr(I:Inv X G J H s):∀(n:Nat){p:P}{v:V}{u:Value},RP X.K F H p v->RelV v u->ig n p=true->∃w,Reads s.heap u (pd p) w:=by
 intro n;induction n with
 |zero=>
  intro p v u r k h;cases p with
  |non=>cases (show v=.non from r);cases k;exact⟨_,.none⟩
  |bl b=>cases (show v=.bl b from r);cases k;exact⟨_,.bool b⟩
  |int i=>cases (show v=.int i from r);obtain⟨t,rfl⟩:=k;exact⟨_,.int i t⟩
  |str x=>cases (show v=.str x from r);obtain⟨t,rfl⟩:=k;exact⟨_,.str x t⟩
  |_=>simp[ig]at h
 |succ n y=>
  intro p v u r k h;cases p with
  |non=>cases (show v=.non from r);cases k;exact⟨_,.none⟩
  |bl b=>cases (show v=.bl b from r);cases k;exact⟨_,.bool b⟩
  |int i=>cases (show v=.int i from r);obtain⟨t,rfl⟩:=k;exact⟨_,.int i t⟩
  |str x=>cases (show v=.str x from r);obtain⟨t,rfl⟩:=k;exact⟨_,.str x t⟩
  |dct A B=>simp[ig]at h
  |tup z=>obtain⟨a,K,rfl,l,j⟩:=r;cases k;obtain⟨g,f,⟨o,e,c,m,d⟩,S⟩:=I.tuple l.sq;obtain⟨w,q⟩:=hI y j f (by simpa[ig] using h);rw[pd];exact⟨w,reads_tuple_at e c d (by simpa using q)⟩
  |lst z=>obtain⟨a,K,rfl,l,j⟩:=r;cases k;obtain⟨g,f,⟨o,m,e,c,_,d⟩,S⟩:=I.list l.sq;obtain⟨w,q⟩:=hI y j f (by simpa[ig] using h);rw[pd];exact⟨_,rW e c d (by simpa using q)⟩
  |ro z=>obtain⟨a,K,rfl,l,j⟩:=r;cases k;obtain⟨g,f,⟨o,m,e,c,_,d⟩,S⟩:=I.list l.sq;obtain⟨w,q⟩:=hI y j f (by simpa[ig] using h);rw[pd];exact⟨_,rW e c d (by simpa using q)⟩
end
noncomputable def qm(f:D->Option P):List D->Option (List P)
 | []=>some []
 |d::r=>(f d).bind λv=>(qm f r).map λs=>v::s
def dO(S:aP):Nat->D->Option P
 |_,.p v=>some v
 |0,.ref _=>none
 |n+1,.ref i=>match S[i]? with
  |some (.lst d)=>(qm (dO S n) d).map .lst
  |some (.fz v)=>some v
  |_=>none
@[simp] theorem wO(S:aP)(n:Nat)(v:P):dO S n (.p v)=some v:=by cases n<;>rfl
section
variable{X:Cx}{G:PN}{J:L2.St}{H:Hp}{s:Shared}{F:Aa}{m:List Addr}{S:aP}
theorem pF(o:∀{d:D}{v:V}{u:Value}{p:P},RD X.K F H m d v->RelV v u->dO S n d=some p->ig a0 p=true->∃c,Reads s.heap u (pd p) c) :
  ∀{f:List D}{b:List V}{t:LV}{k:List P},d7 X.K F H m f b->a8 b t->qm (dO S n) f=some k->(∀d ∈ k,ig a0 d=true)->∃c,ReadsAll s.heap t (vS k) c
 | [],b,t,k,r,v,q,_=>by cases (show b=[] from r);cases v;cases q;exact⟨_,.nil⟩
 |d::f,b,t,k,r,v,q,h=>by
  obtain⟨x,C,rfl,p,r⟩:=r;obtain⟨y,j,q⟩:∃a,dO S n d=some a/\(qm (dO S n) f).map (λA=>a::A)=some k:=by
   cases e:dO S n d with
   |none=>simp[qm,e]at q
   |some a=>exact⟨a,rfl,by simpa[qm,e] using q⟩
  obtain⟨E,l,rfl⟩:∃a,qm (dO S n) f=some a/\k=y::a:=by
   cases e:qm (dO S n) f with
   |none=>rw[e]at q;cases q
   |some a=>rw[e]at q;cases q;exact⟨a,rfl,rfl⟩
  cases v with
  |cons K z=>obtain⟨c,g⟩:=o p K j (h y (.head _));obtain⟨B,w⟩:=pF o r z l λe i=>h e (.tail _ i);exact⟨_,.cons g w⟩
theorem di(I:Inv X G J H s)(y:Rel X.K F H m S):∀(n k:Nat){d:D}{v:V}{u:Value}{p:P},RD X.K F H m d v->RelV v u->dO S n d=some p->ig k p=true->∃b,Reads s.heap u (pd p) b:=by
 intro n;induction n with
 |zero=>
  intro k d v u p r x q h;cases d with
  |p w=>rw[wO]at q;cases q;exact pr I k r x h
  |ref i=>cases q
 |succ n B=>
  intro k d v u p r x q h;cases d with
  |p w=>rw[wO]at q;cases q;exact pr I k r x h
  |ref i=>
   obtain⟨a,rfl,g⟩:=r;have A:i < S.length:=by rw[<- y.len];exact(bK.mp g).1
   obtain⟨o,j⟩:∃o,S[i]? = some o:=⟨S[i],by simp[A]⟩;have l:=y.obj i a o g j;simp only[dO,j]at q;cases o with
   |fz w=>cases q;exact pr I k l x h
   |dct M t=>cases q
   |ins _ _ _=>cases q
   |dtn _ _=>cases q
   |dtt _ _=>cases q
   |fn _=>cases q
   |lst t=>
    dsimp only at q;cases e:qm (dO S n) t with
    |none=>rw[e]at q;cases q
    |some Q=>
     rw[e]at q;cases q;cases k with
     |zero=>simp[ig]at h
     |succ k=>obtain⟨R,K,E⟩:=l;cases x;obtain⟨C,f,⟨o,N,z,c,_,d⟩,L⟩:=I.list (jA.of K);obtain⟨b,q⟩:=pF (a0:=k) (λr x q h=>B k r x q h) E f e (by simpa[ig] using h);rw[pd];exact⟨_,rW z c d (by simpa using q)⟩
theorem i3(l:Rel X.K F H m S)(r:RD X.K F H m u v)(q:dO S n u=some p)(f:∀s,p≠.lst s/\p≠.tup s):RP X.K F H p v:=by
 cases u with
 |p w=>rw[wO]at q;cases q;exact r
 |ref i=>
  cases n with
  |zero=>cases q
  |succ n=>
   obtain⟨a,rfl,h⟩:=r;have k:i < S.length:=by rw[<- l.len];exact(bK.mp h).1
   obtain⟨o,x⟩:∃o,S[i]? = some o:=⟨S[i],by simp[k]⟩;have b:=l.obj i a o h x;simp only[dO,x]at q;cases o with
   |fz w=>cases q;exact b
   |dct t d=>cases q
   |ins _ _ _=>cases q
   |dtn _ _=>cases q
   |dtt _ _=>cases q
   |fn _=>cases q
   |lst d=>
    dsimp only at q;cases e:qm (dO S n) d with
    |none=>rw[e]at q;cases q
    |some c=>rw[e]at q;cases q;exact absurd rfl (f c).1
end
inductive rEI(K:FG)(g:D->D->aP->Option P)(x:V)(y:V)(H:Hp)(Q:VK):Prop
 |mk (F:Aa) (m:List Addr) (S:aP) (d:D) (e:D) (v:P) (h0_:Rel K F H m S) (h1_:RD K F H m d x) (h2_:RD K F H m e y) (h3_:g d e S=some v) (h4_:∀u F' H',Grow F H F' H'->RP K F' H' v u->Q u H'):rEI K g x y H Q
noncomputable def rE(K:FG)(g:D->D->aP->Option P):R2:=λx y H Q=>rEI K g x y H Q
@[simp] def aI(g:D->D->aP->Option P)(a b:EE)(L:Lc)(S:aP):tyV:=bA (a L S) λx e=>bA (b L e) λy h=>(g x y h).map λv=>(v,h)
section
variable{X:Cx}{a b:Expr}{N T:EE}{B:Pos}
theorem y7(h:tV X.K (aI a0 N T) J H a1):GR (rE X.K a0) (tE X.K N) (tE X.K T) J H a1:=by
 obtain⟨F,m,L,S,d,o,r,l,q,k⟩:=h;obtain⟨x,a,K,q⟩:=aj q;obtain⟨y,s,P,q⟩:=aj q;refine⟨F,m,L,S,x,a,r,l,K,λv t A G b E B=>?_⟩;refine⟨t,A,L,a,y,s,E,l.mono b,P,λu p n I c f C=>?_⟩;cases e:a0 x y s with
 |none=>rw[e]at q;cases q
 |some z=>rw[e]at q;cases q;exact⟨p,n,o,x,y,_,f,RD.mono c B,C,e,λw i j g D=>k w i n j (b.trans (c.trans g.stp)) (f.grow g) D⟩
theorem Lg(o:iC X (compareOp u) (rE X.K v))(x:PE X a (tE X.K N))(e:PE X b (tE X.K T))(m:behindInMarks u b=false):PE X (.Compare a [u] [b] B) (tV X.K (aI v N T)):=
 (zh o x e m).imp' λ_ _ _ h=>y7 h
theorem KY(o:iC X (compareOp op) (rE X.K u))(c:PE X a (tE X.K N))(t:PE X b (tE X.K T))(w:behindInMarks op b=false):PT X (.Compare a [op] [b] B) (tQ X.K (bV (aI u N T))):=
 (zf o c t w).imp' λJ H Q h=>by
  refine y7 ?_;obtain⟨F,m,L,S,d,j,r,l,q,k⟩:=h;obtain⟨x,y,f,q⟩:=aj q;cases x with
  |bl b=>cases q;exact⟨F,m,L,S,_,_,r,l,f,λv e g n s i p=>⟨_,p,k e g n s i⟩⟩
  |_=>cases q
end
def JI(x y:P):Option Bool:=match AD x y with
 |some (.bl b)=>some b
 |_=>if (ig 20 x && ig 20 y)=true then some (eF (pd x) (pd y)) else none
def eB(d e:D)(S:aP):Option P:=(dO S 9 d).bind λx=>(dO S 9 e).bind λy=>(JI x y).map .bl
def neD(x y:P):Option Bool:=match Ho x y with
 |some (.bl b)=>some b
 |_=>if (ig 20 x && ig 20 y)=true then some (!PyData.eqv (pd x) (pd y)) else none
def lA(d e:D)(S:aP):Option P:=(dO S 9 d).bind λx=>(dO S 9 e).bind λy=>(neD x y).map .bl
noncomputable def qZ(c:D)(S:aP):Option (List d8):=match c with
 | .p (.dct k _)=>some k
 | .ref i=>match S[i]? with
  |some (.dct k _)=>some k
  |some (.fz (.dct k _))=>some k
  |_=>none
 |_=>none
noncomputable def JA(k:d8)(s:List d8):Bool:=s.any λh=>decide (h=k)
def QJ(d c:D)(S:aP):Option Bool:=match qZ c S with
 |some s=>(dO S 9 d).bind λx=>(kT x).map λk=>JA k s
 |none=>none
def Qe(d c:D)(S:aP):Option P:=(QJ d c S).map .bl
theorem xi(h:AD x v=some b):(∀s,x≠.lst s/\x≠.tup s)/\∀s,v≠.lst s/\v≠.tup s:=by
 refine⟨λs=>⟨λe=>?_,λe=>?_⟩,λs=>⟨λe=>?_,λe=>?_⟩⟩
 .subst e;cases v<;>cases h
 .subst e;cases v<;>cases h
 .subst e;cases x<;>cases h
 .subst e;cases x<;>cases h
section
variable{X:Cx}
theorem Mp(o:X.A.units+64 < cLine):iC X (compareOp .Eq) (rE X.K eB):=by
 intro G s J H x y v u Q I j z h;obtain⟨F,m,S,d,e,r,l,g,i,q,k⟩:=h;unfold eB at q;cases t:dO S 9 d with
 |none=>rw[t]at q;cases q
 |some a=>
  rw[t]at q;cases p:dO S 9 e with
  |none=>rw[p]at q;cases q
  |some b=>
   rw[p]at q;simp only[lG]at q;cases n:JI a b with
   |none=>rw[n]at q;cases q
   |some c=>
    rw[n]at q;cases q;unfold JI at n;split at n
    .rename_i E w;cases n;obtain⟨K,P⟩:=xi w;exact Mq (by lia) G s J H x y v u Q I j z ⟨F,a,b,.bl c,l.ft,i3 l g t K,i3 l i p P,w,k⟩
    .split at n
     .rename_i f;rw[aE]at f;cases n;obtain⟨C,A⟩:=di I l 9 20 g j t f.1;obtain⟨D,B⟩:=di I l 9 20 i z p f.2;exact eq_dataH A B (i6 f.1) (i6 f.2) o ⟨.bl _,H,I,rfl,k _ F H .refl rfl⟩
     .cases n
theorem AC(h:Ho x v=some b):(∀s,x≠.lst s/\x≠.tup s)/\∀s,v≠.lst s/\v≠.tup s:=by
 refine⟨λs=>⟨λe=>?_,λe=>?_⟩,λs=>⟨λe=>?_,λe=>?_⟩⟩
 .subst e;cases v<;>cases h
 .subst e;cases v<;>cases h
 .subst e;cases x<;>cases h
 .subst e;cases x<;>cases h
theorem Mh(o:X.A.units+64 < cLine):iC X (compareOp .NotEq) (rE X.K lA):=by
 intro G s J H x y v u Q I j z h;obtain⟨F,m,S,d,e,r,l,g,i,q,k⟩:=h;unfold lA at q;cases t:dO S 9 d with
 |none=>rw[t]at q;cases q
 |some a=>
  rw[t]at q;cases p:dO S 9 e with
  |none=>rw[p]at q;cases q
  |some b=>
   rw[p]at q;simp only[lG]at q;cases n:neD a b with
   |none=>rw[n]at q;cases q
   |some c=>
    rw[n]at q;cases q;unfold neD at n;split at n
    .rename_i E w;cases n;obtain⟨K,P⟩:=AC w;exact PL G s J H x y v u Q I j z ⟨F,a,b,.bl c,l.ft,i3 l g t K,i3 l i p P,w,k⟩
    .split at n
     .rename_i f;rw[aE]at f;cases n;obtain⟨C,A⟩:=di I l 9 20 g j t f.1;obtain⟨D,B⟩:=di I l 9 20 i z p f.2;exact ne_dataH A B (i6 f.1) (i6 f.2) o ⟨.bl _,H,I,rfl,k _ F H .refl rfl⟩
     .cases n
theorem l0(x:P):∀s:List P,(vS s).any (λy=>eF y (pd x))=s.any λy=>eF (pd y) (pd x)
 | []=>rfl
 |y::r=>by rw[vS,fQ,fQ,l0 x r]
theorem G'(h:v.all (ig 19)=true):uu (vS v)=true/\o4 (vS v)≤20:=by have l:=hJ 20 (.lst v) h;simp only[pd,A9,qw]at l;have x:=l.2;exact⟨l.1,by lia⟩
theorem z5:(iV u v).isSome=JA v (u.map (·.1)):=by
 induction u with
 |nil=>rfl
 |cons p r i=>
  unfold JA at i ⊢;by_cases h:p.1=v
  .rw [iD h,a6,fQ,eY h];rfl
  .rw [gf h,i,a6,fQ,a7 h];rfl
theorem Do{K:FG}{F:Aa}{H:Hp}{m:List Addr}{S:aP}{c:D}{y:V}{s:List d8}(r:Rel K F H m S)(p:RD K F H m c y)(q:qZ c S=some s):∃a k,y=.ref a/\H a=some (.dK k)/\k.map (·.1)=s:=by
 unfold qZ at q;split at q
 .cases q;obtain⟨a,k,e,_,hk,h,_⟩:=p;exact⟨a,k,e,hk,h⟩
 .rename_i i;obtain⟨a,rfl,x⟩:=p;split at q
  .rename_i o;cases q;obtain⟨k,hk,h,_⟩:=r.obj i a _ x o;exact⟨a,k,rfl,hk,h⟩
  .rename_i o;cases q;obtain⟨b,k,e,_,hk,h,_⟩:=r.obj i a _ x o;cases e;exact⟨a,k,rfl,hk,h⟩
  .cases q
 .cases q
theorem Ml(A:X.A.units+64 < cLine):iC X (compareOp .In) (rE X.K Qe):=by
 intro G s J H x y v u Q I K P h;obtain⟨F,m,S,d,e,r,l,j,o,q,k⟩:=h;unfold Qe QJ at q;cases c:qZ e S with
 |some B=>
  rw[c]at q;dsimp only at q;cases f:dO S 9 d with
  |none=>rw[f]at q;cases q
  |some a=>
   rw[f]at q;simp only[lG]at q;cases n:kT a with
   |none=>rw[n]at q;cases q
   |some w=>rw[n]at q;cases q;obtain⟨b,g,rfl,hk,p⟩:=Do l o c;have i:RP X.K F H a x:=i3 l j f λD=>⟨λz=>(by subst z;cases n),λz=>(by subst z;cases n)⟩;cases P;cases ma n i;exact Qi (by lia) I (nS.k hk) K λC t=>⟨.bl _,H,t,rfl,by rw[z5,p];exact k _ F H .refl rfl⟩
 |none=>rw[c]at q;cases q
end
section
variable{j:Program}{w:World}{A:Around}{E:VP}{s:Shared}
theorem qY(f:v≠it):∀(n i:Nat)(s:Shared)(Q:LV->Shared->Prop),s.heap.IsListIter it v i->s.heap.IsList v u->i+n≤u.size ->
  (∀c,c.IsListIter it v (i+n)->dC it s.heap c->Q ((u.toList.drop i).take n) { s with heap:=c })->wpAny (model j w) A (draw (.ref it) n) Q E s
 |0,i,s,Q,e,_,_,m=>by show wpAny _ _ (pure []) Q E s;exact aF (by simpa using m s.heap e (Heap.SameBut.refl ..))
 |n+1,i,s,Q,e,r,q,m=>by
  have l:i < u.size:=by lia
  show wpAny _ _ (pyNext (.ref it) >>= _) Q E s;refine ag (wo e r (x:=u[i]) (by simp[l]) λp t h=>?_);refine ag (k0 (qY f n (i+1) _ _ t (r.extBut h.extBut f) (by lia) λb a k=>aF ?_));have d:u.toList.drop i=u[i]::u.toList.drop (i+1):=by simp[lS,l]
  have:=m b (by rw[show i+(n+1)=i+1+n by lia];exact a) (h.trans k);rw[d,List.take_succ_cons]at this;exact this
theorem mP(r:A.handled=none)(n:s.heap.IsList v items)
  (Q:∀c,kj s.heap.objs.size s.heap c->u items.toList { s with heap:=c }):wpAny (model j w) A (unpackItems (.ref v) items.size none) u E s:=by
 have l:v≠s.heap.objs.size:=by obtain⟨o,p,_⟩:=n;exact bg (az p)
 unfold unpackItems;refine ag ?_
 .unfold notIterableAtAll;refine ag (yH n.typeIs slot_list_iter.lookup ?_);refine aF ?_;simp only[oy,fN];refine ag (k0 (mH n ?_));refine ag (k0 (qY l items.size 0 _ _ ⟨_,aS _ rfl,rfl,rfl⟩ (n.push _) (by lia) λk i h=>?_));have a:List.take items.size (List.drop 0 items.toList)=items.toList:=by
   rw[kt];exact ow (by simp)
  rw[a];rw[ae (by simp)];have t:k.IsList v items:=(n.push _).extBut h.extBut l;refine ag (k0 (wn r i t (by simp) λf x=>?_));simp only[Option.isSome_none,oy,fN];refine aF (Q f λb o m e=>x b o m (h.extBut b o m (aJ _ e)))
theorem mw {x1} (a:A.handled=none) (e:s.heap.IsList v items)
  (n:(assignEach elts k).length=items.size) (t:(assignEach elts k).findIdx? (·.1)=none)
  (h:∀x,kj s.heap.objs.size s.heap x->wpAny (model j w) A (assignInOrder ((assignEach elts k).map (·.2)) items.toList) u E { s with heap:=x }) :
  wpAny (model j w) A (assign (.Tuple elts x1 B) k (.ref v)) u E s:=by
 rw[assign_Tuple];refine ag (v_ ?_);unfold unpack;rw[n,t];exact ag (k0 (mP a e h))
end
noncomputable def Qc(K:FG)(n:Nat)(t:Hx):TG:=λv J H Q=>∃a x,v=.ref a/\(rA K H a x\/jA K H a x)/\x.length=n/\t x J H Q
variable{B:Pos}{es:Ab}
theorem Ix(c:X.c=true)(h:KI X es a0)
  (k:(assignEach es X.e).length=n:=by rfl) (t:(assignEach es X.e).findIdx? (·.1)=none:=by rfl):PG X (.Tuple es a1 B) (Qc X.K n a0):=by
 intro G s J H v u Q I r w;obtain⟨a,m,x,q,l,w⟩:=w;rcases q with q|q
 .exact Iw c h k t G s J H v u Q I r ⟨a,m,x,q,l,w⟩
 subst x;cases r;obtain⟨j,f,g,z⟩:=I.list q;refine mw (I.o.hd c) g.isList (by simp[k,<- l,f.length]) t λd i=>?_
 have p:Inv X G J H { s with heap:=d }:=I.kept (t':=s.toks) λb o e=>i b o (bg (az e)) e;exact h G _ J H m _ Q p (by simpa using f) w
noncomputable def md:List kM->List P->Lc->Option Lc
 | [],[],L=>some L
 |g::s,v::x,L=>match g v L with
  |some h=>md s x h
  |none=>none
 |_,_,_=>none
def iF(g:List kM):kM:=λv L=>match v with
 | .tup s=>md g s L
 | .lst s=>md g s L
 |_=>none
theorem pL:∀{s:List kM}{x:List P}{L a:Lc},md s x L=some a->x.length=s.length
 | [],[],_,_,_=>rfl
 | [],_::_,_,_,h=>by cases h
 |_::_,[],_,_,h=>by cases h
 |g::s,v::x,L,a,h=>by
  unfold md at h;split at h
  .rw [ak,ak,pL h]
  .cases h
inductive gTsI(K:FG)(gs:List kM)(xs:List V)(J:L2.St)(H:Hp)(Q:L2.St->Hp->Prop):Prop
 |mk (F:Aa) (m:List Addr) (L:Lc) (vs:List P) (L':Lc) (h0_:RL K F H m J L) (h1_:cz K F H vs xs) (h2_:md gs vs L=some L') (h3_:∀J',RL K F H m J' L'->Q J' H):gTsI K gs xs J H Q
noncomputable def Rq(K:FG)(g:List kM):Hx:=λx J H Q=>gTsI K g x J H Q
inductive GsOk(X:Cx):Ab->List kM->Prop where
 |nil:GsOk X [] []
 |cons {x:Str}{p:Pos}{es:Ab}{g:kM}{gs:List kM}:PG X (.Name x p) (gT X.K g)->GsOk X es gs->GsOk X (.Name x p::es) (g::gs)
section
variable{X:Cx}{B:Pos}
theorem qv:assignEach (.Name x p::es) k=(false,assign (.Name x p) k)::assignEach es k:=rfl
theorem GsOk.len(h:GsOk X es v)(k:Env):(assignEach es k).length=v.length/\(assignEach es k).findIdx? (·.1)=none:=by
 induction h with
 |nil=>exact⟨rfl,rfl⟩
 |cons _ _ i=>rw[qv];refine⟨by rw[ak,ak,i.1],?_⟩;simp only[List.findIdx?_cons,i.2];rfl
theorem GsOk.pgs(h:GsOk X es gs):KI X es (Rq X.K gs):=by
 induction h with
 |nil=>
  intro G s J H b u Q I e ⟨F,m,L,a,n,l,r,q,k⟩;cases a with
  |nil=>cases q;cases (show b=[] from r);exact Fk G s J H [] u Q I e ⟨rfl,k J l⟩
  |cons _ _=>cases q
 |cons g _ i=>
  intro G s J H b u Q I e ⟨F,m,L,a,n,l,r,q,k⟩;cases a with
  |nil=>cases q
  |cons v a=>
   unfold md at q;split at q
   .rename_i f c;obtain⟨x,d,rfl,p,r⟩:=r;refine B9 g i rfl G s J H _ u Q I e ⟨x,d,rfl,F,m,L,v,f,l,p,c,λw t=>?_⟩;exact⟨F,m,f,a,n,t,r,q,k⟩
   .cases q
theorem JC(c:X.c=true)(h:GsOk X es u):PG X (.Tuple es n B) (gT X.K (iF u)):=
 PG.imp' (Ix c h.pgs (h.len _).1 (h.len _).2) λv J H Q z=>by
  obtain⟨F,m,L,d,x,l,p,q,k⟩:=z;cases d with
  |tup s=>obtain⟨a,f,rfl,t,r⟩:=p;have e:=pL (show md u s L=some x from q);exact⟨a,f,rfl,.inl t.sq,by rw[<- r.length];exact e,F,m,L,s,x,l,r,q,k⟩
  |lst s=>obtain⟨a,f,rfl,t,r⟩:=p;have e:=pL (show md u s L=some x from q);exact⟨a,f,rfl,.inr t.sq,by rw[<- r.length];exact e,F,m,L,s,x,l,r,q,k⟩
  |_=>cases q
end
open PySem.AutoSeq1 (wpAny_loadPart')
theorem Dw(n:Nat):(eO n=true)=(n≤1000000):=by unfold eO;simp
variable{d:Type}
theorem N8(h:c=false)(k:wpAny M A b v E s):wpAny M A (if c=true then a else b) v E s:=by rw[h,ae aX];exact k
theorem Rm(h:c=true)(k:wpAny M A a v E s):wpAny M A (if c=true then a else b) v E s:=by rw[h,ac rfl];exact k
theorem vm(a:Array Value)(n:Nat):∀b:Array Value,((List.replicate n a).foldl (·++·) b).size=b.size+n * a.size:=by
 induction n with
 |zero=>intro b;simp
 |succ n i=>intro b;rw[b4,hE,i,yC,r9];lia
theorem ER(l:Addr)(i:Array Value)(n:Nat)(e:Option Addr)(k:Array (OV))(x:Int)(u:Tok)(c:-1000000 < x/\x < 1000000)(m:(i.isEmpty ||x == 1)=true) :
  Meets (Builtin.«tuple.__mul__» ⟨[.ref l,.int x u],[]⟩) (λ_ R s=>s.heap.get? l=some { cls:=.type "tuple",dict:=e,data:=.seq i n,slots:=k }/\R (.ok (.ret (Value.ref l))) s):=
 .of_wp λj w A R s h=>by
  obtain⟨p,g,d,t,os⟩:=s;obtain⟨a,h⟩:=h;have f:=xy;have b:=xz
  wp_walk using mG a
  refine N8 (by rw[a7 (by lia),a7 (by lia)];rfl) ?_
  wp_walk using mG a
  exact⟨_,rfl,h⟩
theorem EQ(l:Addr)(i:Array Value)(n:Nat)(c:Option Addr)(q:Array (OV))(x:Int)(u:Tok)(S:-1000000 < x/\x < 1000000)(f:¬(i.isEmpty ||x == 1)=true)(z:i.size * x.toNat≤1000000) :
  Meets (Builtin.«tuple.__mul__» ⟨[.ref l,.int x u],[]⟩) (fun _ R s=>s.heap.get? l=some { cls:=.type "tuple",dict:=c,data:=.seq i n,slots:=q } /\
   R (.ok (.ret (Value.ref s.heap.objs.size))) { s with heap:=s.heap.push { cls:=Value.type "tuple",data:=Data.seq ((List.replicate x.toNat i).foldl (·++·) #[]) } }):=
 .of_wp λj w A R s h=>by
  obtain⟨F,g,d,P,os⟩:=s;obtain⟨a,h⟩:=h;have o:=xy;have H:=xz
  wp_walk using mG a
  refine N8 (by rw[a7 (by lia),a7 (by lia)];rfl) ?_
  wp_walk using mG a
  have k:i.isEmpty=false:=by
   cases e:i.isEmpty with
   |false=>rfl
   |true=>rw[e]at f;simp at f
  by_cases b:x≤0
  .refine Rm (by rw[eY b];rfl) ?_;have m:x.toNat=0:=by lia
   rw[m]at h
   wp_walk using mG a
   exact⟨_,rfl,h⟩
  .refine N8 (by rw[a7 b,k];rfl) ?_;have p:(i.size:Int) * x≤1000000:=by
    have:((i.size * x.toNat:Nat):Int)≤1000000:=by lia
    rw[xP,xS (by lia)]at this;exact this
   have r:¬(i.size:Int) * x > (2 ^ 63-1) / 8:=by lia
   dsimp only;rw[ae r];have K:(1000000:Int)≤(sizeLine:Int):=by decide
   refine N8 (show HA _=false from a7 (by lia)) ?_;have t:¬(oh (λv y=>v++y) #[] (List.replicate x.toNat i)).size > sizeLine:=by
    have e:=vm i x.toNat #[];rw[e];have:x.toNat * i.size≤1000000:=by rw[iM];exact z
    have:(1000000:Nat)≤sizeLine:=by decide
    simp only[bu,a'];lia
   wp_walk using mG a
   exact⟨_,rfl,h⟩
theorem E7(a:Int)(t:Tok)(l:Addr)(i:Array Value)(n:Nat)(x:Option Addr)(e:Array (OV)) :
  Meets (Builtin.«int.__rmul__» ⟨[.int a t,.ref l],[]⟩) (λ_ R s=>s.heap.get? l=some { cls:=.type "tuple",dict:=x,data:=.seq i n,slots:=e }/\R (.ok (.ret Value.notImplemented)) s):=
 .of_wp λj w A R s h=>by
  obtain⟨p,g,d,f,os⟩:=s;obtain⟨k,h⟩:=h
  wp_walk
  exact⟨_,rfl,h⟩
theorem Am:fillsNumberSlot (.type "tuple") "mul"=pure false:=
 PySem.fillsNumberSlot_seq (id:="tuple.__mul__") (r:=some (.builtin "tuple.__rmul__")) nX.lookup (by decide +kernel) xH.lookup (by decide +kernel)
theorem Ik:seqRepeat? (.type "tuple")=pure (some (.builtin "tuple.__mul__")):=by unfold seqRepeat?;rw[A4 (T:="tuple") (name:="__mul__") (id:="tuple.__mul__") nX.lookup (by decide +kernel)];first|rfl|(rw[A4 (T:="tuple") (name:="__rmul__") (id:="tuple.__rmul__") xH.lookup (by decide +kernel)];rfl)
section
variable{X:Cx}
theorem xf(i:LV)(k:Nat):(List.replicate k i.toArray).foldl (·++·) #[]=(List.replicate k i).flatten.toArray:=by
 have:∀(m:Nat)(b:LV),(List.replicate m i.toArray).foldl (·++·) b.toArray=(b++(List.replicate m i).flatten).toArray:=by
  intro m;induction m with
  |zero=>intro b;simp
  |succ m x=>intro b;rw[b4,hE,List.append_toArray,x,b4,e6,eZ]
 have h:=this k [];rw[cI]at h;exact h
theorem yW(r:a8 u v):∀k:Nat,a8 (List.replicate k u).flatten (List.replicate k v).flatten
 |0=>.nil
 |k+1=>by rw[b4,b4,e6,e6];exact r.append (yW r k)
theorem Jk(x:List d)(k:Nat):(List.replicate k x).flatten.length=x.length * k:=by
 induction k with
 |zero=>rfl
 |succ k i=>rw[b4,e6,aL,i,Nat.mul_succ];lia
def ev:P->P->Option P
 | .tup s,.int n=>if (eO (s.length * n.toNat) && decide (n.natAbs < 1000000))=true then some (.tup (List.replicate n.toNat s).flatten) else none
 |x,y=>vu x y
theorem IT:m9 X (binaryOp .Mult) ev:=by
 intro G s J H x y v u Q I M N h;obtain⟨F,z,S,d,W,E,L,q,k⟩:=h;have f:vu z S=some d->wpAny (model X.p X.w) X.A (binaryOp .Mult v u) (EP X G J Q) X.xe s:=λq=>Mi G s J H x y v u Q I M N ⟨F,z,S,d,W,E,L,q,k⟩
 cases z with
 |tup j=>
  cases S with
  |int n=>
   simp only[ev]at q;split at q
   .rename_i g;rw[aE,Dw]at g;have h1:=aG g.2;cases q;obtain⟨a,C,rfl,R,B⟩:=E;cases (show y=.int n from L);cases M;obtain⟨t,rfl⟩:=N;have K:=B.length;obtain⟨i,r,⟨o,e,c,m,D⟩,hz⟩:=I.tuple R.sq;have l:=r.length;obtain⟨oc,A,ot,os⟩:=o;dsimp only at c D;subst c D;refine A6 (T:="tuple") (U:="int") (by decide) ⟨_,e,rfl⟩ (λZ=>oS Z n t) Am PySem.F.fills_int_mul xB Ik PySem.F.slot_int_index.lookup
     (jD xB (oS s n t) PySem.F.entry_int_rmul (PySem.F.args_int_rmul_2 _ _) (E7 n t a i.toArray m A os) ⟨e,rfl,⟨_,e,rfl⟩,?_⟩)
    by_cases p:(i.toArray.isEmpty ||n == 1)=true
    .refine jD nX ⟨_,e,rfl⟩ xE (xI _ _) (ER a i.toArray m A os n t (by lia) p) ⟨e,⟨.ref a,H,I,rfl,k _ F H .refl ?_⟩⟩;have V:(List.replicate n.toNat j).flatten=j:=by
      rw[yB]at p;rcases p with p|p
      .have:i=[]:=by simpa using p
       have:j=[]:=iT (by rw[K,l,this];rfl);subst this;simp
      .have:n=1:=by simpa using p
       subst this;simp
     rw[V];exact⟨a,C,rfl,R,B⟩
    .refine jD nX ⟨_,e,rfl⟩ xE (xI _ _) (EQ a i.toArray m A os n t (by lia) p (by rw[bu,<- l,<- K];exact g.1)) ⟨e,?_⟩;rw[xf];have w:H s.heap.objs.size=none:=I.h.fresh (aq _);have P:(List.replicate n.toNat C).flatten.length≤sizeLine:=by
      rw[Jk,<- K];exact a9 g.1 (by decide)
     refine⟨.ref s.heap.objs.size,_,I.laid (t':=s.toks) (o:=.tup (List.replicate n.toNat C).flatten) (λb ob q=>aJ _ q) (aq _) ⟨P,_,yW r n.toNat,nR.new _ _⟩,rfl,k _ F _ (cu w) (.newTup w (B.rep n.toNat))⟩
   .cases q
  |_=>exact f q
 |_=>exact f q
variable{e:Expr}{es:Ab}{fs:kB}{p B:Pos}
end
section
variable{X:Cx}{o e:Expr}{I h:EE}{N:EV}{y l B:Pos}
noncomputable abbrev AW:=Lc->aP->Option (List D×aP)
noncomputable abbrev Lm:=Option (List D×aP)
inductive tDsI(K:FG)(f:AW)(J:L2.St)(H:Hp)(Q:List V->Hp->Prop):Prop
 |mk (F:Aa) (m:List Addr) (L:Lc) (S:aP) (ds:List D) (S':aP) (h0_:Rel K F H m S) (h1_:RL K F H m J L) (h2_:f L S=some (ds,S')) (h3_:∀xs F' m' H',Stp F m H F' m' H'->Rel K F' H' m' S'->d7 K F' H' m' ds xs->Q xs H'):tDsI K f J H Q
noncomputable def BI(K:FG)(f:AW):TA:=λJ H Q=>tDsI K f J H Q
@[simp] def ay(_L:Lc)(S:aP):Lm:=some ([],S)
@[simp] def aA(a:EE)(r:AW)(L:Lc)(S:aP):Lm:=bA (a L S) λx h=>bA (r L h) λs e=>some (x::s,e)
variable{es:Ab}{fs:AW}
theorem Ng:PA X [] (BI X.K ay):=i4.imp' λJ H Q h=>by obtain⟨F,m,L,S,d,x,r,l,q,k⟩:=h;cases q;exact k [] F m H .refl r rfl
theorem JN(g:PE X e (tE X.K h))(i:PA X es (BI X.K fs))(j:starEach (e::es) X.e=(false,eval e X.e)::starEach es X.e):PA X (e::es) (BI X.K (aA h fs)):=
 (eJ g i j).imp' λJ H Q z=>by obtain⟨F,m,L,S,d,p,r,l,q,k⟩:=z;obtain⟨x,a,w,q⟩:=aj q;obtain⟨C,E,u,q⟩:=aj q;cases q;refine⟨F,m,L,S,x,a,r,l,w,λv b y D s A K=>?_⟩;refine⟨b,y,L,a,C,p,A,l.mono s,u,λf c o t n B P=>?_⟩;exact k (v::f) c o t (s.trans n) B ⟨v,f,rfl,RD.mono n K,P⟩
def pT(a:AW):EE:=λL S=>bA (a L S) λx h=>if few x=true then some (.ref h.length,h++[.lst x]) else none
theorem K_(h:PA X es (BI X.K fs)):PE X (.List es B) (tE X.K (pT fs)):=(wX h).imp' λJ H Q z=>by
 obtain⟨F,m,L,S,d,i,r,l,q,k⟩:=z;obtain⟨g,c,t,q⟩:=aj q;split at q
 .rename_i w;cases q;refine⟨F,m,L,S,g,c,r,l,t,λv x a e u f n=>⟨by rw[<- n.length];exact mY w,λp s=>?_⟩⟩;have b:Stp x a e x (a++[p]) (cJ e p (.lst v)):=kv s;refine k (.ref p) x (a++[p]) _ (u.trans b) (f.own s ⟨v,ba,d7.mono b n⟩) ⟨p,rfl,?_⟩;rw[<- f.len,fS (aq _)];simp
 .cases q
noncomputable abbrev GF:=List D->aP->Option (D×aP)
inductive spRI(K:FG)(g:GF)(vs:List V)(H:Hp)(Q:VK):Prop
 |mk (F:Aa) (m:List Addr) (ds:List D) (S:aP) (d:D) (S':aP) (h0_:Rel K F H m S) (h1_:d7 K F H m ds vs) (h2_:g ds S=some (d,S')) (h3_:∀v F' m' H',Stp F m H F' m' H'->Rel K F' H' m' S'->RD K F' H' m' d v->Q v H'):spRI K g vs H Q
noncomputable def qF(K:FG)(g:GF):Sp:=λv H Q _=>spRI K g v H Q
end
section
variable{X:Cx}{a b c e o i g:Expr}{N T r L Q:EV}{I h:EE}{B t:Pos}
def DM (i:Expr):Prop:=∀(o:Expr) (B:Pos) (k:Env) (v:Value),assign (.Subscript o i B) k v=(do
 let h <- holding [v] (eval o k)
 let x <- holding [v,h] (eval i k)
 standAt B
 holding [v,h,x] (setItem h x v)
 release [v,h,x] [])
@[simp] def mO(g n:P->P->Option P)(a b c:EV)(L:Lc)(S:aP):tyV:=bA (a L S) λx e=>bA (b L e) λy h=>match g x y with
 |some (.bl true)=>bA (c L h) λz s=>(n y z).map λv=>(v,s)
 |some (.bl false)=>some (.bl false,h)
 |_=>none
theorem vG{g c:P->P->Option P}{J:L2.St}{H:Hp}{Q:VK}(h:tV X.K (mO g c N T r) J H Q):wJ (rP X.K g) (rP X.K c) (tV X.K N) (tV X.K T) (tV X.K r) J H Q:=by
 obtain⟨F,m,L,S,d,S',a,l,q,k⟩:=h;obtain⟨x,o,e1,q⟩:=aj q;obtain⟨y,K,e2,q⟩:=aj q;refine⟨F,m,L,S,x,o,a,l,e1,λv M m1 H1 E r1 p1=>?_⟩;refine⟨M,m1,L,o,y,K,r1,l.mono E,e2,λu R i H2 G B A=>?_⟩;cases b:g x y with
 |none=>rw[b]at q;cases q
 |some z=>
  rw[b]at q;cases z with
  |bl t=>
   refine⟨R,x,y,_,B.ft,RP.mono G p1,A,b,λw f j p p3=>⟨t,p3,?_⟩⟩;have s:Stp F m H f i j:=E.trans (G.trans p.stp);have C:=B.grow p;cases t with
   |false=>rw[ae aX];cases q;exact k _ f i j s C rfl
   |true=>
    rw[ac rfl];dsimp only at q;obtain⟨z,S3,e3,q⟩:=aj q;refine⟨f,i,L,K,z,S3,C,l.mono s,e3,λw' V m4 H4 I D p4=>?_⟩;cases e:c y z with
    |none=>rw[e]at q;cases q
    |some z2=>rw[e]at q;cases q;exact⟨V,y,z,_,D.ft,RP.mono I (RP.grow p A),p4,e,λw2 W Z n p5=>k w2 W m4 Z (s.trans (I.trans n.stp)) (D.grow n) p5⟩
  |_=>cases q
theorem HJ(n:m9 X (compareOp op) v)(o:m9 X (compareOp u) g')(x:PE X a (tV X.K N))(e:PE X b (tV X.K T))(s:PE X c (tV X.K r))(m:lastMarks [op,u] [b,c]=false) :
  PE X (.Compare a [op,u] [b,c] B) (tV X.K (mO v g' N T r)):=(Cc n o x e s m).imp' λ_ _ _ h=>vG h
theorem HD(y:m9 X (compareOp op) u)(o:m9 X (compareOp op') g')(w:PE X a (tV X.K N))(g:PE X b (tV X.K T))(i:PE X c (tV X.K r))(j:lastMarks [op,op'] [b,c]=false) :
  PT X (.Compare a [op,op'] [b,c] B) (tQ X.K (bV (mO u g' N T r))):=(B3 y o w g i j).imp' λJ H Q h=>by
 refine vG ?_;obtain⟨F,m,L,S,d,P,e,l,q,k⟩:=h;obtain⟨x,A,t,q⟩:=aj q;cases x with
 |bl b=>cases q;exact⟨F,m,L,S,_,_,e,l,t,λv n z f s K p=>⟨_,p,k n z f s K⟩⟩
 |_=>cases q
def wH:P->Option Bool
 | .non=>some false
 | .bl b=>some b
 | .int i=>some (i != 0)
 | .str x=>if eO x.length=true then some ((x.length:Int) != 0) else none
 | .tup s=>some (!s.isEmpty)
 | .lst s=>some (!s.isEmpty)
 | .ro s=>some (!s.isEmpty)
 | .dct k _=>some (!k.isEmpty)
def lW:D->aP->Option Bool
 | .p v,_=>wH v
 | .ref i,S=>match S[i]? with
  |some (.lst d)=>some (!d.isEmpty)
  |some (.dct k _)=>some (!k.isEmpty)
  |some (.fz v)=>wH v
  |_=>none
@[simp] def bT(f:EE)(L:Lc)(S:aP):Ko:=bA (f L S) λd h=>(lW d h).map λb=>(b,h)
theorem hT{x:List d}{y:List v}(h:x.length=y.length):x.isEmpty=y.isEmpty:=by cases x<;>cases y<;>first|rfl|simp at h
theorem y0(p:RP X.K F H w v)(h:wH w=some u):Kg X.K v H u:=by
 cases w with
 |non=>cases (show v=.non from p);cases h;rfl
 |bl b=>cases (show v=.bl b from p);cases h;rfl
 |int b=>cases (show v=.int b from p);cases h;rfl
 |str x=>
  cases (show v=.str x from p);simp only[wH]at h;split at h
  .rename_i c;cases h;exact⟨dF c,rfl⟩
  .cases h
 |tup d=>obtain⟨a,s,rfl,t,r⟩:=p;cases h;exact .inr (.inl ⟨s,t.sq,by rw[hT r.length]⟩)
 |lst d=>obtain⟨a,s,rfl,t,r⟩:=p;cases h;exact .inl ⟨s,t.sq,by rw[hT r.length]⟩
 |ro d=>obtain⟨a,s,rfl,t,r⟩:=p;cases h;exact .inl ⟨s,t.sq,by rw[hT r.length]⟩
 |dct n d=>obtain⟨a,k,rfl,_,hk,e,r⟩:=p;cases h;exact .inr (.inr ⟨k,hk,by rw[<- e];cases k<;>rfl⟩)
theorem yT(s:PE X e (tE X.K h))(D:∀o,isTrue e X.e o=(do let v <- o;standAt e.pos;holding [v] (truthy v))):PT X e (tQ X.K (bT h)):=
 (B2 s D).imp' λJ H Q E=>by
  obtain⟨F,m,L,S,d,N,r,l,q,k⟩:=E;obtain⟨x,P,B,q⟩:=aj q;cases n:lW x P with
  |none=>rw[n]at q;cases q
  |some t=>
   rw[n]at q;cases q;refine⟨F,m,L,S,x,_,r,l,B,λv z G K I c i=>⟨_,?_,k z G K I c⟩⟩;cases x with
   |p w=>exact y0 i n
   |ref j=>
    obtain⟨a,rfl,g⟩:=i;simp only[lW]at n;split at n
    .rename_i A f;cases n;obtain⟨M,u,y⟩:=c.obj j a _ g f;exact .inl ⟨M,jA.of u,by rw[hT y.length]⟩
    .rename_i R A f;cases n;obtain⟨b,u,C,y⟩:=c.obj j a _ g f;exact .inr (.inr ⟨b,u,by rw[<- C];cases b<;>rfl⟩)
    .rename_i w f;exact y0 (c.obj j a _ g f) n
    .cases n
@[simp] def tt(g:kM)(f:EV)(L:Lc)(S:aP):EK:=bA (f L S) λv x=>match g v L with
 |some h=>some (.nx,h,x)
 |none=>none
theorem OA(p:PE X e (tV X.K N))(d:PG X tg (gT X.K u))(w:swapsWithSole [tg] e B.line X.e=pure false)(i:swappedStores [tg] e X.e=pure none)(t:(assignEach [tg] X.e).map (·.2)=[assign tg X.e]) :
  PS X (.Assign [tg] e B) (f_ X.K (tt u N)):=(Iu p d w i t).imp' λD J H z=>by
 obtain⟨F,m,L,S,A,K,P,r,l,q,k⟩:=z;obtain⟨v,b,c,q⟩:=aj q;refine⟨F,m,L,S,v,b,r,l,c,λx h a n s o y=>?_⟩;cases g:u v L with
 |none=>rw[g]at q;cases q
 |some L2=>rw[g]at q;cases q;exact⟨h,a,L,v,_,l.mono s,y,g,λf j=>k f h a n s o j⟩
def FV(a b:EV):kB:=λL S=>bA (a L S) λx e=>bA (b L e) λy s=>match x,y with
 | .int lo,.int h=>if (decide (lo.natAbs < 1000000) && decide (h.natAbs < 1000000))=true then some (intsFrom lo (h-lo).toNat,s) else none
 |_,_=>none
theorem Ro(j:Gl X "range")(z:X.g "range"=none)(u:PE X a (tV X.K N))(g:PE X b (tV X.K T))(s:starEach [a,b] X.e=[(false,eval a X.e),(false,eval b X.e)])(h:starEach [b] X.e=[(false,eval b X.e)]) :
  PI X tg (.Call (.Name "range" p) [a,b] [] B) (tI X.K (FV N T)):=
 (Ah j z (eJ u (eJ g i4 (by rw[h];rfl)) (by rw[s,h])) s h).imp' λJ H R o=>by
  obtain⟨F,m,L,S,Z,M,r,l,q,k⟩:=o;obtain⟨x,v,d,q⟩:=aj q;obtain⟨y,Q,w,q⟩:=aj q;cases x with
  |int lo=>
   cases y with
   |int i=>
    dsimp only at q;split at q
    .rename_i c;rw[aE]at c;have V:=aG c.1;have W:=aG c.2;cases q;refine⟨F,m,L,S,_,_,r,l,d,λx n K I e D A=>⟨n,K,L,v,_,_,D,l.mono e,w,λy f P t G E C=>?_⟩⟩;cases (show x=.int lo from A);cases (show y=.int i from C);exact⟨lo,i,rfl,⟨by lia,by lia,by lia,by lia⟩,k _ f P t (e.trans G) E CP⟩
    .cases q
   |_=>cases q
  |_=>cases q
def aD:P->P->Option P
 | .tup [],.tup s=>some (.tup s)
 |x,y=>mo x y
theorem JV{M:Program}{w:World}{A:Around}{E:VP}{s:Shared}{t b:Addr}{a:LV}{Q:VP}(n:IsTup s.heap t #[])(e:IsTup s.heap b a.toArray)(h:Q (.ref b) s):wpAny (model M w) A (binaryOp .Add (.ref t) (.ref b)) Q E s:=by obtain⟨o,g,k,m,l⟩:=id n;obtain⟨p,x,f,r,c⟩:=id e;cases o;cases p;cases k;cases l;cases f;cases c;exact v0 ⟨_,g,rfl⟩ ⟨_,x,rfl⟩ we v7 rQ rS (rT _ _) (tuple_addW0 t b #[] a.toArray m r _ _ _ _ rfl) ⟨g,x,h⟩
theorem Cm:m9 X (binaryOp .Add) aD:=by
 intro G s J H x y v u Q I r m h;obtain⟨F,e,n,d,t,c,p,q,k⟩:=h;have o:mo e n=some d->wpAny (model X.p X.w) X.A (binaryOp .Add v u) (EP X G J Q) X.xe s:=λq=>Mr G s J H x y v u Q I r m ⟨F,e,n,d,t,c,p,q,k⟩
 cases e with
 |tup f=>
  cases n with
  |tup es=>
   cases f with
   |nil=>cases q;obtain⟨a,P,rfl,S,z⟩:=c;obtain⟨b,C,rfl,K,B⟩:=id p;cases (show P=[] from z);cases r;cases m;obtain⟨w,l,g,_⟩:=I.tuple S.sq;obtain⟨i,A,j,_⟩:=I.tuple K.sq;cases l;exact JV g j ⟨.ref b,H,I,rfl,k _ F H .refl p⟩
   |cons _ _=>exact o q
  |_=>cases f<;>exact o q
 |_=>exact o q
def um(K:FG)(m:SV)(x:Str)(v:P):Prop:=∃u w,m x=some u/\RelV w u/\∀F H,RP K F H v w
theorem Lb(g:Gl X x)(h:um X.K X.g x v)(d:(x == ("__debug__":Str))=false):PE X (.Name x B) (tV X.K (vC v)):=by obtain⟨u,w,m,r,p⟩:=h;exact xC (tD g m r d) p
end
section
variable{X:Cx}{a:Expr}{N:EE}{p B:Pos}
end
noncomputable def eQ(f:Str):LS->List D->Option D
 |k::h,d::s=>if k=f then some d else eQ f h s
 |_,_=>none
noncomputable def putK(f:Str):LS->LS
 | []=>[f]
 |k::s=>if k=f then k::s else k::putK f s
noncomputable def gM(f:Str)(y:D):LS->List D->List D
 | [],_=>[y]
 |k::h,d::s=>if k=f then y::s else d::gM f y h s
 |_::_,[]=>[]
def ib(K:FG)(c:Str)(C:Addr):Prop:=c7 K mainGlobals c=some (some (.ref C))
variable{K:FG}
theorem ib.inj(h:ib K c C)(x:ib K c v):C=v:=by have:=h.symm.trans x;cases this;rfl
def NQ(K:FG)(A:Str->Str->Bool):Prop:=∀c f,A c f=true->∃C,ib K c C/\Cls K C/\ka K C f
section
variable{K:FG}{F:Aa}{H:Hp}{m:List Addr}
theorem tN:∀{a:List (Str×V)}{s:List D}{d:D},d7 K F H m s (a.map (·.2))->eQ f (a.map (·.1)) s=some d->∃v,a.lookup f=some v/\RD K F H m d v
 | [],s,d,_,h=>by cases s<;>cases h
 |(k,x)::r,s,d,p,h=>by
  cases s with
  |nil=>cases h
  |cons q s=>
   obtain⟨y,w,e,c,t⟩:=p;simp only[a6,kf]at e;obtain⟨rfl,rfl⟩:=e;simp only[a6,eQ]at h;split at h
   .rename_i hk;cases h;subst hk;exact⟨x,by simp[bz],c⟩
   .rename_i hk;obtain⟨v,n,b⟩:=tN t h;exact⟨v,by rw[lO,show(f == k)=false by simpa using λz=>hk z.symm];exact n,b⟩
theorem zw:∀{v:List (Str×V)},(v.map (·.1)).contains f=false->v.lookup f=none
 | [],_=>rfl
 |(k,x)::r,h=>by simp only[a6,List.contains_cons,Bool.or_eq_false_iff]at h;rw[lO,h.1];exact zw h.2
theorem wT(h:RD K F H m u v):∀{s:List (Str×V)}{d:List D},d7 K F H m d (s.map (·.2))->(fV f v s).map (·.1)=putK f (s.map (·.1))/\d7 K F H m (gM f u (s.map (·.1)) d) ((fV f v s).map (·.2))
 | [],d,n=>⟨rfl,v,[],rfl,h,rfl⟩
 |(k,x)::r,d,n=>by
  cases d with
  |nil=>cases (show _=([]:List V) from n)
  |cons t d=>
   obtain⟨z,p,e,b,a⟩:=n;simp only[a6,kf]at e;obtain⟨rfl,rfl⟩:=e;by_cases hk:k=f
   .simp only[fV,hk,fM,a6,putK,gM];first|exact⟨rfl,v,_,rfl,h,a⟩|exact⟨trivial,v,_,rfl,h,a⟩
   .obtain⟨i,c⟩:=wT h a;simp only[fV,hk,fN,a6,putK,gM];exact⟨by rw[i],x,_,rfl,b,c⟩
end
section
variable{X:Cx}{o e g:Expr}{f:Str}{B t y:Pos}{I Q:EE}{A:Str->Str->Bool}{es:Ab}{fs:AW}
@[simp] def bc(A:Str->Str->Bool)(o:EE)(f:Str)(L:Lc)(S:aP):EL:=bA (o L S) λd h=>match d with
 | .ref i=>match h[i]? with
  |some (.ins c k s)=>if A c f=true then (eQ f k s).map λz=>(z,h) else none
  |_=>none
 |_=>none
theorem O1(D:NQ X.K A)(V:PE X o (tE X.K I))(M:attributeBase o f X.e (eval o X.e)=eval o X.e):PE X (.Attribute o f B) (tE X.K (bc A I f)):=(IG V M).imp' λJ H Q Z=>by
 obtain⟨F,m,L,S,d,S',r,l,q,k⟩:=Z;obtain⟨x,u,y,q⟩:=aj q;refine⟨F,m,L,S,x,u,r,l,y,λv b m1 t s1 n p1=>?_⟩;cases x with
 |p w=>cases q
 |ref i=>
  obtain⟨a,rfl,R⟩:=p1;dsimp only at q;split at q
  .rename_i c ks g W;split at q
   .rename_i G;cases h:eQ f ks g with
    |none=>rw[h]at q;cases q
    |some z=>rw[h]at q;cases q;obtain⟨C,j,s,P,E,rfl,rs⟩:=n.obj i a _ R W;obtain⟨C',e,N,T⟩:=D c f G;cases ib.inj P e;obtain⟨v,K,p3⟩:=tN rs h;exact⟨a,C,j,s,v,rfl,E,N,T,K,k v b m1 t s1 n p3⟩
   .cases q
  .cases q
@[simp] def en(A:Str->Str->Bool)(o:EE)(f:Str)(v:EE)(L:Lc)(S:aP):EK:=bA (v L S) λy x=>bA (o L x) λd h=>match d with
 | .ref i=>match h[i]? with
  |some (.ins c k s)=>if (A c f && decide (k.length < 900))=true then some (.nx,L,h.set i (.ins c (putK f k) (gM f y k s))) else none
  |_=>none
 |_=>none
theorem OE(hA:NQ X.K A)(ho:PE X o (tE X.K I))(hv:PE X g (tE X.K Q))(h:swapsWith g (some (.Attribute o f t)) B.line X.e=pure false):PS X (.Assign [.Attribute o f t] g B) (f_ X.K (en A I f Q)):=(Is ho hv h).imp' λD J H hz=>by
 obtain⟨F,m,L,S,fl,L',S',r,l,q,k⟩:=hz;obtain⟨y,N,e1,q⟩:=aj q;obtain⟨d,S2,e2,q⟩:=aj q;refine⟨F,m,L,S,y,N,r,l,e1,λv Z m1 H1 G r1 p1=>?_⟩;refine⟨Z,m1,L,N,d,S2,r1,l.mono G,e2,λx e P n M E p2=>?_⟩;cases d with
 |p w=>cases q
 |ref i=>
  obtain⟨a,rfl,K⟩:=p2;dsimp only at q;split at q
  .rename_i c ks ds h;split at q
   .rename_i j;rw[aE]at j;cases q;obtain⟨C,b,s,R,T,rfl,rs⟩:=E.obj i a _ K h;obtain⟨C',u,hc,hn⟩:=hA c f j.1;cases ib.inj R u;have hl:s.length < 1000:=by have:=aG j.2;rw[d3]at this;lia
    have V:∀W,n a≠some (.tup W):=λW z=>by rw[T]at z;cases z
    have st:Stp e P n e P (cJ n a (.ins C b (fV f v s))):=iY E K h trivial V;obtain⟨i1,i2⟩:=wT (f:=f) (RD.mono st (RD.mono M p1)) (d7.mono st rs);exact⟨a,C,b,s,rfl,T,hc,hn,hl,k J e P _ (G.trans (M.trans st)) (E.set K h trivial V ⟨C,b,_,R,ba,i1,i2⟩) ((l.mono G).mono (M.trans st))⟩
   .cases q
  .cases q
@[simp] def aB(M:Str->Str->Option GF)(o:EE)(z:Str)(a:AW)(L:Lc)(S:aP):EL:=bA (o L S) λd h=>match d with
 | .ref i=>match h[i]? with
  |some (.ins c k _)=>match M c z with
   |some g=>if k.contains z=true then none else bA (a L h) λv x=>g (.ref i::v) x
   |none=>none
  |_=>none
 |_=>none
def Oy(X:Cx)(M:Str->Str->Option GF):Prop:=∀c z g,M c z=some g->∃C k f d p,ib X.K c C/\Cls X.K C/\Meth X.K C z f/\FnOk X.p X.w X.K X.g X.b lC k f d p (qF X.K g)/\Room k X.A/\Binds X.K d p []
variable{M:Str->Str->Option GF}{z:Str}
theorem qL(hM:Oy X M){t:TE}{ta:TA}(b:∀C k f u j g,Cls X.K C->Meth X.K C z f->FnOk X.p X.w X.K X.g X.b lC k f u j (qF X.K g)->Room k X.A->Binds X.K u j []->PE X e (BH C z (qF X.K g) [] E0 (tE X.K I) (BI X.K fs))):PE X e (tE X.K (aB M I z fs)):=by
 intro G s J H Q n h;obtain⟨F,m,L,S,d,S',r,l,q,k⟩:=h;obtain⟨x,P,e1,q⟩:=aj q;cases x with
 |p w=>cases q
 |ref i=>
  dsimp only at q;split at q
  .rename_i c ks ds hs;split at q
   .rename_i g hg;split at q
    .cases q
    .rename_i hk;obtain⟨R,A,e2,q⟩:=aj q;obtain⟨C,kk,f,u,j,ec,hc,hm,hF,hr,hb⟩:=hM c z g hg;refine b C kk f u j g hc hm hF hr hb G s J H Q n ⟨F,m,L,S,.ref i,P,r,l,e1,λv T m1 H1 E D B=>?_⟩;obtain⟨a,rfl,o⟩:=id B;obtain⟨C',dx,K,y,hH,rfl,rs⟩:=D.obj i a _ o hs;cases ib.inj ec y;refine⟨a,dx,K,rfl,hH,zw (by simpa using hk),T,m1,L,P,R,A,D,l.mono E,e2,λxs W m2 H2 N r2 p2=>?_⟩;show qF X.K g (V.ref a::(xs++[])) H2 Q E0;rw[cg];exact⟨W,m2,.ref i::R,A,d,S',r2,⟨_,_,rfl,RD.mono N B,p2⟩,q,λv Z m3 H3 s3 r3 p3=>k v Z m3 H3 (E.trans (N.trans s3)) r3 p3⟩
   .cases q
  .cases q
theorem K7(x:Oy X M)(n:PE X o (tE X.K I))(a:PA X (e::es) (BI X.K fs))(s:starEach (e::es) X.e=(false,eval e X.e)::starEach es X.e)(h:(backTo B (starEach es X.e)).any (·.1)=false)
  (p:eval (.Call (.Attribute o z y) (e::es) [] B) X.e=(do
   let v <- eval o X.e
   standAt y.atName
   let (f,first) <- holding [v] (getMethod v z u)
   callWith B f first (backTo B (starEach (e::es) X.e)) (backToKw B (keywordEach [] X.e)))) :
  PE X (.Call (.Attribute o z y) (e::es) [] B) (tE X.K (aB M I z fs)):=
 qL (t:=tE X.K I) (ta:=BI X.K fs) x λC k f d q g c m F r b=>Fu n c m F r b .nil uP a s h p
theorem HI(i:Oy X M)(D:PE X o (tE X.K I))
  (G:eval (.Call (.Attribute o z y) [] [] B) X.e=(do
   let u <- eval o X.e
   standAt y.atName
   let (f,first) <- holding [u] (getMethod u z pl)
   callWith B f first (backTo B (starEach [] X.e)) (backToKw B (keywordEach [] X.e)))) :
  PE X (.Call (.Attribute o z y) [] [] B) (tE X.K (aB M I z ay)):=
 qL (t:=tE X.K I) (ta:=BI X.K ay) i λC k f fd ps g K A p E j=>(B' D K A p E j .nil uP G).imp' λJ H Q h=>by obtain⟨F,m,L,S,d,n,r,l,q,k⟩:=h;refine⟨F,m,L,S,d,n,r,l,q,λv e R x s' Z V=>?_⟩;obtain⟨a,c,fs,rfl,w,P,s,T,L2,S2,ds,b,r2,l2,W,N⟩:=k v e R x s' Z V;cases W;exact⟨a,c,fs,rfl,w,P,N [] s T x .refl r2 rfl⟩
@[simp] def vq(g:GF)(c:Str)(a:AW)(L:Lc)(S:aP):EL:=bA (a L S) λv h=>match g (.ref h.length::v) (h++[.ins c [] []]) with
 |some (.p .non,x)=>some (.ref h.length,x)
 |_=>none
theorem K8{C f:Addr}{o:FuncData}{K:LS}{k:Nat}{x:Str}{p:Pos}{g:GF}(M:Mk X.K C f)(G:FnOk X.p X.w X.K X.g X.b lC k f o K (qF X.K g))(hr:Room (k+1) X.A)(hg:Gl X x)(hm:X.g x=some (.ref C))(Z:ib X.K x C)(hb:Binds X.K o K [])
  (ha:PA X (e::es) (BI X.K fs)) (i:(x == ("__debug__":Str))=false) (he:starEach (e::es) X.e=(false,eval e X.e)::starEach es X.e) (z:(backTo B (starEach es X.e)).any (·.1)=false) :
  PE X (.Call (.Name x p) (e::es) [] B) (tE X.K (vq g x fs)):=
 (Fv M G hr hg hm hb .nil uP ha i he z).imp' λJ H Q hz=>by
  obtain⟨F,m,L,S,d,S',r,l,q,k⟩:=hz;obtain⟨I,t,T,q⟩:=aj q;refine⟨F,m,L,S,I,t,r,l,T,λxs s a b s1 P p1=>λy h hy w j=>?_⟩;split at q
  .rename_i _ S2 V;cases q;have A:Stp s a b s a (cJ b h (.own y)):=hG w;have r2:Rel X.K s (cJ b h (.own y)) a t:=P.new w;have u:cJ b h (.own y) y=none:=by rw[aN (bB j)];exact hy
   have D:Stp s a (cJ b h (.own y)) s (a++[y]) (cJ (cJ b h (.own y)) y (.ins C h [])):=kv u;have r3:Rel X.K s (cJ (cJ b h (.own y)) y (.ins C h [])) (a++[y]) (t++[.ins x [] []]):=r2.own u ⟨C,h,[],Z,ba,rfl,rfl⟩;rw[cg];have c:(a++[y])[t.length]? = some y:=by rw[<- P.len,fS (aq _)];simp
   refine⟨s,a++[y],.ref t.length::I,_,.p .non,_,r3,⟨_,_,rfl,⟨y,rfl,c⟩,d7.mono D (d7.mono A p1)⟩,V,λv N m4 R E r4 p4=>⟨p4,?_⟩⟩;refine k (.ref y) N m4 R (s1.trans (A.trans (D.trans E))) r4 ⟨y,rfl,?_⟩;obtain⟨n,W⟩:=E.pre;rw[W,eE (bK.mp c).1];exact c
  .cases q
end
variable{k:Env}
theorem Jc(h:attributeBase o z k (eval o k)=eval o k)(e:methodCallForm (v.length+([]:List Keyword).length) (backTo B (starEach v k)) (backToKw B (keywordEach [] k))=true)(l:(y.endLine == B.line)=true) :
  eval (.Call (.Attribute o z y) v [] B) k=(do
   let u <- eval o k
   standAt y.atName
   let (f,first) <- holding [u] (getMethod u z (do return (<- importBound o k).getD true))
   callWith B f first (backTo B (starEach v k)) (backToKw B (keywordEach [] k))):=by
 have x:methodCallPos true o k y B=pure B:=by unfold methodCallPos;rw[l];rfl
 have a:∀u,methodCall o z y B k u (v.length+([]:List Keyword).length) (backTo B (starEach v k)) (backToKw B (keywordEach [] k))=(do
   let (f,first) <- holding [u] (getMethod u z (do return (<- importBound o k).getD true))
   callWith B f first (backTo B (starEach v k)) (backToKw B (keywordEach [] k))):=λu=>by
  unfold methodCall;rw[e,x];rfl
 have s:eval (.Call (.Attribute o z y) v [] B) k=(do
  let u <- attributeBase o z k (eval o k)
  standAt y.atName
  methodCall o z y B k u (v.length+([]:List Keyword).length) (backTo B (starEach v k)) (backToKw B (keywordEach [] k))):=by rfl
 rw[s,h];simp only[a]
section
variable{X:Cx}{o e g:Expr}{f:Str}{B t q:Pos}{I:EE}{Q:EV}{A:Str->Str->Bool}
def tz(i:Nat)(v:EV):ES:=λL S=>match L[i]? with
 |some (some (.p (.int a)))=>bA (v L S) λy h=>match y with
  | .int b=>some (.nx,L.set i (some (.p (.int (a+b)))),h)
  |_=>none
 |_=>none
theorem OG(i:Nat)(N:X.N.Nodup)(h:PE X e (tV X.K Q))(g:X.N[i]? = some x)(j:L2.Loc X.e.scope x)(u:X.fn x=true\/X.e.scope.names.lookup x=some .local):PS X (.AugAssign (.Name x t) .Add e B) (f_ X.K (tz i Q)):=
 (wU N g j h Jx u).imp' λD J H z=>by
  obtain⟨F,m,L,S,I,C,E,r,l,q,k⟩:=z;unfold tz at q;split at q
  .rename_i a w;obtain⟨y,G,p,q⟩:=aj q;cases y with
   |int b=>cases q;obtain⟨A,d,K⟩:=l.at' i _ w;cases (show A=.int a from K);refine⟨_,d,F,m,L,S,_,_,r,l,p,λv s f n c P o=>?_⟩;cases (show v=.int b from o);exact⟨a,b,rfl,rfl,k _ s f n c P ((l.mono c).set (show RD X.K s n f (.p (.int (a+b))) (.int (a+b)) from rfl) i)⟩
   |_=>cases q
  .cases q
def kO(A:Str->Str->Bool)(o:EE)(f:Str)(v:EV):ES:=λL S=>bA (o L S) λd h=>match d with
 | .ref i=>match h[i]? with
  | some (.ins c m n)=>if A c f=true then (match eQ f m n with
   |some (.p (.int a))=>bA (v L h) λy x=>match y,x[i]? with
    | .int b,some (.ins e k s)=>if (decide (e=c) && decide (k.length < 900))=true then some (.nx,L,x.set i (.ins c (putK f k) (gM f (.p (.int (a+b))) k s))) else none
    |_,_=>none
   |_=>none) else none
  |_=>none
 |_=>none
theorem KW(hA:NQ X.K A)(ho:PE X o (tE X.K I))(hv:PE X g (tV X.K Q)):PS X (.AugAssign (.Attribute o f q) .Add g B) (f_ X.K (kO A I f Q)):=(Ae ho hv Jz).imp' λD J H hz=>by
 obtain⟨F,m,L,S,fl,L',S',r,l,h,k⟩:=hz;obtain⟨d,S1,e1,h⟩:=aj h;refine⟨F,m,L,S,d,S1,r,l,e1,λx F1 m1 H1 s1 r1 p1=>?_⟩;cases d with
 |p w=>cases h
 |ref i=>
  obtain⟨a,rfl,hm⟩:=id p1;dsimp only at h;split at h
  .rename_i c ks ds hs;split at h
   .rename_i ha;split at h
    .rename_i K el;obtain⟨y,S2,e2,h⟩:=aj h;obtain⟨C,dx,W,R,hH,rfl,rs⟩:=r1.obj i a _ hm hs;obtain⟨C',T,hc,hn⟩:=hA c f ha;cases ib.inj R T;obtain⟨v,e3,p3⟩:=tN rs el;cases (show v=.int K from p3);refine⟨a,C,dx,W,_,rfl,hH,hc,hn,e3,F1,m1,L,S1,y,S2,r1,l.mono s1,e2,λu E M G s2 Z p2=>?_⟩;split at h
     .rename_i b c' ks' ds' j;split at h
      .rename_i n;rw[aE]at n;have e5:=aG n.1;subst e5;cases h;cases (show u=.int b from p2);obtain⟨a2,N,t⟩:=RD.mono s2 p1;cases N;obtain⟨C2,e,s,V,P,rfl,rs2⟩:=Z.obj i a _ t j;cases ib.inj R V;have hl:s.length < 1000:=by have:=aG n.2;rw[d3]at this;lia
       have nt:∀zs,G a≠some (.tup zs):=λzs z=>by rw[P]at z;cases z
       have st:Stp E M G E M (cJ G a (.ins C e (fV f (.int (K+b)) s))):=iY Z t j trivial nt;obtain⟨i1,i2⟩:=wT (f:=f) (show RD X.K E (cJ G a (.ins C e (fV f (.int (K+b)) s))) M (.p (.int (K+b))) (.int (K+b)) from rfl) (d7.mono st rs2);exact⟨K,b,rfl,rfl,e,s,P,hl,k J E M _ (s1.trans (s2.trans st)) (Z.set t j trivial nt ⟨C,e,_,R,ba,i1,i2⟩) ((l.mono s1).mono (s2.trans st))⟩
      .cases h
     .cases h
    .cases h
   .cases h
  .cases h
end
section
variable{X:Cx}{e:Expr}{es:Ab}{fs:kB}{p B:Pos}
noncomputable def iI:List P->Option P
 | [.int i]=>if decide (i.natAbs.log2 < 1920)=true then some (.str (toString i)) else none
 | [.str x]=>some (.str x)
 |_=>none
theorem Gp:ez X (.type "str") (rC X.K iI):=by
 intro G s J H c n Q I r h;obtain⟨F,f,d,b,a,q,k⟩:=h;unfold iI at q;split at q
 .split at q
  .rename_i i e;cases q;obtain⟨x,rfl,p⟩:=Ac a;exact ui G s J H _ n Q I r ⟨i,by rw[show x=_ from p],aG e,k _ F H .refl rfl⟩
  .cases q
 .cases q;obtain⟨x,rfl,p⟩:=Ac a;cases (show x=.str _ from p);obtain⟨u,rfl,t,rfl⟩:=vals1 r;exact PySem.P.str_of_str ⟨.str _,H,I,⟨t,rfl⟩,k _ F H .refl rfl⟩
 .cases q
theorem K1(g:Gl X "str")(m:X.g "str"=none)(a:PA X (e::es) (qi X.K fs))
  (x:starEach (e::es) X.e=(false,eval e X.e)::starEach es X.e) (h:(backTo B (starEach es X.e)).any (·.1)=false):PE X (.Call (.Name "str" p) (e::es) [] B) (tV X.K (au iI fs)):=Bm Gp g m x5 a (by decide) (by decide) x h
end
variable{H:Hp}
theorem uG:∀h:LS,cz K F H (h.map .str) (h.map V.str)
 | []=>rfl
 |s::r=>⟨_,_,rfl,rfl,uG r⟩
variable{x:Str}
theorem gb(s:LS)(h:u x=some (.ref a))(hk:K.lookup a=some ⟨.type "tuple",none,.seq v n,sl⟩)(z:v.size≤sizeLine)(e:a8 (s.map V.str) v.toList):um K u x (.tup (s.map .str)):=
 ⟨.ref a,.ref a,h,rfl,λF H=>⟨a,s.map V.str,rfl,.inr (.inr ⟨_,v,n,hk,rfl,rfl,rfl,z,e⟩),uG s⟩⟩
open PySem.W (KasT kas_sort kas_ask kas_item kat_run kat_snds kat_lt kat_kind KatTups KatLex kat_nil kat_cons kat_yes kat_no kat_one)
def KV(h:Heap)(d:P)(v:Value):Prop:=∃x i a o n t u,d=.tup [.str x,.int i]/\v=.ref a/\h.get? a=some o/\o.cls=.type "tuple"/\o.data=.seq #[.str x t,.int i u] n
section
variable{X:Cx}
theorem Ax{G:PN}{J:L2.St}{H:Hp}{s:Shared}{r:Heap}{B:Nat}{m:SV}(I:Inv X G J H s)(S:s.heap.Ns X.e.locals m)(a:r.Ns X.e.locals m)(k:∀b o,b≠X.e.locals->s.heap.get? b=some o->r.get? b=some o):Inv X G J H { s with heap:=r,toks:=B }:=by
 have L:∀b u,H b=some u->b≠X.e.locals:=λb u e z=>by rw[z,I.free]at e;cases e
 refine I.step (g':=s.gens) (d':=s.drawn) (ch:=[]) (λ_ z=>nomatch z) (λb o h _ _ e _=>k b o h e) (λb o h _ _ e _=>⟨o.slots,k b o h e⟩) (λ_ _ _ _ n=>n) (λb o _ e=>?_) (λ_ _ e=>e) (λ_ _ _ e=>e) (λ_ e=>e) (λP y=>?_) (λb u e=>?_) I.bare
 .by_cases h:b=X.e.locals
  .subst h;obtain⟨A,_,_,w,_⟩:=a;exact⟨A,w⟩
  .exact⟨o,k b o h e⟩
 .obtain⟨o,es,C,F,l,D,t⟩:=S;obtain⟨E,i,g,f,d,K,p⟩:=y;rw[F]at f;cases f;rw[l]at d;cases d;have:m=P:=funext λx=>(t x).symm.trans (p x);rw[<- this];exact a
 .refine (I.h b u e).stay (λc v j q=>k c v ?_ q) (λ_ q=>q) λ_ _ q=>q;rcases j with z|z
  .rw [z];exact L b u e
  .exact L c _ z
theorem CJ{g h x:Heap}{L:Addr}{m:SV}(k:∀b o,g.get? b=some o->h.get? b=some o)(F:Fr g L x m)(N:News g L x (oR g h L)):∀b o,b≠L->h.get? b=some o->x.get? b=some o:=λb o a e=>by
 cases q:g.get? b with
 |some u=>have:=k b u q;rw[e]at this;cases this;exact F.keep b _ q
 |none=>exact(N (b,o) (uU a q e)).1
end
end Ev

namespace Ev
open PySem PySem.Spec PyProof.Rows L2
section
variable{X:Cx}{B:Pos}
theorem z6{j:Program}{w:World}{A:Around}{E:VP}{s:Shared}{t l:Addr}{i:Array Value}{v u:Value}{lo x:Option Int}{Q:VP}(h:IsTup s.heap t i)(a:s.heap.IsSliceOf l v u .none)(p:IsPart v lo)(b:IsPart u x)
  (k:HT.em i.size 0 lo=0) (f:HT.em i.size i.size x=i.size) (q:Q (.ref t) s):wpAny (model j w) A (getItem (.ref t) (.ref l)) Q E s:=by
 have T:s.TypeIs (.ref l) "slice":=by obtain⟨o,e,n,_⟩:=a;exact⟨o,e,n⟩
 unfold getItem;try with_reducible refine k0 ?_
 first|refine ag (aF ?_)|skip
 refine ag (yS h.typeIs (by decide) ?_);refine ag (o3 (name:=Str.ofString "__getitem__") h.typeIs iK (oW iK h.typeIs xX ?_ (xW _ _)));show wpAny _ _ (A8 (.ref t) >>= _) _ _ s;refine ag (xU h (ag (v6 T ?_)));rw[ac (by decide)];refine ag (HT.iE a p b ?_);rw[k,f];have y:((((0:Nat):Int) == 0 && (1:Int) == 1 && (i.size-0) == i.size)=true):=by simp
 show wpAny _ _ (if ((((0:Nat):Int) == 0 && (1:Int) == 1 && (i.size-0) == i.size)=true) then _ else _) _ _ s;rw[ac y];refine ag (ag (v6 h.typeIs ?_));refine aF ?_;rw[ac (by rfl)];first
  |exact ag (aF (aF ⟨_,rfl,aF q⟩))
  |exact ag (vX (aF ⟨_,rfl,aF q⟩))
  |exact aF ⟨_,rfl,aF q⟩
theorem BN:GD X (λx lo n H Q=>∃a e,x=.ref a/\rA X.K H a e/\HT.em e.length 0 lo=0/\HT.em e.length e.length n=e.length/\Q (.ref a) H):=by
 intro G s J H x v w g lo n d Q I m b p u h;obtain⟨a,e,rfl,c,k,f,q⟩:=h;cases m;obtain⟨i,r,t,_⟩:=I.tuple c;have l:i.toArray.size=e.length:=by rw[bu];exact r.length.symm
 exact⟨"tuple",_,iK.lookup,t.typeIs,z6 t b p u (by rw[l];exact k) (by rw[l];exact f) ⟨.ref a,H,I,rfl,q⟩⟩
theorem Ic:GD X (λx lo e H Q=>∃z,x=.str z/\z.length≤sizeLine/\Q (.str (Txt.slice z lo e)) H):=by
 intro G s J H x v F K lo e S Q I y w g p h;obtain⟨z,rfl,m,q⟩:=h;obtain⟨t,rfl⟩:=y;refine⟨"str",_,PySem.F.slot_str_getitem.lookup,oT _ _ _,?_⟩;have f:∀lo e:Option Int,Q (.str (Txt.slice z lo e)) H->∀a k,EP X G J Q (.str (Txt.slice z lo e) a) { s with toks:=k }:=λlo e q a k=>⟨.str _,H,I.tok _,⟨a,rfl⟩,q⟩
 obtain⟨o,n,b,c⟩:=w;cases g with
 |none=>
  cases p with
  |none=>exact rG (l:=none) (u:=none) (st:=none) ⟨o,n,b,c⟩ rfl (rD ⟨a9 (nV z _ _) m,λa k=>f _ _ q a k⟩)
  |int j r=>exact rG (l:=none) (u:=some (j,r)) (st:=none) ⟨o,n,b,c⟩ rfl (rD ⟨a9 (nV z _ _) m,λa k=>f _ _ q a k⟩)
 |int i d=>
  cases p with
  |none=>exact rG (l:=some (i,d)) (u:=none) (st:=none) ⟨o,n,b,c⟩ rfl (rD ⟨a9 (nV z _ _) m,λa k=>f _ _ q a k⟩)
  |int j r=>exact rG (l:=some (i,d)) (u:=some (j,r)) (st:=none) ⟨o,n,b,c⟩ rfl (rD ⟨a9 (nV z _ _) m,λa k=>f _ _ q a k⟩)
def pV:P->Option Int->Option Int->Option P
 | .str x,lo,h=>if eO x.length=true then some (.str (Txt.slice x lo h)) else none
 | .tup s,lo,h=>some (.tup (cut s lo h))
 |x,lo,h=>RE x lo h
@[simp] def jv(a:EV)(lo n:EO)(L:Lc)(S:aP):tyV:=bA (a L S) λx h=>bA (lo L h) λi e=>bA (n L e) λj s=>(pV x i j).map λv=>(v,s)
theorem ON{e:Expr}{lo I:Option Expr}{N:EV}{G E:EO}{B p2:Pos}(he:PE X e (tV X.K N))(hl:PO X lo (tO X.K G))(hh:PO X I (tO X.K E)):PE X (.Subscript e (.Slice lo I none p2) B) (tV X.K (jv N G E)):=
 (B_ ((E1.or (Ib.or BN)).or Ic) he hl hh).imp' λJ H Q hz=>by
  obtain⟨F,m,L,S,d,S',r,l,q,k⟩:=hz;obtain⟨x,C,W,q⟩:=aj q;obtain⟨i,D,Z,q⟩:=aj q;obtain⟨j,V,e3,q⟩:=aj q;refine⟨F,m,L,S,x,C,r,l,W,λv R m1 H1 o r1 p1=>?_⟩;refine⟨R,m1,L,C,i,D,r1,l.mono o,Z,λT m2 H2 K r2=>?_⟩;refine⟨T,m2,L,D,j,V,r2,(l.mono o).mono K,e3,λP f A M b=>?_⟩;have g:=RP.mono M (RP.mono K p1);have c:=o.trans (K.trans M);cases x with
  |lst u=>cases q;obtain⟨a,s,rfl,t,n⟩:=g;exact .inl (.inl ⟨a,s,rfl,t.sq,λp h=>k _ _ f _ (c.trans (dn h).stp) (b.grow (dn h)) (.newLst h (n.cut i j))⟩)
  |ro u=>cases q;obtain⟨a,s,rfl,t,n⟩:=g;exact .inl (.inl ⟨a,s,rfl,t.sq,λp h=>k _ _ f _ (c.trans (dn h).stp) (b.grow (dn h)) (.newLst h (n.cut i j))⟩)
  |tup u=>
   obtain⟨a,s,rfl,t,n⟩:=g;cases q;by_cases w:HT.em s.length 0 i=0/\HT.em s.length s.length j=s.length
   .have y:cut u i j=u:=by
     unfold cut;rw[n.length,w.1,w.2,kt,Nat.sub_zero,<- n.length,yn]
    rw[y]at k;exact .inl (.inr (.inr ⟨a,s,rfl,t.sq,w.1,w.2,k _ P f A c b ⟨a,s,rfl,t,n⟩⟩))
   .exact .inl (.inr (.inl ⟨a,s,rfl,t.sq,w,λp h=>k _ _ f _ (c.trans (cu h).stp) (b.grow (cu h)) (.newTup h (n.cut i j))⟩))
  |str z=>
   cases (show v=.str z from g);simp only[pV]at q;split at q
   .rename_i y;cases q;exact .inr ⟨z,rfl,dF y,k _ P f A c b rfl⟩
   .cases q
  |_=>cases q
def iB:List P->Option P
 | [.str x]=>if x.length≤640 then (AZ x).map .int else none
 |s=>zV s
theorem Dy:ez X (.type "int") (rC X.K iB):=by
 intro G s J H v b Q I r h;obtain⟨F,a,d,c,f,q,k⟩:=h;have o:zV a=some d->wpAny (model X.p X.w) X.A (call (.type "int") b) (EP X G J Q) X.xe s:=λq=>Gr G s J H v b Q I r ⟨F,a,d,c,f,q,k⟩
 unfold iB at q;split at q
 .rename_i x;split at q
  .rename_i l;cases e:AZ x with
   |none=>rw[e]at q;cases q
   |some n=>rw[e]at q;cases q;obtain⟨y,rfl,p⟩:=Ac f;cases (show y=.str x from p);obtain⟨u,rfl,m⟩:=vals1 r;obtain⟨t,rfl⟩:=m;exact PySem.W.KIN.call_text e l ⟨.int n,H,I.tok _,⟨_,rfl⟩,k _ F H .refl rfl⟩
  .cases q
 .exact o q
variable{e:Expr}{es:Ab}{fs:kB}{p:Pos}
theorem HG(g:Gl X "int")(m:X.g "int"=none)(a:PA X (e::es) (qi X.K fs))(x:starEach (e::es) X.e=(false,eval e X.e)::starEach es X.e)(h:(backTo B (starEach es X.e)).any (·.1)=false) :
  PE X (.Call (.Name "int" p) (e::es) [] B) (tV X.K (au iB fs)):=Bm Dy g m Ep a (by decide) (by decide) x h
def c8(f:EV):EV:=λL S=>bA (f L S) λv h=>match v with
 | .str x=>if eO x.length=true then some (.str x,h) else none
 | .int i=>if decide (i.natAbs.log2 < 1920)=true then some (.str (toString i),h) else none
 |_=>none
theorem O0(o:PE X a (tV X.K N)):PE X (.FormattedValue a (-1) none B) (tV X.K (c8 N)):=by
 intro G s J H Q I ⟨F,m,L,S,d,A,r,l,q,k⟩;obtain⟨v,w,y,q⟩:=aj q;refine FormattedValue_plain (bF (o G s J H (λx h=>∃e n,Stp F m H e n h/\Rel X.K e h n w/\RP X.K e h v x) I ⟨F,m,L,S,v,w,r,l,y,λx e n h j f p=>⟨e,n,j,f,p⟩⟩) λu j K=>?_);obtain⟨x,h,b,g,e,n,st,f,p⟩:=K;cases v with
 |str z=>
  dsimp only at q;split at q
  .rename_i c;cases q;cases (show x=.str z from p);obtain⟨t,rfl⟩:=g;exact formatField_str (λP C=>⟨.str z,h,b.tok _,⟨P,rfl⟩,k _ e n h st f rfl⟩) (dF c)
  .cases q
 |int i=>
  dsimp only at q;split at q
  .rename_i c;cases q;cases (show x=.int i from p);obtain⟨t,rfl⟩:=g;exact formatField_int_small (aG c) ⟨.str _,h,b.tok _,⟨_,rfl⟩,k _ e n h st f rfl⟩
  .cases q
 |_=>cases q
def fU:Str->List EV->EV
 |a,[]=>λ_ S=>if eO a.length=true then some (.str a,S) else none
 |a,f::r=>λL S=>bA (f L S) λv h=>match v with
  | .str y=>if eO (a++y).length=true then fU (a++y) r L h else none
  |_=>none
def dH(fs:List EV):EV:=fU Str.empty fs
inductive PEs(X:Cx):Ab->List EV->Prop
 |nil:PEs X [] []
 |cons {e es f fs}:PE X e (tV X.K f)->PEs X es fs->PEs X (e::es) (f::fs)
theorem Hg:∀{es:Ab}{fs:List EV}(a:Str),PEs X es fs->∀(s:Shared)(J:L2.St)(H:Hp)(Q:VK),Inv X G J H s->tV X.K (fU a fs) J H Q->wpAny (model X.p X.w) X.A (joinParts a (evalEach es X.e)) (EP X G J Q) X.xe s
 |_,_,a,.nil,s,J,H,Q,I,z=>by
  obtain⟨F,m,L,S,d,o,r,l,q,k⟩:=z;unfold fU at q;split at q
  .rename_i p;cases q;exact joinParts_nil ⟨.str a,H,I.tok _,⟨_,rfl⟩,k _ F m H .refl r rfl⟩ (dF p)
  .cases q
 |_,_,a,.cons (e:=e) (es:=es) (f:=f) (fs:=fs) C D,s,J,H,Q,I,z=>by
  obtain⟨F,m,L,S,d,o,r,l,q,k⟩:=z;unfold fU at q;obtain⟨v,c,B,q⟩:=aj q;refine joinParts_cons (rest:=evalEach es X.e) (bF (C G s J H (λx n=>∃h b,Stp F m H h b n/\Rel X.K h n b c/\RP X.K h n v x) I ⟨F,m,L,S,v,c,r,l,B,λx h b n j i g=>⟨h,b,j,i,g⟩⟩) λu j z=>?_);obtain⟨x,n,A,R,h,b,st,i,g⟩:=z;cases v with
  |str y=>
   dsimp only at q;split at q
   .rename_i p;cases (show x=.str y from g);obtain⟨t,rfl⟩:=R;exact⟨dF p,Hg (a++y) D j J n Q A ⟨h,b,L,c,d,o,i,l.mono st,q,λw K E P T N M=>k w K E P (st.trans T) N M⟩⟩
   .cases q
  |_=>cases q
theorem K'{a b:Expr}{es:Ab}{fs:List EV}(h:PEs X (a::b::es) fs):PE X (.JoinedStr (a::b::es) B) (tV X.K (dH fs)):=λG s J H Q I q=>JoinedStr_many (Hg Str.empty h s J H Q I q)
@[simp] def Bt(a b c:EV)(L:Lc)(S:aP):tyV:=bA (a L S) λd h=>bA (b L h) λy x=>bA (c L x) λz e=>match d with
 | .dct s v=>match kT y with
  |some k=>some ((fE k s v).getD z,e)
  |none=>none
 |_=>none
theorem qy{K:FG}{F:Aa}{H:Hp}{k:d8}:∀{s:List (d8×V)}{d:List P},cz K F H d (s.map (·.2))->fE k (s.map (·.1)) d=none->iV s k=none
 | [],d,r,h=>rfl
 |(a,v)::s,[],r,h=>by have:=r.length;simp at this
 |(a,v)::s,b::d,r,h=>by
  obtain⟨x,m,e,p,n⟩:=r;rw[a6]at e;injection e with c f;simp only[a6,fE]at h;by_cases hk:a=k
  .rw [ac hk]at h;cases h
  .rw [ae hk]at h;rw[<- f]at n;rw[gf (p:=(a,v)) hk];exact qy n h
theorem HH{o a b:Expr}{I N T:EV}{B C:Pos}(hu:X.A.units+1 < cLine)(ho:PE X o (tV X.K I))(ha:PE X a (tV X.K N))(hb:PE X b (tV X.K T))(m:M2 X o "get" B a b C):PE X (.Call (.Attribute o "get" B) [a,b] [] C) (tV X.K (Bt I N T)):=
 (Cb hu ho ha hb m).imp' λJ H Q hz=>by
  obtain⟨F,m,L,S,d,S',r,l,q,k⟩:=hz;obtain⟨x,P,Z,q⟩:=aj q;obtain⟨y,A,e2,q⟩:=aj q;obtain⟨z,V,e3,q⟩:=aj q;refine⟨F,m,L,S,x,P,r,l,Z,λv M m1 H1 j r1 p1=>?_⟩;cases x with
  |dct ks W=>
   obtain⟨a,s,rfl,g,hk,ek,ra⟩:=id p1;refine⟨a,rfl,.inl ⟨s,.inl hk⟩,?_⟩;refine⟨M,m1,L,P,y,A,r1,l.mono j,e2,λvy R m2 H2 f r2 p2=>?_⟩;refine⟨R,m2,L,A,z,V,r2,(l.mono j).mono f,e3,λvz K D t c E p3=>?_⟩;have h:t a=some (.dK s):=(f.trans c).frk _ _ g hk;have e:=cz.mono c (cz.mono f ra);have py:=RP.mono c p2;dsimp only at q;split at q
   .rename_i i p;cases q;have u:=ma p py;subst u ek;have G:=j.trans (f.trans c);cases n:fE i (s.map (·.1)) W with
    |none=>have hm:=qy e n;refine⟨none,by rw[<- hm];exact nS.k h,?_⟩;rw[n]at k;exact k vz K D t G E p3
    |some w=>obtain⟨v,h1,h2⟩:=mN e n;refine⟨some v,by rw[<- h1];exact nS.k h,?_⟩;rw[n]at k;exact k v K D t G E h2
   .cases q
  |_=>cases q
def Kk(w:World):List DictEntry->List (Str×P)->Prop
 | [],[]=>True
 |e::es,(k,p)::r=>(∃t,e.key=.str k t)/\e.hash=hashStr w k/\(∃v,RelV v e.val/\∀K F H,RP K F H p v)/\Kk w es r
 |_,_=>False
def DQ(w:World)(K:FG)(m:SV)(x:Str)(k:List (Str×P)):Prop:=
 ∃a o es e,(a == sysModules)=false/\m x=some (.ref a)/\K.lookup a=some o/\o.ExactDict/\o.data=.dict es e/\Kk w es.toList k/\(k.map (·.1)).Nodup
theorem lj:∀{es:List DictEntry}{s:List (Str×P)},Kk w es s->∃x:List (d8×Value),Pairs (bv j w) es x/\x.map (·.1)=s.map (λp=>Sum.inr p.1) /\
  (∀k p,s.lookup k=some p->∃v u,valueAt x (Sum.inr k)=some u/\RelV v u/\∀K F H,RP K F H p v)/\∀e ∈ es,∃k,(bv j w).is k e.key=true/\e.hash=(bv j w).hash k
 | [],[],_=>⟨[],.nil,rfl,λk p z=>(by simp at z),λe z=>(by cases z)⟩
 | [],_::_,h=>h.elim
 |_::_,[],h=>h.elim
 |e::es,(k,p)::r,h=>by
  obtain⟨⟨t,c⟩,b,⟨v,A,y⟩,h⟩:=h;obtain⟨x,m,d,g,i⟩:=lj (j:=j) h;have hk:(bv j w).is (.inr k) e.key=true:=by rw[c];exact hR j w k t
  refine⟨(.inr k,e.val)::x,.cons hk rfl m,by simp[d],λa l z=>?_,λf z=>?_⟩
  .by_cases n:a=k
   .subst n;rw[yw]at z;cases z;exact⟨v,e.val,by simp[valueAt],A,y⟩
   .rw [lO,show(a == k)=false by simpa using n]at z;obtain⟨C,B,q,o,S⟩:=g a l z;refine⟨C,B,?_,o,S⟩;unfold valueAt at q ⊢;rw[iO];have:¬(Sum.inr k:d8)=Sum.inr a:=λz=>n (by cases z;rfl)
    simp only[this,rY];exact q
  .rcases aU.mp z with rfl|z
   .exact⟨.inr k,hk,b⟩
   .exact i f z
theorem mR:∀{s:LS},s.Nodup->(s.map (Sum.inr:Str->d8)).Nodup
 | [],_=>by simp
 |x::s,h=>by rw[d4]at h;rw[a6,d4];refine⟨λz=>?_,mR h.2⟩;obtain⟨y,a,e⟩:=fP.mp z;cases e;exact h.1 a
def k_(s:List (Str×P))(b:EV):EV:=λL S=>bA (b L S) λy h=>match y with
 | .str k=>(s.lookup k).map λv=>(v,h)
 |_=>none
theorem K0(hg:Gl X x)(ht:DQ X.w X.K X.g x kvs)(hd:(x == ("__debug__":Str))=false)(hb:PE X b (tV X.K T))(c:mB b):PE X (.Subscript (.Name x p) b B) (tV X.K (k_ kvs T)):=by
 obtain⟨a,o,es,R,_,hm,hk,P,N,ge,nd⟩:=ht;obtain⟨vs,V,W,Z,h4⟩:=lj (j:=X.p) ge;have ix:DP X (λx y H Q=>∃k p,x=.ref a/\y=.str k/\kvs.lookup k=some p/\∀v,(∀K F H,RP K F H p v)->Q v H):=by
  intro g i G s J H x y v u Q I rx ry h c;obtain⟨k,p,rfl,rfl,hl,q⟩:=h;cases rx;obtain⟨t,rfl⟩:=ry;obtain⟨v,u,n,rv,w⟩:=Z k p hl;have A:=I.kIn a o hk;have M:s.heap.DictOf (bv X.p X.w) a vs:=by refine⟨o,es,R,A,P,N,λe he=>h4 e (by simpa using he),V,?_⟩;rw[W,show(kvs.map λp=>(Sum.inr p.1:d8))=(kvs.map (·.1)).map Sum.inr by rw[oi];rfl];exact mR nd
  exact nZ ⟨o,A,P.1⟩ yO.lookup (yJ (knd:=bv X.p X.w) (hR X.p X.w k t) M.mapOf n ⟨v,H,I.tok _,rv,q v w⟩) c
 exact(Ca ix (tD (v:=.ref a) hg hm rfl hd) hb c).imp' λJ H Q hz=>by
  obtain⟨F,m,L,S,d,S',r,l,q,k⟩:=hz;obtain⟨y,E,n,q⟩:=aj q;refine⟨F,m,L,S,y,E,r,l,n,λv C m1 D s1 r1 p1=>?_⟩;cases y with
  |str z=>
   dsimp only at q;cases f:kvs.lookup z with
   |none=>rw[f]at q;cases q
   |some pp=>rw[f]at q;cases q;exact⟨z,_,rfl,p1,f,λv w=>k v C m1 D s1 r1 (w _ _ _)⟩
  |_=>cases q
end
noncomputable def EW:List d8->List P->Option (List (Str×P))
 | [],[]=>some []
 | .inr k::s,v::h=>(EW s h).map λr=>(k,v)::r
 |_,_=>none
noncomputable def CZ:P->Bool
 | .dct _ _=>true
 |_=>false
def d9(w:World)(K:FG)(m:SV)(x:Str)(v:P):Prop:=(CZ v=false->um K m x v)/\∀s h,v=.dct s h->∃k,EW s h=some k/\DQ w K m x k
variable{w:World}{K:FG}{x:Str}
theorem d9.plain(h:um K u x v)(a:CZ v=false):d9 w K u x v:=⟨λ_=>h,λk s e=>by subst e;cases a⟩
theorem d9.tab(e:EW u vs=some v)(h:DQ w K mg x v):d9 w K mg x (.dct u vs):=⟨(λz=>nomatch z),λk s z=>by cases z;exact⟨v,e,h⟩⟩
noncomputable def O7:List (Option EV)->Option (List EV)
 | []=>some []
 |a::r=>a.bind λf=>(O7 r).map λg=>f::g
section
variable{X:Cx}
theorem rg:∀{s:List Bool}{u:LV},a8 (s.map V.bl) u->LSm.BoolsAre u s
 | [],u,r=>by obtain rfl:u=[]:=iT (by simpa using r.length.symm);exact .nil
 |b::s,u,r=>by
  cases r with
  |cons q t=>cases (show _=Value.bool b from q);exact .cons b (rg t)
theorem Dx(c:X.c=true):ez X (.builtin "all") (λa H Q=>∃(p:Addr)(b:List Bool),a=[.ref p]/\jA X.K H p (b.map V.bl)/\Q (.bl (b.all id)) H):=by intro G s J H a v Q I r h;obtain⟨p,b,rfl,e,q⟩:=h;obtain⟨u,rfl,k⟩:=vals1 r;cases k;obtain⟨i,n,l,z⟩:=I.list e;obtain⟨m,F⟩:=I.fr;exact LSm.all_bools F (Ct (g:=X.b)) (I.o.hd c) l.isList (rg n) λf t x N=>⟨.bl (b.all id),H,Ax I F.ns x.ns (CJ I.bk x N),rfl,q⟩
noncomputable def vL:List P->Option (List Bool)
 | []=>some []
 | .bl b::r=>(vL r).map (b::·)
 |_=>none
def p7:List P->Option P
 | [.lst x]=>(vL x).map λb=>.bl (b.all id)
 |_=>none
theorem zW:∀{a:List P}{s:List Bool}{x:List V},vL a=some s->cz K F H a x->x=s.map V.bl
 | [],s,x,h,r=>by cases h;exact iT r.length.symm
 | .bl b::a,s,x,h,r=>by simp only[vL]at h;obtain⟨n,e,rfl⟩:=fK.mp h;obtain⟨y,f,rfl,p,k⟩:=r;cases (show y=.bl b from p);rw[zW e k];rfl
theorem Gs(c:X.c=true):ez X (.builtin "all") (rC X.K p7):=by
 intro G s J H w u Q I r h;obtain⟨F,m,d,v,f,q,k⟩:=h;unfold p7 at q;split at q
 .obtain⟨b,e,rfl⟩:=fK.mp q;obtain⟨x,rfl,p⟩:=Ac f;obtain⟨a,y,rfl,t,n⟩:=p;exact Dx c G s J H _ u Q I r ⟨a,b,rfl,by rw[<- zW e n];exact t.sq,k _ F H .refl rfl⟩
 .cases q
variable{e:Expr}{es:Ab}{fs:kB}{p B:Pos}
theorem K4(g:Gl X "all")(m:X.g "all"=none)(a:PA X (e::es) (qi X.K fs))(c:X.c=true)(x:starEach (e::es) X.e=(false,eval e X.e)::starEach es X.e)(h:(backTo B (starEach es X.e)).any (·.1)=false) :
  PE X (.Call (.Name "all" p) (e::es) [] B) (tV X.K (au p7 fs)):=Bn (Gs c) g m En a (by decide) (by decide) x h
end
end Ev




namespace PySem
open PySem PyProof.Rows
section
variable{n:Program}{w:World}{A:Around}{E:VP}{s:Shared}
theorem By(h:s.heap.IsTupleIter k t i)(m:s.heap.IsTuple t e)(r:e[i]? = some x)
  (b:∀a,a.IsTupleIter k t (i+1)->dC k s.heap a->Q x { s with heap:=a }):wpAny (model n w) A (fJ (.ref k)) Q E s:=by
 have T:=h.typeIs;obtain⟨⟨u,g,p,q⟩,o,c,f⟩:=id h;obtain⟨j,l,_,v,d⟩:=m;dsimp only at c f;subst c f;unfold fJ;apply ag;apply o3 (name:=Str.ofString "__next__") T F.slot_tuple_iterator_next;refine oW F.slot_tuple_iterator_next T F.entry_tuple_iterator_next ?_ (F.args_tuple_iterator_next_1 _);repeat first|with_reducible refine ag (eS o rfl (x:=.ref t) rfl ?_)|wp_step
 rw[d];apply aF;simp only[xR,r];apply ag;apply wpAny_setField o rfl (by simp);refine aF ⟨x,rfl,aF (b _ ⟨_,Heap.get?_update_self _ o rfl,rfl,?_⟩ (Heap.SameBut.update ..))⟩;simp[Obj.mapFields,rawInt]
theorem sR(p:A.handled=none)(h:s.heap.IsTupleIter f t i)(v:s.heap.IsTuple t m)(u:m[i]? = none)
  (r:∀a e,kj f s.heap a->(∃o,a.get? e=some o/\o.cls=.type "StopIteration")->E (.ref e) { s with heap:=a }):wpAny (model n w) A (fJ (.ref f)) Q E s:=by
 have T:=h.typeIs;obtain⟨⟨z,H,g,j⟩,q,c,k⟩:=id h;obtain⟨S,l,_,y,d⟩:=v;dsimp only at c k;subst c k;unfold fJ;apply ag;apply o3 (name:=Str.ofString "__next__") T F.slot_tuple_iterator_next;refine oW F.slot_tuple_iterator_next T F.entry_tuple_iterator_next ?_ (F.args_tuple_iterator_next_1 _);repeat first|with_reducible refine ag (eS q rfl (x:=.ref t) rfl ?_)|wp_step
 rw[d];apply aF;simp only[xR,u];have b:A.in1.handled=none:=p;repeat first|assumption|wp_step
 unfold raiseNew;apply ag;apply wpAny_handled;rw[b];apply wpAny_throw;exact r _ _ (((Heap.SameBut.update ..).extBut.push _).push _) ⟨_,aS _ rfl,rfl⟩
def p'(t:Bool)(h:Heap)(i l:Addr)(k:Nat):Prop:=if t=true then h.IsTupleIter i l k else h.IsListIter i l k
def AJ(t:Bool)(h:Heap)(l:Addr)(y:Array Value):Prop:=if t=true then h.IsTuple l y else h.IsList l y
theorem p'.extBut(x:p' t e a l i)(s:kj b e k)(h:a≠b):p' t k a l i:=by
 cases t
 .exact Heap.IsListIter.extBut x s h
 .exact Heap.IsTupleIter.extBut x s h
theorem AJ.extBut(x:AJ t e a y)(s:kj b e k)(h:a≠b):AJ t k a y:=by
 cases t
 .exact Heap.IsList.extBut x s h
 .exact Heap.IsTuple.extBut x s h
theorem p'.obj(x:p' t k a l i):∃o,k.get? a=some o/\(∃v,o.data=.fields v)/\∀h,h.get? a=some o->p' t h a l i:=by
 cases t
 .obtain⟨o,e,c,d⟩:=x;exact⟨o,e,⟨_,d⟩,λh s=>⟨o,s,c,d⟩⟩
 .obtain⟨o,e,c,d⟩:=x;exact⟨o,e,⟨_,d⟩,λh s=>⟨o,s,c,d⟩⟩
theorem u1(h:p' p s.heap k t i)(b:AJ p s.heap t e)(c:e[i]? = some x)
  (f:∀a,p' p a k t (i+1)->dC k s.heap a->Q x { s with heap:=a }):wpAny (model n w) A (fJ (.ref k)) Q E s:=by
 cases p
 .exact wpAny_nextOf_list_item h b c f
 .exact By h b c f
def j_(h:Heap)(z TI TO:Addr)(f x:Value):Prop:=h.get? z=some { cls:=.type "zip",data:=.fields #[f,x,.bool false,.ref TI,.ref TO] }
def cG(h:Heap)(T:Addr)(a b:Value):Prop:=h.get? T=some { cls:=.type "tuple",data:=.seq #[a,b] }
theorem Bh (l H:Addr) (xs ys:Array Value):Meets (Builtin.«zip.__new__» ⟨[.type "zip",.ref l,.ref H],[]⟩) (fun _ R s=>s.heap.IsList l xs/\s.heap.IsTuple H ys /\
  ∀u F K TI TO z,(∀b o,s.heap.get? b=some o->u.get? b=some o)->s.heap.objs.size≤F->F < K->K < TI->TI < TO->TO < z->u.IsListIter F l 0->u.IsTupleIter K H 0->cG u TI (.ref F) (.ref K)->cG u TO .none .none ->
   j_ u z TI TO .none (.bool false)->R (.ok (.ret (.ref z))) { s with heap:=u }):=
 .of_wp λn w A R s h=>by
  obtain⟨j,g,d,tk,os⟩:=s;obtain⟨C,D,h⟩:=h;have Z:=sub_zip;have L:x8 (kc ⟨j,g,d,tk,os⟩) l xs:=C;have B:oa (kc ⟨j.push { cls:=.type "list_iterator",data:=.fields #[.ref l,.int 0 0] },g,d,tk,os⟩) H ys:=D.push _
  wp_walk using mH L,mJ B
  have y:∀(i f x a c m:Heap)(t p q v r:Obj),f=i.push t->x=f.push p->a=x.push q->c=a.push v->m=c.push r->t.isFreed=false->p.isFreed=false->q.isFreed=false->v.isFreed=false->r.isFreed=false ->
    (∀b o,i.get? b=some o->m.get? b=some o)/\i.objs.size < f.objs.size/\f.objs.size < x.objs.size/\x.objs.size < a.objs.size/\a.objs.size < c.objs.size /\
    m.get? i.objs.size=some t/\m.get? f.objs.size=some p/\m.get? x.objs.size=some q/\m.get? a.objs.size=some v/\m.get? c.objs.size=some r:=by
   intro i f x a c m t p q v r G I M N Q f1 f2 f3 f4 f5;have T:f.get? i.objs.size=some t:=by rw[G];exact aS _ f1
   have V:x.get? f.objs.size=some p:=by rw[I];exact aS _ f2
   have W:a.get? x.objs.size=some q:=by rw[M];exact aS _ f3
   have X:c.get? a.objs.size=some v:=by rw[N];exact aS _ f4
   have g5:m.get? c.objs.size=some r:=by rw[Q];exact aS _ f5
   have u2:∀b o,f.get? b=some o->x.get? b=some o:=λb o e=>by rw[I];exact aJ _ e
   have E:∀b o,x.get? b=some o->a.get? b=some o:=λb o e=>by rw[M];exact aJ _ e
   have P:∀b o,a.get? b=some o->c.get? b=some o:=λb o e=>by rw[N];exact aJ _ e
   have S:∀b o,c.get? b=some o->m.get? b=some o:=λb o e=>by rw[Q];exact aJ _ e
   exact⟨λb o e=>S _ _ (P _ _ (E _ _ (u2 _ _ (by rw[G];exact aJ _ e)))),az T,az V,az W,az X,S _ _ (P _ _ (E _ _ (u2 _ _ T))),S _ _ (P _ _ (E _ _ V)),S _ _ (P _ _ W),S _ _ X,g5⟩
  let t:Obj:={ cls:=.type "list_iterator",data:=.fields #[.ref l,.int 0 0] }
  let f:=j.push t
  let p:Obj:={ cls:=.type "tuple_iterator",data:=.fields #[.ref H,.int 0 0] }
  let x:=f.push p
  let q:Obj:={ cls:=.type "tuple",data:=.seq #[.ref j.objs.size,.ref f.objs.size] }
  let a:=x.push q
  let v:Obj:={ cls:=.type "tuple",data:=.seq #[.none,.none] }
  let c:=a.push v
  let r:Obj:={ cls:=.type "zip",data:=.fields #[.none,.bool false,.bool false,.ref x.objs.size,.ref a.objs.size] }
  obtain⟨k,s1,s2,s3,s4,a1,a2,a3,a4,a5⟩:=y j f x a c (c.push r) t p q v r rfl rfl rfl rfl rfl rfl rfl rfl rfl rfl;exact⟨_,rfl,h (c.push r) j.objs.size f.objs.size x.objs.size a.objs.size c.objs.size k (aq _) s1 s2 s3 s4 ⟨_,a1,rfl,rfl⟩ ⟨_,a2,rfl,rfl⟩ a3 a4 a5⟩
end
end PySem

namespace PySem
open PySem PyProof.Rows
section
variable{n:Program}{w:World}{A:Around}{E:VP}{s:Shared}
theorem p'.at(x:p' t b a l i)(k:∀o,b.get? a=some o->c.get? a=some o):p' t c a l i:=by obtain⟨o,e,_,f⟩:=x.obj;exact f _ (k o e)
theorem FX(k:A.handled=none)(h:p' p s.heap c t i)(f:AJ p s.heap t m)(b:m[i]? = none)
  (a:∀x e,kj c s.heap x->(∃o,x.get? e=some o/\o.cls=.type "StopIteration")->E (.ref e) { s with heap:=x }):wpAny (model n w) A (fJ (.ref c)) Q E s:=by
 cases p
 .exact wpAny_nextOf_list_end k h f b a
 .exact sR k h f b a
theorem z4{tq tp:Bool}{k:Nat}{z TI TO i d I H:Addr}{xs ys:Array Value}{x y p q:Value}{Q:VP}(F:j_ s.heap z TI TO .none (.bool false))(N:cG s.heap TI (.ref i) (.ref d))(R:cG s.heap TO p q)
  (h1:p' tq s.heap i I k) (h2:p' tp s.heap d H k) (V:AJ tq s.heap I xs) (W:AJ tp s.heap H ys) (hx:xs[k]? = some x) (hy:ys[k]? = some y)
  (n1:i≠z) (n2:d≠z) (n3:I≠z) (n4:H≠z) (n5:d≠i) (n6:H≠i) (L:TO≠z) (n8:TO≠i) (n9:TO≠d) (n10:H≠TO)
  (hQ:∀(g:Heap) (T:Addr),j_ g z TI TO (rawInt T) (.bool false)->p' tq g i I (k+1)->p' tp g d H (k+1)->cG g TO x y->cG g T x y->T=s.heap.objs.size->(∀c o,c≠z->c≠i->c≠d->c≠TO->s.heap.get? c=some o->g.get? c=some o) ->
   Q (.ref T) { s with heap:=g }) :
  wpAny (model n w) A (Builtin.«zip.__next__» ⟨[.ref z],[]⟩) (λM s'=>∃v,M=.done (.ret v)/\Q v s') E s:=by
 unfold Builtin.«zip.__next__»;apply ag;apply aF;apply ag;refine eS (show s.heap.get? z=some _ from F) rfl (x:=.bool false) rfl ?_;apply ag;refine eS (show s.heap.get? z=some _ from F) rfl (x:=.ref TI) rfl ?_;apply ag;refine mF (show s.heap.get? TI=some _ from N) rfl ?_;dsimp only;rw[ae (by simp)];apply ag;unfold xw;apply ag;refine eS (show s.heap.get? z=some _ from F) rfl (x:=.none) rfl (aF ?_);rw[ac rfl];apply ag;apply vX;apply ag;refine eS (show s.heap.get? z=some _ from F) rfl (x:=.ref TO) rfl ?_;dsimp only;apply ag;refine oZ (show s.heap.get? z=some _ from F) (by simp) λh0 X b=>?_
 apply ag;show wpAny _ _ (forIn [(Value.ref i,0),(Value.ref d,1)] _ _) _ _ _;rw[lM];apply ag;apply ag;apply v9;show wpAny _ _ (fJ (.ref i) >>= _) _ _ _;apply ag;refine u1 (h1.extBut b.extBut n1) (V.extBut b.extBut n3) hx λha ia a=>aF ?_;dsimp only;have C:ha.get? TO=some { cls:=.type "tuple",data:=.seq #[p,q] }:=a.extBut _ _ n8 (b.extBut _ _ L R);apply ag;refine mF C rfl ?_;dsimp only;apply ag;refine A0 (s:={ s with heap:=ha }) C λhb j f=>?_;replace j:hb.get? TO=some { cls:=.type "tuple",data:=.seq #[x,q] }:=j;apply ag;apply wpAny_letGo;apply aF;dsimp only;rw[lM];apply ag;apply ag;apply v9;show wpAny _ _ (fJ (.ref d) >>= _) _ _ _;apply ag;refine u1 (((h2.extBut b.extBut n2).extBut a.extBut n5).extBut f.extBut (bB n9)) (((W.extBut b.extBut n4).extBut a.extBut n6).extBut f.extBut n10) hy λhc ic m=>aF ?_;dsimp only;have D:hc.get? TO=some { cls:=.type "tuple",data:=.seq #[x,q] }:=m.extBut _ _ n9 j;apply ag;refine mF D rfl ?_;dsimp only;apply ag;refine A0 (s:={ s with heap:=hc }) D λl u t=>?_;replace u:l.get? TO=some { cls:=.type "tuple",data:=.seq #[x,y] }:=u;apply ag;apply wpAny_letGo;apply aF;dsimp only;rw[List.forIn_nil];apply aF;dsimp only;apply ag;refine mF u rfl ?_;dsimp only;apply ag;refine wpAny_newTuple (hsz:=by show 2≤sizeLine;decide) ?_;have K:l.get? z=some { cls:=.type "zip",data:=.fields #[.ellipsis,.bool false,.bool false,.ref TI,.ref TO] }:=t.extBut _ _ (bB L) (m.extBut _ _ (bB n2) (f.extBut _ _ (bB L) (a.extBut _ _ (bB n1) X)));have G:=az K;have Z:(l.push { cls:=.type "tuple",data:=.seq #[x,y] }).get? z=some { cls:=.type "zip",data:=.fields #[.ellipsis,.bool false,.bool false,.ref TI,.ref TO] }:=aJ _ K;apply ag;unfold D0;dsimp only;apply ag;refine oZ Z (by simp) λhe hz6 P=>?_;refine oZ hz6 (by simp) λhf hz7 B=>?_;have h:∀c o,c≠z->l.get? c=some o->hf.get? c=some o:=λc o S e=>B.extBut _ _ S (P.extBut _ _ S (aJ _ e));refine aF ⟨_,rfl,hQ hf l.objs.size hz7 ?_ ?_ (h _ _ L u) ?_ ?_ ?_⟩
 .exact p'.at (((ia.extBut f.extBut (bB n8)).extBut m.extBut (bB n5)).extBut t.extBut (bB n8)) λo e=>h _ o n1 e
 .obtain⟨o,e,_,r⟩:=(ic.extBut t.extBut (bB n9)).obj;exact r _ (h _ o n2 e)
 .exact B.extBut _ _ (fO G) (P.extBut _ _ (fO G) (aS _ rfl))
 .show l.objs.size=s.heap.objs.size;rw[t.1,m.1,f.1,a.1,b.1]
 .exact λc o S c2 c3 c4 e=>h c o S (t.extBut _ _ c4 (m.extBut _ _ c3 (f.extBut _ _ c4 (a.extBut _ _ c2 (b.extBut _ _ S e)))))
theorem Bj(F:A.handled=none)(a:j_ s.heap z TI TO .none (.bool false))(T:cG s.heap TI (.ref i) (.ref B))
  (y:p' G s.heap i v k) (l:AJ G s.heap v I) (K:I[k]? = none) (d:i≠z) (C:v≠z)
  (S:∀h e,(∀c o,c≠z->c≠i->s.heap.get? c=some o->h.get? c=some o)->(∃o,h.get? e=some o/\o.cls=.type "StopIteration")->E (.ref e) { s with heap:=h }) :
  wpAny (model n w) A (Builtin.«zip.__next__» ⟨[.ref z],[]⟩) Q E s:=by
 unfold Builtin.«zip.__next__»;apply ag;apply aF;apply ag;refine eS (show s.heap.get? z=some _ from a) rfl (x:=.bool false) rfl ?_;apply ag;refine eS (show s.heap.get? z=some _ from a) rfl (x:=.ref TI) rfl ?_;apply ag;refine mF (show s.heap.get? TI=some _ from T) rfl ?_;dsimp only;rw[ae (by simp)];apply ag;unfold xw;apply ag;refine eS (show s.heap.get? z=some _ from a) rfl (x:=.none) rfl (aF ?_);rw[ac rfl];apply ag;apply vX;apply ag;refine eS (show s.heap.get? z=some _ from a) rfl (x:=.ref TO) rfl ?_;dsimp only;apply ag;refine oZ (show s.heap.get? z=some _ from a) (by simp) λL t b=>?_
 apply ag;show wpAny _ _ (forIn [(Value.ref i,0),(Value.ref B,1)] _ _) _ _ _;rw[lM];apply ag;apply ag;apply v9;show wpAny _ _ (fJ (.ref i) >>= _) _ _ _;apply ag;refine FX F (y.extBut b.extBut d) (l.extBut b.extBut C) K λh e x o=>?_;have f:=x _ _ (bB d) t;refine oZ (s:={ s with heap:=h }) f (by simp) λH P m=>S H e (λc u p g j=>m.extBut _ _ p (x _ _ g (b.extBut _ _ p j))) ?_;obtain⟨u,r,c⟩:=o;have D:e≠z:=λq=>by rw[q,f]at r;cases r;exact absurd (show Value.type "zip"=Value.type "StopIteration" from c) (by decide)
 exact⟨u,m.extBut _ _ D r,c⟩
end
end PySem

namespace PySem
open PySem PyProof.Rows
section
variable{n:Program}{w:World}{A:Around}{E:VP}{s:Shared}
theorem Bg(k:s.TypeIs (.ref z) "zip")
  (h:wpAny (model n w) A.in1 (Builtin.«zip.__next__» ⟨[.ref z],[]⟩) (λf x=>∃v,f=.done (.ret v)/\Q (some v) x) (λe x=>∃a o,e=.ref a/\x.heap.get? a=some o/\o.cls=.type "StopIteration"/\Q none x) s) :
  wpAny (model n w) A (pyNext (.ref z)) Q E s:=by
 unfold pyNext;apply ag;apply wpAny_attempt;refine o3 (name:=Str.ofString "__next__") k F.slot_zip_next (oW F.slot_zip_next k F.entry_zip_next (bC h (λf x ⟨v,e,q⟩=>⟨v,e,aF q⟩) λe x ⟨a,o,c,m,r,q⟩=>?_) (F.args_zip_next_1 _));subst c;apply ag;exact yK (T:="StopIteration") (b:=true) ⟨_,m,r⟩ isSubtype_stop (aF q)
structure ZAp(d z TI TO i1 i2 l1 l2:Addr):Prop where
 nd:[d,z,TI,TO,i1,i2].Nodup
 l1n:l1 ∉ [d,z,TI,TO,i1,i2]
 l2n:l2 ∉ [d,z,TI,TO,i1,i2]
end
end PySem

namespace PySem
open PySem PyProof.Rows
section
variable{n:Program}{w:World}{K:Type}[DecidableEq K]{h:KeyKind n w K}{A:Around}{E:VP}{s:Shared}
theorem vK(l:s.heap.IsList f H)(e:s.heap.IsTuple c B)
  (h:∀x i a TI TO z,(∀b o,s.heap.get? b=some o->x.get? b=some o)->s.heap.objs.size≤i->i < a->a < TI->TI < TO->TO < z->x.IsListIter i f 0->x.IsTupleIter a c 0->cG x TI (.ref i) (.ref a)->cG x TO .none .none ->
   j_ x z TI TO .none (.bool false)->Q (.ref z) { s with heap:=x }):wpAny (model n w) A (call (.type "zip") [.ref f,.ref c]) Q E s:=by
 refine vY F.called_zip (by decide) (F.typeCall_zip_2 _ _) (F.newCall_zip_2 _ _) (λj=>F.args_object_init_3 j _ _) F.entry_zip_new (Bh f c H B) ⟨l,e,λx i a TI TO z k r t p q v d u g y m=>?_⟩;show _/\_;exact⟨⟨_,m,rfl⟩,h x i a TI TO z k r t p q v d u g y m⟩
end
section
variable{n:Program}{w:World}{A:Around}{E:VP}{s:Shared}
theorem uw (l H:Addr) (xs ys:Array Value):Meets (Builtin.«zip.__new__» ⟨[.type "zip",.ref l,.ref H],[]⟩) (fun _ R s=>s.heap.IsTuple l xs/\s.heap.IsList H ys /\
  ∀u F K TI TO z,(∀b o,s.heap.get? b=some o->u.get? b=some o)->s.heap.objs.size≤F->F < K->K < TI->TI < TO->TO < z->u.IsTupleIter F l 0->u.IsListIter K H 0->cG u TI (.ref F) (.ref K)->cG u TO .none .none ->
   j_ u z TI TO .none (.bool false)->R (.ok (.ret (.ref z))) { s with heap:=u }):=
 .of_wp λn w A R s h=>by
  obtain⟨j,g,d,tk,os⟩:=s;obtain⟨C,D,h⟩:=h;have Z:=sub_zip;have L:oa (kc ⟨j,g,d,tk,os⟩) l xs:=C;have B:x8 (kc ⟨j.push { cls:=.type "tuple_iterator",data:=.fields #[.ref l,.int 0 0] },g,d,tk,os⟩) H ys:=D.push _
  wp_walk using mJ L,mH B
  have y:∀(i f x a c m:Heap)(t p q v r:Obj),f=i.push t->x=f.push p->a=x.push q->c=a.push v->m=c.push r->t.isFreed=false->p.isFreed=false->q.isFreed=false->v.isFreed=false->r.isFreed=false ->
    (∀b o,i.get? b=some o->m.get? b=some o)/\i.objs.size < f.objs.size/\f.objs.size < x.objs.size/\x.objs.size < a.objs.size/\a.objs.size < c.objs.size /\
    m.get? i.objs.size=some t/\m.get? f.objs.size=some p/\m.get? x.objs.size=some q/\m.get? a.objs.size=some v/\m.get? c.objs.size=some r:=by
   intro i f x a c m t p q v r G I M N Q f1 f2 f3 f4 f5;have T:f.get? i.objs.size=some t:=by rw[G];exact aS _ f1
   have V:x.get? f.objs.size=some p:=by rw[I];exact aS _ f2
   have W:a.get? x.objs.size=some q:=by rw[M];exact aS _ f3
   have X:c.get? a.objs.size=some v:=by rw[N];exact aS _ f4
   have g5:m.get? c.objs.size=some r:=by rw[Q];exact aS _ f5
   have u2:∀b o,f.get? b=some o->x.get? b=some o:=λb o e=>by rw[I];exact aJ _ e
   have E:∀b o,x.get? b=some o->a.get? b=some o:=λb o e=>by rw[M];exact aJ _ e
   have P:∀b o,a.get? b=some o->c.get? b=some o:=λb o e=>by rw[N];exact aJ _ e
   have S:∀b o,c.get? b=some o->m.get? b=some o:=λb o e=>by rw[Q];exact aJ _ e
   exact⟨λb o e=>S _ _ (P _ _ (E _ _ (u2 _ _ (by rw[G];exact aJ _ e)))),az T,az V,az W,az X,S _ _ (P _ _ (E _ _ (u2 _ _ T))),S _ _ (P _ _ (E _ _ V)),S _ _ (P _ _ W),S _ _ X,g5⟩
  let t:Obj:={ cls:=.type "tuple_iterator",data:=.fields #[.ref l,.int 0 0] }
  let f:=j.push t
  let p:Obj:={ cls:=.type "list_iterator",data:=.fields #[.ref H,.int 0 0] }
  let x:=f.push p
  let q:Obj:={ cls:=.type "tuple",data:=.seq #[.ref j.objs.size,.ref f.objs.size] }
  let a:=x.push q
  let v:Obj:={ cls:=.type "tuple",data:=.seq #[.none,.none] }
  let c:=a.push v
  let r:Obj:={ cls:=.type "zip",data:=.fields #[.none,.bool false,.bool false,.ref x.objs.size,.ref a.objs.size] }
  obtain⟨k,s1,s2,s3,s4,a1,a2,a3,a4,a5⟩:=y j f x a c (c.push r) t p q v r rfl rfl rfl rfl rfl rfl rfl rfl rfl rfl;exact⟨_,rfl,h (c.push r) j.objs.size f.objs.size x.objs.size a.objs.size c.objs.size k (aq _) s1 s2 s3 s4 ⟨_,a1,rfl,rfl⟩ ⟨_,a2,rfl,rfl⟩ a3 a4 a5⟩
theorem vJ(l:s.heap.IsTuple f H)(e:s.heap.IsList c B)
  (h:∀x i a TI TO z,(∀b o,s.heap.get? b=some o->x.get? b=some o)->s.heap.objs.size≤i->i < a->a < TI->TI < TO->TO < z->x.IsTupleIter i f 0->x.IsListIter a c 0->cG x TI (.ref i) (.ref a)->cG x TO .none .none ->
   j_ x z TI TO .none (.bool false)->Q (.ref z) { s with heap:=x }):wpAny (model n w) A (call (.type "zip") [.ref f,.ref c]) Q E s:=by
 refine vY F.called_zip (by decide) (F.typeCall_zip_2 _ _) (F.newCall_zip_2 _ _) (λj=>F.args_object_init_3 j _ _) F.entry_zip_new (uw f c H B) ⟨l,e,λx i a TI TO z k r t p q v d u g y m=>?_⟩;show _/\_;exact⟨⟨_,m,rfl⟩,h x i a TI TO z k r t p q v d u g y m⟩
theorem uv (l H:Addr) (xs ys:Array Value):Meets (Builtin.«zip.__new__» ⟨[.type "zip",.ref l,.ref H],[]⟩) (fun _ R s=>s.heap.IsTuple l xs/\s.heap.IsTuple H ys /\
  ∀u F K TI TO z,(∀b o,s.heap.get? b=some o->u.get? b=some o)->s.heap.objs.size≤F->F < K->K < TI->TI < TO->TO < z->u.IsTupleIter F l 0->u.IsTupleIter K H 0->cG u TI (.ref F) (.ref K)->cG u TO .none .none ->
   j_ u z TI TO .none (.bool false)->R (.ok (.ret (.ref z))) { s with heap:=u }):=
 .of_wp λn w A R s h=>by
  obtain⟨j,g,d,tk,os⟩:=s;obtain⟨C,D,h⟩:=h;have Z:=sub_zip;have L:oa (kc ⟨j,g,d,tk,os⟩) l xs:=C;have B:oa (kc ⟨j.push { cls:=.type "tuple_iterator",data:=.fields #[.ref l,.int 0 0] },g,d,tk,os⟩) H ys:=D.push _
  wp_walk using mJ L,mJ B
  have y:∀(i f x a c m:Heap)(t p q v r:Obj),f=i.push t->x=f.push p->a=x.push q->c=a.push v->m=c.push r->t.isFreed=false->p.isFreed=false->q.isFreed=false->v.isFreed=false->r.isFreed=false ->
    (∀b o,i.get? b=some o->m.get? b=some o)/\i.objs.size < f.objs.size/\f.objs.size < x.objs.size/\x.objs.size < a.objs.size/\a.objs.size < c.objs.size /\
    m.get? i.objs.size=some t/\m.get? f.objs.size=some p/\m.get? x.objs.size=some q/\m.get? a.objs.size=some v/\m.get? c.objs.size=some r:=by
   intro i f x a c m t p q v r G I M N Q f1 f2 f3 f4 f5;have T:f.get? i.objs.size=some t:=by rw[G];exact aS _ f1
   have V:x.get? f.objs.size=some p:=by rw[I];exact aS _ f2
   have W:a.get? x.objs.size=some q:=by rw[M];exact aS _ f3
   have X:c.get? a.objs.size=some v:=by rw[N];exact aS _ f4
   have g5:m.get? c.objs.size=some r:=by rw[Q];exact aS _ f5
   have u2:∀b o,f.get? b=some o->x.get? b=some o:=λb o e=>by rw[I];exact aJ _ e
   have E:∀b o,x.get? b=some o->a.get? b=some o:=λb o e=>by rw[M];exact aJ _ e
   have P:∀b o,a.get? b=some o->c.get? b=some o:=λb o e=>by rw[N];exact aJ _ e
   have S:∀b o,c.get? b=some o->m.get? b=some o:=λb o e=>by rw[Q];exact aJ _ e
   exact⟨λb o e=>S _ _ (P _ _ (E _ _ (u2 _ _ (by rw[G];exact aJ _ e)))),az T,az V,az W,az X,S _ _ (P _ _ (E _ _ (u2 _ _ T))),S _ _ (P _ _ (E _ _ V)),S _ _ (P _ _ W),S _ _ X,g5⟩
  let t:Obj:={ cls:=.type "tuple_iterator",data:=.fields #[.ref l,.int 0 0] }
  let f:=j.push t
  let p:Obj:={ cls:=.type "tuple_iterator",data:=.fields #[.ref H,.int 0 0] }
  let x:=f.push p
  let q:Obj:={ cls:=.type "tuple",data:=.seq #[.ref j.objs.size,.ref f.objs.size] }
  let a:=x.push q
  let v:Obj:={ cls:=.type "tuple",data:=.seq #[.none,.none] }
  let c:=a.push v
  let r:Obj:={ cls:=.type "zip",data:=.fields #[.none,.bool false,.bool false,.ref x.objs.size,.ref a.objs.size] }
  obtain⟨k,s1,s2,s3,s4,a1,a2,a3,a4,a5⟩:=y j f x a c (c.push r) t p q v r rfl rfl rfl rfl rfl rfl rfl rfl rfl rfl;exact⟨_,rfl,h (c.push r) j.objs.size f.objs.size x.objs.size a.objs.size c.objs.size k (aq _) s1 s2 s3 s4 ⟨_,a1,rfl,rfl⟩ ⟨_,a2,rfl,rfl⟩ a3 a4 a5⟩
theorem vI(l:s.heap.IsTuple f H)(e:s.heap.IsTuple c B)
  (h:∀x i a TI TO z,(∀b o,s.heap.get? b=some o->x.get? b=some o)->s.heap.objs.size≤i->i < a->a < TI->TI < TO->TO < z->x.IsTupleIter i f 0->x.IsTupleIter a c 0->cG x TI (.ref i) (.ref a)->cG x TO .none .none ->
   j_ x z TI TO .none (.bool false)->Q (.ref z) { s with heap:=x }):wpAny (model n w) A (call (.type "zip") [.ref f,.ref c]) Q E s:=by
 refine vY F.called_zip (by decide) (F.typeCall_zip_2 _ _) (F.newCall_zip_2 _ _) (λj=>F.args_object_init_3 j _ _) F.entry_zip_new (uv f c H B) ⟨l,e,λx i a TI TO z k r t p q v d u g y m=>?_⟩;show _/\_;exact⟨⟨_,m,rfl⟩,h x i a TI TO z k r t p q v d u g y m⟩
end
end PySem


namespace Ev
open PySem PySem.Spec PyProof.Rows L2
def vV(x c:P):Option Bool:=match c with
 | .lst s=>if (s.all (ig 19) && ig 19 x)=true then some (s.any λy=>eF (pd y) (pd x)) else none
 | .tup s=>if (s.all (ig 19) && ig 19 x)=true then some (s.any λy=>eF (pd y) (pd x)) else none
 | .str j=>match x with
  | .str i=>some (!(lH j i 0 j.length 1).isEmpty)
  |_=>none
 |_=>none
def M5(d c:D)(S:aP):Option Bool:=(dO S 9 d).bind λx=>(dO S 9 c).bind λy=>vV x y
def bb(d c:D)(S:aP):Option P:=(qZ c S).elim ((M5 d c S).map .bl) λ_=>Qe d c S
def mW(d c:D)(S:aP):Option P:=(M5 d c S).map λb=>.bl (!b)
section
variable{X:Cx}{g:PN}{J:L2.St}{H:Hp}{s:Shared}{F:Aa}{m:List Addr}{S:aP}{d e:D}{x y:V}{v u:Value}{b:Bool}{Q:VK}
theorem C5(E:X.A.units+64 < cLine)(I:Inv X g J H s)(p:RelV x v)(w:RelV y u)(l:Rel X.K F H m S)(o:RD X.K F H m d x)(K:RD X.K F H m e y)(q:M5 d e S=some b) :
  (Q (.bl b) H->wpAny (model X.p X.w) X.A (compareOp .In v u) (EP X g J Q) X.xe s)/\(Q (.bl (!b)) H->wpAny (model X.p X.w) X.A (compareOp .NotIn v u) (EP X g J Q) X.xe s):=by
 unfold M5 at q;cases a:dO S 9 d with
 |none=>rw[a]at q;cases q
 |some C=>
  rw[a]at q;cases n:dO S 9 e with
  |none=>rw[n]at q;cases q
  |some D=>
   rw[n]at q;simp only[lG]at q;cases D with
   |lst P=>
    simp only[vV]at q;split at q
    .rename_i h;rw[aE]at h;cases q;obtain⟨A,r⟩:=di I l 9 20 K w n (by simpa[ig] using h.1);obtain⟨B,t⟩:=di I l 9 19 o p a h.2;have f:=G' h.1;have c:=hJ 19 _ h.2;rw[pd]at r;exact⟨λk=>SeqAt.in_list_reads r t f.1 c.1 (by lia) ⟨.bl _,H,I,rfl,by rw[l0];exact k⟩,λk=>SeqAt.notIn_list_reads r t f.1 c.1 (by lia) ⟨.bl _,H,I,rfl,by rw[l0];exact k⟩⟩
    .cases q
   |tup P=>
    simp only[vV]at q;split at q
    .rename_i h;rw[aE]at h;cases q;obtain⟨A,r⟩:=di I l 9 20 K w n (by simpa[ig] using h.1);obtain⟨B,t⟩:=di I l 9 19 o p a h.2;have f:=G' h.1;have c:=hJ 19 _ h.2;rw[pd]at r;exact⟨λk=>SeqAt.in_tuple_reads r t f.1 c.1 (by lia) ⟨.bl _,H,I,rfl,by rw[l0];exact k⟩,λk=>SeqAt.notIn_tuple_reads r t f.1 c.1 (by lia) ⟨.bl _,H,I,rfl,by rw[l0];exact k⟩⟩
    .cases q
   |str j=>
    simp only[vV]at q;cases C with
    |str i=>cases q;cases (show x=.str i from i3 l o a λP=>⟨λz=>(by cases z),λz=>(by cases z)⟩);cases (show y=.str j from i3 l K n λP=>⟨λz=>(by cases z),λz=>(by cases z)⟩);exact⟨λk=>Ak g s J H _ _ v u Q I p w ⟨_,_,rfl,rfl,k⟩,λk=>tG g s J H _ _ v u Q I p w ⟨_,_,rfl,rfl,k⟩⟩
    |_=>cases q
   |_=>cases q
end
section
variable{X:Cx}
theorem Mm(n:X.A.units+64 < cLine):iC X (compareOp .In) (rE X.K bb):=by
 intro g s J H x y v u Q I c t h;obtain⟨F,m,S,d,e,r,l,p,f,q,k⟩:=h;unfold bb at q;cases a:qZ e S with
 |some i=>rw[a]at q;exact Ml n g s J H x y v u Q I c t ⟨F,m,S,d,e,r,l,p,f,q,k⟩
 |none=>rw[a]at q;obtain⟨b,w,rfl⟩:=fK.mp (show(M5 d e S).map P.bl=some r from q);exact(C5 n I c t l p f w).1 (k _ F H .refl rfl)
theorem Ck(n:X.A.units+64 < cLine):iC X (compareOp .NotIn) (rE X.K mW):=by intro g s J H x y v u Q I c t h;obtain⟨F,m,S,d,e,r,l,p,f,q,k⟩:=h;unfold mW at q;obtain⟨b,a,rfl⟩:=fK.mp q;exact(C5 n I c t l p f a).2 (k _ F H .refl rfl)
end
section
variable{X:Cx}{j:Pos}{a b c:Expr}{n:EB}{h i:EE}{r q:EV}
@[simp] def Of(c:EB)(a b:EE)(L:Lc)(S:aP):EL:=bA (c L S) λt h=>if t=true then a L h else b L h
theorem OZ(A:PT X c (tQ X.K n))(K:PE X a (tE X.K h))(P:PE X b (tE X.K i)):PE X (.IfExp c a b j) (tE X.K (Of n h i)):=
 (uO A K P).imp' λJ H Q B=>by
  obtain⟨F,m,L,S,d,g,r,l,q,k⟩:=B;obtain⟨c,f,o,q⟩:=aj q;refine⟨F,m,L,S,c,f,r,l,o,λu y C s z=>?_⟩;cases c with
  |true=>rw[ac rfl]at q ⊢;exact⟨u,y,L,f,d,g,z,l.mono s,q,λv x t e w p=>k v x t e (s.trans w) p⟩
  |false=>rw[ae aX]at q ⊢;exact⟨u,y,L,f,d,g,z,l.mono s,q,λv x t e w p=>k v x t e (s.trans w) p⟩
end
end Ev



set_option tactic.hygienic false
namespace Ev
open PySem PySem.Spec PyProof.Rows L2
section
variable{X:Cx}{g:PN}{J:L2.St}{H:Hp}{s:Shared}{k:List Addr}{f:Heap}
theorem C3(I:Inv X g J H s)(t:∀b ∈ k,mE X g H b)(p:∀b o,b ∉ k->s.heap.get? b=some o->f.get? b=some o)
  (w:f.get? s.heap.objs.size=some { cls:=.type "tuple",data:=.seq #[u,v] }) (C:RelV x u) (D:RelV y v):Inv X g J (cJ H s.heap.objs.size (.tup [x,y])) { s with heap:=f }:=by
 have h:H s.heap.objs.size=none:=I.h.fresh (aq _);have d:∀{b:Addr}{o:HO},H b=some o->b ∉ k:=λ{b o} q z=>by rw[(t b z).1]at q;cases q
 refine I.step (g':=s.gens) (d':=s.drawn) (t':=s.toks) (ch:=k) (λb e=>?_) (λb o _ _ a q _=>p b o a q) (λb o _ _ a q _=>⟨o.slots,p b o a q⟩) (λb o _ q n=>?_) (λb o a q=>⟨o,p b o a q⟩)
  (λb i q=>?_) (λb o i q=>?_) (λb q=>?_) (λm P=>?_) (λb E q=>?_) I.bare
 .obtain⟨_,l,_,S,F,K⟩:=t b e;exact⟨S,l,F,K⟩
 .rw [aN (bg (az q))];exact n
 .rw [aN (bZ q h)];exact q
 .rw [aN (bZ q h)];exact q
 .rw [aN (bZ q h)];exact q
 .obtain⟨o,A,j,B,r⟩:=P;exact⟨o,A,j,p _ o (λz=>(t _ z).2.1 rfl) B,r⟩
 .by_cases e:b=s.heap.objs.size
  .subst e;rw[ba]at q;cases q;exact⟨by show 2≤sizeLine;decide,[u,v],.cons C (.cons D .nil),⟨_,w,⟨rfl,_,rfl⟩,rfl⟩⟩
  .rw [aN e]at q;refine(I.h b E q).stay (λc v a z=>p c v ?_ z) (λc z=>by rw[aN (bZ z h)];exact z) λc i z=>by rw[aN (bZ z h)];exact z
   rcases a with rfl|a
   .exact d q
   .exact d a
theorem Jy(I:Inv X g J H s)(x:∀b ∈ k,mE X g H b)(p:∀b o,b ∉ k->s.heap.get? b=some o->f.get? b=some o):Inv X g J H { s with heap:=f }:=by
 have e:∀{b:Addr}{o:HO},H b=some o->b ∉ k:=λ{b o} q z=>by rw[(x b z).1]at q;cases q
 refine I.step (g':=s.gens) (d':=s.drawn) (t':=s.toks) (ch:=k) (λb i=>?_) (λb o _ _ h q _=>p b o h q) (λb o _ _ h q _=>⟨o.slots,p b o h q⟩) (λ_ _ _ _ n=>n) (λb o h q=>⟨o,p b o h q⟩)
  (λ_ _ q=>q) (λ_ _ _ q=>q) (λ_ q=>q) (λm j=>?_) (λb y q=>?_) I.bare
 .obtain⟨_,t,_,d,w,u⟩:=x b i;exact⟨d,t,w,u⟩
 .obtain⟨o,A,a,l,r⟩:=j;exact⟨o,A,a,p _ o (λz=>(x _ z).2.1 rfl) l,r⟩
 .refine (I.h b y q).stay (λc v h z=>p c v ?_ z) (λc z=>z) λc S z=>z;rcases h with rfl|h
  .exact e q
  .exact e h
def AV(t:Bool)(K:FG)(H:Hp)(a:Addr)(x:List V):Prop:=if t=true then rA K H a x else jA K H a x
theorem wP(I:Inv X g J H s)(h:AV z X.K H a B):∃i:LV,a8 B i/\AJ z s.heap a i.toArray:=by
 cases z
 .obtain⟨i,r,p,_⟩:=I.list h;exact⟨i,r,p.isList⟩
 .obtain⟨i,r,⟨o,e,c,n⟩,_⟩:=I.tuple h;exact⟨i,r,o,e,c,n⟩
theorem EZ(p:AJ B z a E)(q:AJ B z a G):E=G:=by cases B<;>(obtain⟨o,e,c,n,d⟩:=p;obtain⟨f,x,s,k,h⟩:=q;rw[e]at x;cases x;rw[d]at h;cases h;rfl)
theorem uJ(I:Inv X g J H s)(p:AV z X.K H a o)(q:AV z X.K H a B):o=B:=by
 obtain⟨i,r,k⟩:=wP I p;obtain⟨x,n,f⟩:=wP I q;have e:=EZ k f;have h:i=x:=by simpa using cc sH e
 subst h;exact a8.inj r n
end
def Kj(K:FG)(t e:Bool)(a b:Addr):It:=
 ⟨λi H=>∃s h x y,AV t K H a s/\AV e K H b h/\s[i]? = some x/\h[i]? = some y,λi H x n=>∃p u v,x=.ref p/\H p=none/\n=cJ H p (.tup [u,v])/\(∀s,AV t K H a s->s[i]? = some u)/\∀h,AV e K H b h->h[i]? = some v,λi H=>∃s,AV t K H a s/\s.length≤i⟩
theorem Bx{P:Program}{w:World}{K:FG}{A:Ab}{n:Nat}{j:Pos}(tq tp:Bool){a b z TI TO t d:Addr}(nd:[z,TI,TO,t,d].Nodup)(na:a ∉ [z,TI,TO,t,d])(nb:b ∉ [z,TI,TO,t,d]) :
  Turn P w K (.Tuple A n j) (Kj K tq tp a b) [z,TI,TO,t,d] z (λi h=>j_ h z TI TO .none (.bool false)/\cG h TI (.ref t) (.ref d)/\(∃p q,cG h TO p q)/\p' tq h t a i/\p' tp h d b i) where
 mem:=by simp
 obj:=λi h st c m=>by
  obtain⟨r,l,⟨p,q,C⟩,S,B⟩:=st;obtain⟨o1,Q,⟨vs1,d1⟩,_⟩:=S.obj;obtain⟨o2,D,⟨vs,d2⟩,_⟩:=B.obj;simp only[aU,ci,ce]at m;rcases m with rfl|rfl|rfl|rfl|rfl
  .exact⟨_,r,λv x=>by have L:Data.fields _=Data.cell v:=x;cases L⟩
  .exact⟨_,l,λv x=>by have L:Data.seq _ _=Data.cell v:=x;cases L⟩
  .exact⟨_,C,λv x=>by have L:Data.seq _ _=Data.cell v:=x;cases L⟩
  .exact⟨o1,Q,λv x=>by rw[d1]at x;cases x⟩
  .exact⟨o2,D,λv x=>by rw[d2]at x;cases x⟩
 keep:=λi h f st k=>by obtain⟨r,l,⟨p,q,C⟩,S,B⟩:=st;obtain⟨o2,D,_,r2⟩:=B.obj;exact⟨k z (by simp) _ r,k TI (by simp) _ l,⟨p,q,k TO (by simp) _ C⟩,p'.at S λo e=>k t (by simp) o e,r2 _ (k d (by simp) _ D)⟩
 item:=by
  intro X W hw V m i g s J H E I M st hg;subst W hw V;obtain⟨xs,ys,x,y,N,G,hx,hy⟩:=hg;obtain⟨its,rv,s1⟩:=wP I N;obtain⟨u,hu,ru⟩:=rv.get hx;obtain⟨its2,rv2,s2⟩:=wP I G;obtain⟨v,hv,rv'⟩:=rv2.get hy;obtain⟨r,l,⟨p,q,C⟩,S,B⟩:=st;have lt:∀c ∈ [z,TI,TO,t,d],c < s.heap.objs.size:=λc m=>by
   obtain⟨o1,Q,_⟩:=S.obj;obtain⟨o2,D,_⟩:=B.obj;simp only[aU,ci,ce]at m;rcases m with rfl|rfl|rfl|rfl|rfl
   .exact az r
   .exact az l
   .exact az C
   .exact az Q
   .exact az D
  simp only[d4,aU,ci,ce,not_or]at nd na nb;refine Bg ⟨_,r,rfl⟩ (z4 r l C S B s1 s2 (by simpa using hu) (by simpa using hv) (by grind) (by grind) (by grind) (by grind) (by grind) (by grind) (by grind) (by grind) (by grind) (by grind) λf T q1 q2 q3 q4 q5 q6 q7=>?_);subst q6;refine⟨_,rfl,wpAny_letOwnedTupleGo_zip (s:={ s with heap:=f }) q1 λR z2 F=>?_⟩;replace F:dC z f R:=F;have kp:∀c o,c ∉ [z,TI,TO,t,d]->s.heap.get? c=some o->R.get? c=some o:=λc o m e=>by simp only[aU,ci,ce,not_or]at m;exact F.extBut _ _ m.1 (q7 c o m.1 m.2.2.2.1 m.2.2.2.2 m.2.2.1 e)
  have zlt:=lt z (by simp);have Z:H s.heap.objs.size=none:=I.h.fresh (aq _);have I2:Inv X g J (cJ H s.heap.objs.size (.tup [x,y])) { s with heap:=R }:=C3 I M kp (F.extBut _ _ (fO zlt) q5) ru rv';refine⟨.ref s.heap.objs.size,_,I2,rfl,⟨_,x,y,rfl,Z,rfl,λxs' h=>by rw[uJ I h N];exact hx,λys' h=>by rw[uJ I h G];exact hy⟩,⟨z2,F.extBut _ _ (by grind) (q7 _ _ (by grind) (by grind) (by grind) (by grind) l),⟨u,v,F.extBut _ _ (by grind) q4⟩,q2.extBut F.extBut (by grind),q3.extBut F.extBut (by grind)⟩,λc m=>?_⟩;rw[aN (bg (lt c m))];exact(M c m).1
 done:=by intro X W hw V m i g s J H E I M st hg;subst W hw V;obtain⟨xs,N,hx⟩:=hg;obtain⟨its,rv,s1⟩:=wP I N;obtain⟨r,l,⟨p,q,C⟩,S,B⟩:=st;have hl:=rv.length;simp only[d4,aU,ci,ce,not_or]at nd na;refine Bg ⟨_,r,rfl⟩ (Bj (show X.A.in1.handled=none from I.o.hd m) r l S s1 (by simp;lia) (by grind) (by grind) λf e kp hz=>?_);obtain⟨o,eo,co⟩:=hz;refine⟨e,o,rfl,eo,co,rfl,Jy I M λc ob m ec=>kp c ob (λx=>m (by simp[x])) (λx=>m (by simp[x])) ec⟩
 self:=λ_ _ _ _ _ st h=>yN st.1 h
theorem AG(q t:Bool)(l:AJ q s.heap I N)(x:AJ t s.heap L ys)
  (h:∀f i a TI TO z,(∀b o,s.heap.get? b=some o->f.get? b=some o)->s.heap.objs.size≤i->i < a->a < TI->TI < TO->TO < z->p' q f i I 0->p' t f a L 0->cG f TI (.ref i) (.ref a)->cG f TO .none .none ->
   j_ f z TI TO .none (.bool false)->Q (.ref z) { s with heap:=f }):wpAny (model M B) G (call (.type "zip") [.ref I,.ref L]) Q E s:=by
 cases q
 .cases t
  .refine call_zip_2 l x λf c T e n k _ hk=>?_;exact h f s.heap.objs.size (s.heap.objs.size+1) (s.heap.objs.size+2) (s.heap.objs.size+3) (s.heap.objs.size+4) hk (aq _) (d0 _) (d0 _) (d0 _) (d0 _) n k T e c
  .exact vK l x h
 .cases t
  .exact vJ l x h
  .exact vI l x h
noncomputable def sM(x y:List P):List P:=(x.zip y).map λz=>.tup [z.1,z.2]
@[simp] def Qa(a b:EV)(L:Lc)(S:aP):EJ:=bA (a L S) λv e=>bA (b L e) λw h=>match v,w with
 | .lst x,.lst y=>if x.length≤y.length then some (sM x y,h) else none
 | .lst x,.tup y=>if x.length≤y.length then some (sM x y,h) else none
 | .tup x,.lst y=>if x.length≤y.length then some (sM x y,h) else none
 | .tup x,.tup y=>if x.length≤y.length then some (sM x y,h) else none
 |_,_=>none
theorem tT{K:FG}{F:Aa}{m:List Addr}{H:Hp}{B A:Bool}{a b:Addr}{d w:List P}{n f:List V}(L:d.length≤w.length)(M:∀k t h,Stp F m H k t h->AV B K h a n/\AV A K h b f)(r:cz K F H d n)(R:cz K F H w f):Hy K (Kj K B A a b) (sM d w) F m H:=by intro k t h st;obtain⟨c,s⟩:=M k t h st;have N:=r.length;refine⟨λi v e=>?_,⟨n,c,by unfold sM;rw[d3,yi,Nat.min_eq_left L,N];exact aq _⟩⟩;unfold sM at e;rw[lP]at e;obtain⟨⟨W,X⟩,C,rfl⟩:=fK.mp e;obtain⟨D,E⟩:=List.getElem?_zip_eq_some.mp C;obtain⟨x,l,p⟩:=r.get D;obtain⟨y,o,Q⟩:=R.get E;refine⟨⟨n,f,x,y,c,s,l,o⟩,λz T q=>?_⟩;obtain⟨Z,u,v,rfl,S,rfl,G,I⟩:=q;have g:=G n c;have j:=I f s;rw[l]at g;rw[o]at j;cases g;cases j;exact⟨k,cu S,RP.newTup S ⟨_,_,rfl,RP.mono st p,_,_,rfl,RP.mono st Q,rfl⟩⟩
set_option tactic.hygienic true in
theorem iZ{X:Cx}{j:Pos}{A:Ab}{n:Nat}{a b:Expr}{h i:EV}{p cpos:Pos}(gz:Gl X "zip")(mz:X.g "zip"=none)(ha:PE X a (tV X.K h))(hb:PE X b (tV X.K i))(hs:starEach [a,b] X.e=[(false,eval a X.e),(false,eval b X.e)])(hs2:starEach [b] X.e=[(false,eval b X.e)]) :
  PI X (.Tuple A n j) (.Call (.Name "zip" p) [a,b] [] cpos) (tI X.K (Qa h i)):=by
 intro g s J H R I ⟨F,m,L,S,vs,S',r,l,q,k⟩;obtain⟨x,S1,e1,q⟩:=aj q;obtain⟨y,S2,e2,q⟩:=aj q;refine mI (mU I gz mz Eu ?_ (by decide) (by decide));refine n7 ?_ (by rw [hs,hs2]) (by rw [hs2];rfl);rw [hs];refine eC (bF (ha g s J H (fun v G=>∃E Q,Stp F m H E Q G/\Rel X.K E G Q S1/\RP X.K E G x v) I ⟨F,m,L,S,x,S1,r,l,e1,fun v E Q G s1 r1 p1=>⟨E,Q,s1,r1,p1⟩⟩) fun u s1 ⟨v,G,I1,ru,E,Q,w,r1,p1⟩=>
  eC (bF (hb g s1 J G (λv d=>∃P D,Stp E Q G P D d/\Rel X.K P d D S2/\RP X.K P d y v) I1 ⟨E,Q,L,S1,y,S2,r1,l.mono w,e2,λv P D d Z r2 p2=>⟨P,D,Z,r2,p2⟩⟩) λu2 Z ⟨v2,d,I2,ru2,P,D,t,r2,p2⟩=>ki ?_))
 have go:∀(tq tp:Bool){B C:Addr}{xs ys:List V},v=.ref B->v2=.ref C->AV tq X.K d B xs->AV tp X.K d C ys->R (Kj X.K tq tp B C) d->wpAny (model X.p X.w) X.A (call (.type "zip") [u,u2]) (λv s1=>wpAny (model X.p X.w) X.A (pyIter v) (KH X g J (.Tuple A n j) R) X.xe s1) X.xe Z:=λtq tp {B C xs ys} ea eb hq hq2 qR=>by
  subst ea eb;cases ru;cases ru2;obtain⟨its,_,sp⟩:=wP I2 hq;obtain⟨its2,_,sq⟩:=wP I2 hq2;have la:B < Z.heap.objs.size:=by cases tq<;>(obtain⟨_,e,_⟩:=sp;exact az e)
  have lb:C < Z.heap.objs.size:=by cases tp<;>(obtain⟨_,e,_⟩:=sq;exact az e)
  refine AG tq tp sp sq λf i1 i2 TI TO z kp n0 n1 n2 n3 n4 hi1 hi2 hTI hTO hz=>yN hz ?_;refine⟨z,[z,TI,TO,i1,i2],_,_,d,rfl,I2.kept (t':=Z.toks) kp,Bx tq tp (a:=B) (b:=C) (by simp;grind) (by simp;grind) (by simp;grind),⟨hz,hTI,⟨_,_,hTO⟩,hi1,hi2⟩,λc hc=>?_,qR⟩;have hcl:Z.heap.objs.size≤c:=by simp only[aU,ci,ce]at hc;grind
  exact I2.fpOk hcl (I2.h.fresh hcl)
 cases x with
 |lst ds=>
  cases y with
  |lst M=>
   dsimp only at q;split at q
   .rename_i N;cases q;obtain⟨B,xs,rfl,o,T⟩:=RP.mono t p1;obtain⟨C,ys,rfl,K,W⟩:=p2;exact go false false rfl rfl o.sq K.sq (k _ P D d (w.trans t) r2 (tT (B:=false) (A:=false) N (λF3 m3 H3 s=>⟨(o.kp s.kp).sq,(K.kp s.kp).sq⟩) T W))
   .cases q
  |tup M=>
   dsimp only at q;split at q
   .rename_i N;cases q;obtain⟨B,xs,rfl,o,T⟩:=RP.mono t p1;obtain⟨C,ys,rfl,K,W⟩:=p2;exact go false true rfl rfl o.sq K.sq (k _ P D d (w.trans t) r2 (tT (B:=false) (A:=true) N (λF3 m3 H3 s=>⟨(o.kp s.kp).sq,(K.kp s.kp).sq⟩) T W))
   .cases q
  |_=>cases q
 |tup ds=>
  cases y with
  |lst M=>
   dsimp only at q;split at q
   .rename_i N;cases q;obtain⟨B,xs,rfl,o,T⟩:=RP.mono t p1;obtain⟨C,ys,rfl,K,W⟩:=p2;exact go true false rfl rfl o.sq K.sq (k _ P D d (w.trans t) r2 (tT (B:=true) (A:=false) N (λF3 m3 H3 s=>⟨(o.kp s.kp).sq,(K.kp s.kp).sq⟩) T W))
   .cases q
  |tup M=>
   dsimp only at q;split at q
   .rename_i N;cases q;obtain⟨B,xs,rfl,o,T⟩:=RP.mono t p1;obtain⟨C,ys,rfl,K,W⟩:=p2;exact go true true rfl rfl o.sq K.sq (k _ P D d (w.trans t) r2 (tT (B:=true) (A:=true) N (λF3 m3 H3 s=>⟨(o.kp s.kp).sq,(K.kp s.kp).sq⟩) T W))
   .cases q
  |_=>cases q
 |_=>cases q
end Ev



set_option tactic.hygienic true
namespace Ev
open PySem PySem.Spec PyProof.Rows L2
noncomputable def DT:P->Option String
 | .non=>some "NoneType"
 | .bl _=>some "bool"
 | .int _=>some "int"
 | .str _=>some "str"
 | .tup _=>some "tuple"
 | .lst _=>some "list"
 | .ro _=>some "list"
 | .dct _ _=>none
def AM(d:D)(S:aP):Option String:=match d with
 | .p v=>DT v
 | .ref i=>match S[i]? with
  |some (.lst _)=>some "list"
  |some (.fz v)=>DT v
  |_=>none
noncomputable def tW(t T:String):Bool:=t == T ||(t == "bool" && T == "int")
noncomputable def qO:List String:=["NoneType","bool","int","str","tuple","list"]
noncomputable def u_:List String:=["bool","int","str","tuple","list"]
theorem MX{K:FG}{t T:String}(x:t ∈ qO)(h:T ∈ u_):PySem.W.kitOne K (.type t) (.type T)=some (tW t T):=by simp only[qO,u_,aU,ci,ce]at x h;rcases x with rfl|rfl|rfl|rfl|rfl|rfl<;>rcases h with rfl|rfl|rfl|rfl|rfl<;>rfl
section
variable{X:Cx}{g:PN}{J:L2.St}{H:Hp}{s:Shared}{F:Aa}{m:List Addr}{S:aP}{d:D}{x:V}{u:Value}{t:String}
theorem Bv(h:DT v=some t):t ∈ qO:=by cases v<;>cases h<;>simp[qO]
theorem HM(h:AM d S=some t):t ∈ qO:=by
 cases d with
 |p v=>exact Bv h
 |ref i=>
  unfold AM at h;dsimp only at h;split at h
  .cases h;simp[qO]
  .exact Bv h
  .cases h
theorem MY(I:Inv X g J H s)(p:RP X.K F H v x)(r:RelV x u)(h:DT v=some t):∃f,A_ X.K u (.type t) f/\f s.heap/\u≠.builtin "__main__.__loader__#opaque":=by
 cases v with
 |non=>cases h;cases (show x=.non from p);cases (show u=Value.none from r);exact⟨_,PySem.W.kitx_none,True.intro,λz=>nomatch z⟩
 |bl b=>cases h;cases (show x=.bl b from p);cases (show u=Value.bool b from r);exact⟨_,PySem.W.kitx_bool,True.intro,λz=>nomatch z⟩
 |int i=>cases h;cases (show x=.int i from p);obtain⟨q,rfl⟩:=r;exact⟨_,PySem.W.kitx_int,True.intro,λz=>nomatch z⟩
 |str y=>cases h;cases (show x=.str y from p);obtain⟨q,rfl⟩:=r;exact⟨_,PySem.W.kitx_str,True.intro,λz=>nomatch z⟩
 |tup d=>cases h;obtain⟨a,m,rfl,k,_⟩:=p;cases r;obtain⟨n,_,⟨o,e,c,_⟩,_⟩:=I.tuple k.sq;exact⟨_,PySem.W.kitx_tuple,⟨o,e,c⟩,λz=>nomatch z⟩
 |lst d=>cases h;obtain⟨a,m,rfl,k,_⟩:=p;cases r;obtain⟨n,_,l,_⟩:=I.list k.sq;obtain⟨o,e,c,_⟩:=l.isList;exact⟨_,ww,⟨o,e,c⟩,λz=>nomatch z⟩
 |ro d=>cases h;obtain⟨a,m,rfl,k,_⟩:=p;cases r;obtain⟨n,_,l,_⟩:=I.list k.sq;obtain⟨o,e,c,_⟩:=l.isList;exact⟨_,ww,⟨o,e,c⟩,λz=>nomatch z⟩
 |dct w j=>cases h
theorem P9(I:Inv X g J H s)(l:Rel X.K F H m S)(p:RD X.K F H m d x)(r:RelV x u)(h:AM d S=some t):∃e,A_ X.K u (.type t) e/\e s.heap/\u≠.builtin "__main__.__loader__#opaque":=by
 cases d with
 |p v=>exact MY I p r h
 |ref i=>
  obtain⟨a,rfl,n⟩:=p;unfold AM at h;dsimp only at h;split at h
  .rename_i w A;cases h;obtain⟨y,k,_⟩:=l.obj i a _ n A;cases r;obtain⟨b,_,q,_⟩:=I.list (jA.of k);obtain⟨o,f,c,_⟩:=q.isList;exact⟨_,ww,⟨o,f,c⟩,λz=>nomatch z⟩
  .rename_i v A;exact MY I (l.obj i a _ n A) r h
  .cases h
end
section
variable{X:Cx}{a:Expr}{h:EE}{p j:Pos}
theorem AI(n:T ∈ u_):ez X (.builtin "isinstance") (λa H Q=>∃F m S d t x,a=[x,.ty T]/\Rel X.K F H m S/\RD X.K F H m d x/\AM d S=some t/\Q (.bl (tW t T)) H):=by intro g s J H a v Q I r ⟨F,m,S,d,t,x,e,l,pd,h,q⟩;subst e;obtain⟨u,b,rfl,f,w⟩:=vals2 r;cases (show b=Value.type T from w);obtain⟨c,Z,z,k⟩:=P9 I l pd f h;exact PySem.W.kia_one Z I.kIn z (MX (HM h) n) k λp=>⟨.bl _,H,I.tok _,rfl,q⟩
@[simp] def DS(T:List String)(f:EE)(L:Lc)(S:aP):tyV:=bA (f L S) λd h=>(AM d h).map λt=>(.bl (T.any (tW t)),h)
theorem OX(y:T ∈ u_)(B:Gl X "isinstance")(C:X.g "isinstance"=none)(g:Gl X z)(e:X.g z=none)(P:bootBuiltins z=some (.type T))(K:PE X a (tE X.K h))
  (D:z≠"__name__") (A:(z == ("__debug__":Str))=false) (f:starEach [a,.Name z o] X.e=[(false,eval a X.e),(false,eval (.Name z o) X.e)]):PE X (.Call (.Name "isinstance" p) [a,.Name z o] [] j) (tV X.K (DS [T] h)):=
 (pA (AI y) B C Er (eJ K (eJ (Fy (v:=.ty T) g e P rfl D A) i4 rfl) (by rw[f];rfl)) (by decide) (by decide) (by rw[f];rfl) rfl).imp' λJ H Q E=>by obtain⟨F,m,L,S,d,I,r,l,q,k⟩:=E;obtain⟨x,M,u,q⟩:=aj q;obtain⟨t,i,q⟩:=fK.mp q;cases q;exact⟨F,m,L,S,_,_,r,l,u,λv n b w s c G=>⟨n,b,_,x,t,v,rfl,c,G,i,k _ n b w s c (by simp;rfl)⟩⟩
end
end Ev



namespace Ev
open PySem PySem.Spec PyProof.Rows L2
section
variable{X:Cx}{a b c e:Expr}{A:Ab}{h i w:EV}{l:kB}{j p:Pos}
abbrev JP:=Dp (λ_ j=>decide (0≤j)) λi j=>.int (i / 2 ^ j.toNat)
theorem Mf:m9 X (binaryOp .RShift) JP:=tH IM (λ_ _ h=>aG h) λ_ _ _ _ _=>rfl
def jn(i:Nat)(v:EV):ES:=λL S=>match L[i]? with
 |some (some (.p (.str a)))=>bA (v L S) λy h=>match y with
  | .str b=>if eO (a.length+b.length)=true then some (.nx,L.set i (some (.p (.str (a++b)))),h) else none
  |_=>none
 |_=>none
theorem w_:Ow X .Add (λx y H Q=>∃i j,x=.str i/\y=.str j/\i.length+j.length≤sizeLine/\Q (.str (i++j)) H):=by intro g s J H x y v u Q I r a ⟨i,j,e,h,z,q⟩;subst e;subst h;obtain⟨t,rfl⟩:=r;obtain⟨n,rfl⟩:=a;exact PySem.SB.iadd (λn k=>⟨.str _,H,I.tok _,⟨_,rfl⟩,q⟩) z
theorem KS(i:Nat)(N:X.N.Nodup)(h:PE X e (tV X.K z))(g:X.N[i]? = some x)(K:L2.Loc X.e.scope x)(u:X.fn x=true\/X.e.scope.names.lookup x=some .local):PS X (.AugAssign (.Name x o) .Add e j) (f_ X.K (jn i z)):=
 (wU N g K h w_ u).imp' λD J H P=>by
  obtain⟨F,m,L,S,Q,G,I,r,l,q,k⟩:=P;unfold jn at q;split at q
  .rename_i a d;obtain⟨y,M,t,q⟩:=aj q;cases y with
   |str b=>
    dsimp only at q;split at q
    .rename_i w;cases q;obtain⟨E,p,B⟩:=l.at' i _ d;cases (show E=.str a from B);refine⟨_,p,F,m,L,S,_,_,r,l,t,λv s f n c C A=>?_⟩;cases (show v=.str b from A);exact⟨a,b,rfl,rfl,dF w,k _ s f n c C ((l.mono c).set (show RD X.K s n f (.p (.str (a++b))) (.str (a++b)) from rfl) i)⟩
    .cases q
   |_=>cases q
  .cases q
def qz(v:List (Str×P))(a b:EV):EV:=λL S=>bA (a L S) λy h=>bA (b L h) λz x=>match y with
 | .str k=>some ((v.lookup k).getD z,x)
 |_=>none
theorem HE(hg:Gl X x)(ht:DQ X.w X.K X.g x B)(hd:(x == ("__debug__":Str))=false)(ha:PE X a (tV X.K h))(hb:PE X b (tV X.K i))(m:M2 X (.Name x px) "get" ap a b cp):PE X (.Call (.Attribute (.Name x px) "get" ap) [a,b] [] cp) (tV X.K (qz B h i)):=by
 obtain⟨j,o,A,ep,hz,hm,hk,Z,ed,ge,nd⟩:=ht;obtain⟨vs,h1,h2,h3,h4⟩:=lj (j:=X.p) ge;intro g s J H Q I ⟨F,m',L,S,d,S',r,l,q,k⟩;obtain⟨y,V,e1,q⟩:=aj q;obtain⟨z,S2,W,q⟩:=aj q;refine yR m.base m.few m.line xF lE xD (bF (tD (v:=.ref j) (u:=.ref j) hg hm rfl hd g s J H (fun v M=>v=.ref j/\M=H) I ⟨rfl,rfl⟩) fun u s1 hz=>?_);obtain⟨w,M,I1,rw',ew,eH⟩:=hz;subst ew eH;obtain rfl:u=Value.ref j:=rw';have hh:=I1.kIn j o hk;refine⟨⟨o,hh,Z.1⟩,fun b e=>⟨o,by cases e;exact hh,Z.2.1⟩,?_⟩;rw [m.trees];refine lJ rfl (n_ (eC (bF (ha g s1 J M (fun v K=>∃f P,Stp F m' M f P K/\Rel X.K f K P V/\RP X.K f K y v) I1 ⟨F,m',L,S,y,V,r,l,e1,fun v f P K s2 r2 p2=>⟨f,P,s2,r2,p2⟩⟩) fun iv s2 ⟨v2,K,I2,ry,f,P,G,r2,p2⟩=>
  eC (bF (hb g s2 J K (λv n=>∃c C,Stp f P K c C n/\Rel X.K c n C S2/\RP X.K c n z v) I2 ⟨f,P,L,V,z,S2,r2,l.mono G,W,λv c C n s3 R p3=>⟨c,C,s3,R,p3⟩⟩) λfv s3 ⟨v3,n,T,rz,c,C,st3,R,p3⟩=>ki ?_))))
 cases y with
 |str D=>
  cases q;cases (show v2=.str D from p2);obtain⟨t,rfl⟩:=ry;have hh3:=T.kIn j o hk;have dd:s3.heap.DictOf (bv X.p X.w) j vs:=by refine⟨o,A,ep,hh3,Z,ed,λe he=>h4 e (by simpa using he),h1,?_⟩;rw[h2,show(B.map λp=>(Sum.inr p.1:d8))=(B.map (·.1)).map Sum.inr by rw[oi];rfl];exact mR nd
  refine vZ lE dd.typeIs rN (rR _ _ _) (A3 (bv X.p X.w) j (hR X.p X.w D t) hz fv) ⟨_,dd.mapOf,?_⟩;have ss:=G.trans st3;cases N:B.lookup D with
  |none=>
   have hn:valueAt vs (Sum.inr D)=none:=by
    unfold valueAt;rw[Option.map_eq_none_iff,List.find?_eq_none];intro p hp e;have e:=aG e;have E:p.1 ∈ vs.map (·.1):=List.mem_map_of_mem hp;rw[h2]at E;obtain⟨q2,hq,e'⟩:=fP.mp E;have W:q2.1=D:=Sum.inr.inj (e'.trans e);have:=List.lookup_eq_none_iff.mp N q2 hq
    rw[W]at this;simp at this
   rw[hn];rw[N]at k;exact⟨v3,n,T.tok _,rz,k v3 c C n ss R p3⟩
  |some p=>obtain⟨v,u,e3,rv,pv⟩:=h3 D p N;rw[e3];rw[N]at k;exact⟨v,n,T.tok _,rv,k v c C n ss R (pv _ _ _)⟩
 |_=>cases q
noncomputable def GQ:List P->Option (LS)
 | []=>some []
 | .str x::r=>(GQ r).map (x::·)
 |_=>none
noncomputable abbrev GG(s:Str)(t:LS):Bool:=wa s t
def sP(a b:EV):EV:=λL S=>bA (a L S) λx h=>bA (b L h) λy e=>match x with
 | .str s=>match y with
  | .lst d=>(GQ d).bind λt=>if GG s t=true then some (.str (Txt.join s t),e) else none
  |_=>none
 |_=>none
theorem Bw{K:FG}{F:Aa}{H:Hp}:∀{h:List P}{t:LS}{s:List V},GQ h=some t->cz K F H h s->s=t.map V.str
 | [],t,s,q,r=>by cases q;cases (show s=[] from r);rfl
 |d::h,t,s,q,r=>by
  obtain⟨x,k,rfl,e,n⟩:=r;cases d with
  |str z=>obtain⟨l,a,rfl⟩:=fK.mp q;cases (show x=.str z from e);rw[Bw a n];rfl
  |_=>cases q
theorem uC:∀{s:LS}{u:LV},a8 (s.map V.str) u->∃l:List (Str×Tok),u=strValues l/\l.map (·.1)=s
 | [],u,r=>by cases r;exact⟨[],rfl,rfl⟩
 |t::s,u,r=>by
  cases r with
  |cons h r=>obtain⟨l,rfl,e⟩:=uC r;obtain⟨k,rfl⟩:=h;exact⟨(t,k)::l,rfl,by rw[<- e];rfl⟩
theorem FO:Ox X "str.join" (λx f H Q=>∃e a n,x=.str e/\f=[.ref a]/\jA X.K H a (n.map V.str)/\GG e n=true/\Q (.str (Txt.join e n)) H):=by
 intro g s J H x f v o Q I w u ⟨e,a,n,b,c,d,j,q⟩;subst b c;obtain⟨t,rfl⟩:=w;cases u with
 |cons h r=>cases r;cases h;obtain⟨i,y,p,_⟩:=I.list d;obtain⟨l,rfl,m⟩:=uC y;exact SC.join p.isList m j λz k=>⟨.str _,H,I.tok _,⟨_,rfl⟩,q⟩
theorem EA{o e:Expr}{w b:EV}{p c:Pos}(E:PE X o (tV X.K w))(D:PE X e (tV X.K b))(n:starEach [e] X.e=[(false,eval e X.e)])(h:attributeBase o "join" X.e (eval o X.e)=eval o X.e)(i:(p.endLine == c.line)=true):PE X (.Call (.Attribute o "join" p) [e] [] c) (tV X.K (sP w b)):=
 (Ce rO PySem.F.slot_str_join PySem.F.type_str_join FO E (eJ D i4 (by rw[n];rfl)) h (by rw[n];rfl) i (by rw[n];rfl) rfl).imp' λJ H Q G=>by
  obtain⟨F,m,L,S,d,S',r,l,q,k⟩:=G;obtain⟨x,f,A,q⟩:=aj q;obtain⟨y,S2,B,q⟩:=aj q;refine⟨F,m,L,S,x,f,r,l,A,λv j I H1 g T N=>?_⟩;cases x with
  |str s=>
   cases y with
   |lst P=>
    cases (show v=.str s from N);refine⟨rfl,j,I,L,f,_,_,T,l.mono g,B,λu z M K Z V R=>?_⟩;obtain⟨a,xs,rfl,ta,W⟩:=R;cases t:GQ P with
    |none=>simp only[t]at q;cases q
    |some ts=>
     simp only[t,lG]at q;split at q
     .rename_i C;cases q;have:=Bw t W
      subst this;exact⟨s,a,ts,rfl,rfl,ta.sq,C,k _ z M K (g.trans Z) V rfl⟩
     .cases q
   |_=>cases q
  |_=>cases q
def yX(a b:EV):EV:=λL S=>bA (a L S) λx h=>bA (b L h) λy e=>match x with
 | .str z=>match y with
  | .str w=>if (eO z.length && !(w.length == 0))=true then some (.tup [.str (Txt.partition z w).1,.str (Txt.partition z w).2.1,.str (Txt.partition z w).2.2],e) else none
  |_=>none
 |_=>none
theorem FN:Ox X "str.partition" (λx d H Q=>∃z w,x=.str z/\d=[.str w]/\z.length≤sizeLine/\(w.length == 0)=false/\∀p,H p=none->Q (.ref p) (cJ H p (.tup [.str (Txt.partition z w).1,.str (Txt.partition z w).2.1,.str (Txt.partition z w).2.2]))):=by
 intro g s J H x d v A Q I S F ⟨z,w,u,j,y,l,q⟩;subst u j;obtain⟨t,rfl⟩:=S;cases F with
 |cons h r=>
  cases r;obtain⟨K,rfl⟩:=h;have n:∀a c m k,EP X g J Q (.ref s.heap.objs.size) { s with heap:=s.heap.push { cls:=.type "tuple",data:=.seq [.str (Txt.partition z w).1 a,.str (Txt.partition z w).2.1 c,.str (Txt.partition z w).2.2 m].toArray },toks:=k }:=λa c m k=>
   ⟨.ref s.heap.objs.size,_,I.laid (t':=k) (o:=.tup [.str (Txt.partition z w).1,.str (Txt.partition z w).2.1,.str (Txt.partition z w).2.2]) (λb P e=>aJ _ e) (aq _) ⟨by rw[oU];exact(by decide:3≤16777216),_,.cons ⟨_,rfl⟩ (.cons ⟨_,rfl⟩ (.cons ⟨_,rfl⟩ .nil)),nR.new _ _⟩,rfl,q _ (I.h.fresh (aq _))⟩
  refine jD xJ (oT _ _ _) PySem.F.entry_str_partition (PySem.F.args_str_partition_2 _ _) (meets_str_partition z w t K l y) ?_;have f:=n;unfold Txt.partition at f;revert f;cases lH z w 0 z.length 1 with
  |nil=>intro f;exact f _ _ _ _
  |cons i r=>intro f;exact f _ _ _ _
theorem HF(P:PE X o (tV X.K I))(K:PE X e (tV X.K G))(s:starEach [e] X.e=[(false,eval e X.e)])(h:attributeBase o "partition" X.e (eval o X.e)=eval o X.e)(i:(B.endLine == E.line)=true):PE X (.Call (.Attribute o "partition" B) [e] [] E) (tV X.K (yX I G)):=
 (Ce rO xJ PySem.F.type_str_partition FN P (eJ K i4 (by rw[s];rfl)) h (by rw[s];rfl) i (by rw[s];rfl) rfl).imp' λJ H Q A=>by
  obtain⟨F,m,L,S,d,S',r,l,q,k⟩:=A;obtain⟨x,n,g,q⟩:=aj q;obtain⟨y,S2,j,q⟩:=aj q;refine⟨F,m,L,S,x,n,r,l,g,λv b C W f R M=>?_⟩;cases x with
  |str z=>
   cases y with
   |str w=>
    cases (show v=.str z from M);refine⟨rfl,b,C,L,n,_,_,R,l.mono f,j,λu t D Z V T N=>?_⟩;cases (show u=.str w from N);dsimp only at q;split at q
    .rename_i c;rw[aE]at c;cases q;refine⟨z,w,rfl,rfl,dF c.1,by simpa using c.2,λp a=>?_⟩;exact k (.ref p) t D _ ((f.trans V).trans (cu a).stp) (T.grow (cu a)) (.newTup a ⟨_,_,rfl,rfl,_,_,rfl,rfl,_,_,rfl,rfl,rfl⟩)
    .cases q
   |_=>cases q
  |_=>cases q
theorem OB(a:∀e s,X.xe e s->False)(h:mD X o (f_ X.K z)):PS X (.Try o (B::E) [] [] j) (f_ X.K z):=λg s J H D I q=>
 wpAny_Try_except (bC (h g s J H D I q) (fun f x p=>by
  cases f with
  |next=>exact jF p
  |_=>exact p) λe x p=>(a e x p).elim)
def pk(i:Nat)(v:EV):ES:=λL S=>match L[i]? with
 |some (some (.p (.int a)))=>bA (v L S) λy h=>match y with
  | .int b=>some (.nx,L.set i (some (.p (.int (a-b)))),h)
  |_=>none
 |_=>none
theorem KU(i:Nat)(N:X.N.Nodup)(h:PE X e (tV X.K z))(u:X.N[i]? = some x)(g:L2.Loc X.e.scope x)(w:X.fn x=true\/X.e.scope.names.lookup x=some .local):PS X (.AugAssign (.Name x o) .Sub e j) (f_ X.K (pk i z)):=
 (wU N u g h Jw w).imp' λD J H K=>by
  obtain⟨F,m,L,S,M,E,G,r,l,q,k⟩:=K;unfold pk at q;split at q
  .rename_i a d;obtain⟨y,I,t,q⟩:=aj q;cases y with
   |int b=>cases q;obtain⟨C,p,A⟩:=l.at' i _ d;cases (show C=.int a from A);refine⟨_,p,F,m,L,S,_,_,r,l,t,λv s f n c B P=>?_⟩;cases (show v=.int b from P);exact⟨a,b,rfl,rfl,k _ s f n c B ((l.mono c).set (show RD X.K s n f (.p (.int (a-b))) (.int (a-b)) from rfl) i)⟩
   |_=>cases q
  .cases q
theorem KL:PS X (.Return none j) (f_ X.K (aV (Y (vC .non)))):=Fd.imp' λD J H h=>by obtain⟨F,m,L,S,f,x,a,r,l,q,k⟩:=h;cases q;exact k J F m H .refl r l .non rfl
end
end Ev










set_option tactic.hygienic false
namespace Ev
open PySem PySem.Spec PyProof.Rows L2
def pureOf(g:GF)(p:List P):Option P:=match g (p.map .p) [] with
 |some (d,S)=>(y4 9 d S).map (·.1)
 |none=>none
@[simp] noncomputable def IK:Option (Fl×Lc×aP)->Option (D×aP)
 |some (.rt d,_,S)=>some (d,S)
 |some (.nx,_,S)=>some (.p .non,S)
 |_=>none
def bp(p n:Nat)(b:ES):GF:=λd S=>if d.length=p then IK (b (d.map some++List.replicate (n-d.length) none) S) else none
theorem Rel.nil{K:FG}{F:Aa}{H:Hp}(f:∀a,F a->H a≠none):Rel K F H [] []:=⟨rfl,by simp,by simp,by simp,by simp,f⟩
theorem i0{K:FG}{g:GF}{n:List V}{H:Hp}{Q:VK}{E:XK}(h:G0 K (pureOf g) n H Q E):qF K g n H Q E:=by
 obtain⟨F,s,d,t,r,q,k⟩:=h;unfold pureOf at q;cases e:g (s.map .p) [] with
 |none=>rw[e]at q;cases q
 |some z=>
  obtain⟨a,S⟩:=z;rw[e]at q;dsimp only at q;cases x:y4 9 a S with
  |none=>rw[x]at q;cases q
  |some l=>obtain⟨p,o⟩:=l;rw[x]at q;cases q;refine⟨F,[],s.map .p,[],a,S,.nil t,d7.ofP r,e,λv y P b i m u=>?_⟩;obtain⟨f,j,w,_,c⟩:=sV 9 x m u;exact k v f b ((i.trans j).toGrow w.ft) c
theorem FnOk.pure{P:Program}{w:World}{K:FG}{m:SV}{base:Heap}{f:Addr}{d:FuncData}{p:LS}{k:Nat}{g:GF}(G:FnOk P w K m base lC k f d p (qF K g)):FnOk P w K m base lC k f d p (G0 K (pureOf g)):=
 FnOk.imp G λ_ _ _ _ h=>i0 h
theorem d7.toSt{K:FG}{F:Aa}{H:Hp}{m:List Addr}{s:List D}{a:List V}{N:LS}(r:d7 K F H m s a):RL K F H m (L2.start N a) (s.map some++List.replicate (N.length-s.length) none):=by
 have l:=r.length;refine⟨by unfold L2.start;simp[l],λi d e=>?_⟩;by_cases h:i < s.length
 .rw [eE (by simpa using h),lP]at e;cases q:s[i]? with
  |none=>rw[q]at e;cases e
  |some v=>rw[q]at e;cases e;obtain⟨x,n,p⟩:=r.get q;refine⟨x,?_,p⟩;unfold L2.start;rw[eE (by simpa[<- l] using h),lP,n];rfl
 .rw [fS (by simpa using h),sE]at e;split at e<;>cases e
theorem F5{P:Program}{w:World}{K:FG}{m:SV}{base:Heap}{x u:Str}{st:Stmt}{f:Addr}{n:FuncData}{N a:LS}{k:Nat}{e:Sp}(F:Fun K x u st f n)(S:FnScope N a (aQ st))(len:∀v H Q E,e v H Q E->v.length=a.length)
  (b:∀(c:Value),gd K c u=true->∀(A:Around) (o:List Env) (s:Shared) (H:Hp) (v:List V) (Q:VK) (E:XK),Room k (A.deeper (envOfC u (aQ st) s.heap.objs.size f c))->e v H Q E ->
   ∃t,mD (ly lC P w K m base N u (aQ st) f c A o s H E).nox (da st) t/\t { nx:=λ_ r=>Q .non r,rt:=Q } (start N v) H):FnOk P w K m base lC (k+1) f n a e:=by
 obtain⟨B,C,z,kV,g,D,j,c,y,l,rfl,lk,d⟩:=F.ex;refine Nb lk d S len λA o s H v Q E i p=>?_;obtain⟨t,h,q⟩:=b c d A o s H v Q E i p;exact⟨t,h.nox,q⟩
theorem Dg{P:Program}{w:World}{K:FG}{y:SV}{base:Heap}{x u:Str}{st:Stmt}{f:Addr}{i:FuncData}{N p:LS}{k:Nat}{b:ES}(F:Fun K x u st f i)(S:FnScope N p (aQ st))
  (M:∀(c:Value),gd K c u=true->∀(A:Around) (o:List Env) (s:Shared) (H:Hp) (E:XK),Room k (A.deeper (envOfC u (aQ st) s.heap.objs.size f c)) ->
   mD (ly lC P w K y base N u (aQ st) f c A o s H E).nox (da st) (f_ K b)):FnOk P w K y base lC (k+1) f i p (qF K (bp p.length N.length b)):=by
 refine F5 F S (λV H Q E h=>?_) (λc n A o s H V Q E R h=>⟨_,M c n A o s H E R,?_⟩)
 .obtain⟨F,m,a,S,d,G,C,r,q,k⟩:=h;rw[<- r.length];unfold bp at q;split at q
  .assumption
  .cases q
 .obtain⟨F,m,a,S,d,G,C,r,q,k⟩:=h;unfold bp at q;split at q
  .cases e:b (a.map some++List.replicate (N.length-a.length) none) S with
   |none=>rw[e]at q;cases q
   |some z=>
    obtain⟨l,L,I⟩:=z;rw[e]at q;refine⟨F,m,_,S,l,L,I,C,r.toSt,e,λW t j g D B Z=>?_⟩;cases l with
    |nx=>cases q;exact k .non t j g D B rfl
    |bk=>cases q
    |ct=>cases q
    |rt X=>intro v T;cases q;exact k v t j g D B T
  .cases q
theorem Dh{P:Program}{w:World}{K:FG}{g:SV}{base:Heap}{f:Addr}{x:FuncData}{p:LS}{k:Nat}:FnOk P w K g base lC k f x p (qF K λ_ _=>none):=by
 have n:∀v H Q E,¬qF K (λ_ _=>none) v H Q E:=λv H Q E h=>by obtain⟨F,m,b,S,d,e,_,_,q,_⟩:=h;cases q
 exact⟨λv H Q E h=>absurd h (n v H Q E),λA o s H a u v Q E _ _ _ _ h=>absurd h (n v H Q E)⟩
structure Tr where
 v:Option EV:=none
 e:Option EE:=none
 b:Option EB:=none
 w:Option EB:=none
def Tr.ofV(f:Option EV):Tr:=⟨f,f.map Y,f.map λg=>bT (Y g),f.map bV⟩
def Tr.ofC(f:Option EV):Tr:=⟨f,f.map Y,f.map bV,f.map bV⟩
def Tr.ofE(f:Option EE):Tr:=⟨f.map vE,f,f.map bT,f.map λg=>bV (vE g)⟩
def Tr.ofB(b w:Option EB):Tr:=⟨w.map vB,w.map λg=>Y (vB g),b,w⟩
structure Cn where
 N:LS
 own:LS
 deep:LS
 ks:List (Str×NameKind)
 F:Str->Option GF
 G:Str->Option P
 A:Str->Str->Bool
 M:Str->Str->Option GF
 I:Str->Option GF
noncomputable def jw:LS->Str->Option Nat
 | [],_=>none
 |y::r,x=>if y=x then some 0 else (jw r x).map (·+1)
set_option tactic.hygienic true in
theorem pH:∀{N:LS}{x:Str}{i:Nat},jw N x=some i->N[i]? = some x
 | [],_,_,h=>by cases h
 |y::r,x,i,h=>by
  unfold jw at h;split at h
  .rename_i e;cases h;simp[e]
  .cases q:jw r x with
   |none=>rw[q]at h;cases h
   |some j=>rw[q]at h;cases h;simpa using pH q
theorem ni:∀{N:LS}{x:Str}{i:Nat},N.Nodup->N[i]? = some x->jw N x=some i
 | [],_,_,_,h=>by simp at h
 |y::r,x,0,_,h=>by
  have:y=x:=by simpa using h
  unfold jw;rw[ac this]
 |y::r,x,i+1,d,h=>by
  have a:r[i]? = some x:=by simpa using h
  have n:¬y=x:=λe=>by subst e;exact(d4.mp d).1 (d6 a)
  unfold jw;rw[ae n,ni (d4.mp d).2 a];rfl
noncomputable def cH(s:List (Str×NameKind))(x:Str)(l:List NameKind):Bool:=match s.lookup x with
 |some k=>l.contains k
 |none=>false
noncomputable def jM(x:Str):Bool:=!(x == ("__debug__":Str)) && !(x == ("__classdict__":Str))
def QQ:Operator->Option (P->P->Option P)
 | .Add=>some aD
 | .Sub=>some ug
 | .Mult=>some ev
 | .FloorDiv=>some lx
 | .Mod=>some gW
 | .Pow=>some Gd
 | .RShift=>some JP
 |_=>none
def KE:CmpOp->Option (P->P->Option P)
 | .Lt=>some vv
 | .LtE=>some Oj
 | .Gt=>some DX
 | .GtE=>some Hq
 |_=>none
def JQ:CmpOp->Option (D->D->aP->Option P)
 | .Eq=>some eB
 | .NotEq=>some lA
 | .In=>some bb
 | .NotIn=>some mW
 |_=>none
def qh:List (Option EV)->Option kB
 | []=>some af
 |a::r=>a.bind λf=>(qh r).map λg=>ab f g
def BD:List (Option EE)->Option AW
 | []=>some ay
 |a::r=>a.bind λf=>(BD r).map λg=>aA f g
def uB(o:BoolOp):List (Option EB)->Option EB
 | []=>none
 | [a]=>a
 |a::r=>a.bind λf=>(uB o r).map λg=>match o with | .And=>f6 f g | .Or=>rn f g
def O6(o:Option (Option EV)):Option EO:=match o with
 |none=>some jN
 |some a=>a.map b9
noncomputable def zA(t:Str):Option String:=if t=("bool":Str) then some "bool" else if t=("tuple":Str) then some "tuple" else if t=("str":Str) then some "str" else none
def rh(f:Str):Option (List P->Option P):=
 if f=("int":Str) then some iB else if f=("min":Str) then some p6 else if f=("str":Str) then some iI else if f=("all":Str) then some p7 else none
noncomputable def DB:LS:=["len","isinstance","int","bool","tuple","str","min","range","all","zip"]
noncomputable def qI(a s:List (Str×NameKind)):List (Str×NameKind):=a.map λ(n,k)=>if (k == .free && s.lookup n == some .cell) then (n,.cell) else (n,k)
def xk(u:Cn)(s:Scope)(N:LS)(t:List Nat)(n:Nat):Bool:=
 decide (s.kind=.function) && s.names.all (λx=>x.2 != .cell) && s.names.all (λx=>x.2 != .local ||s.names.lookup x.1 == some .local)
  && s.names.all (λx=>x.2 != .free ||(s.names.lookup x.1 == some .free && (u.ks.lookup x.1 == some .cell ||u.ks.lookup x.1 == some .free)))
  && decide (u.N=N.take u.N.length) && decide (N.length=u.N.length+n)
  && s.names.all (λx=>x.2 != .local ||match jw u.N x.1 with|some i=>t.contains i|none=>true)
def FY(u:Cn)(f g:Str):Bool:=decide (f=g) && cH u.ks f [.globalImplicit]
noncomputable def tJ{h:Type}:List h->Option h
 | [a]=>some a
 |_=>none
noncomputable def qg{h:Type}:List h->Option (h×h)
 | [a,b]=>some (a,b)
 |_=>none
theorem i5{x:Type}{l:List x}{a:x}(h:tJ l=some a):l=[a]:=by
 unfold tJ at h;split at h
 .cases h;rfl
 .cases h
theorem ku{x:Type}{l:List x}{a b:x}(h:qg l=some (a,b)):l=[a,b]:=by
 unfold qg at h;split at h
 .cases h;rfl
 .cases h
theorem av{e s:Type}{x:Option e}{f:e->Option s}{r:s}(h:x.bind f=some r):∃a,x=some a/\f a=some r:=by
 cases x with
 |none=>cases h
 |some a=>exact⟨a,rfl,h⟩
theorem aC{e s:Type}{x:Option e}{f:e->s}{r:s}(h:x.map f=some r):∃a,x=some a/\r=f a:=by
 cases x with
 |none=>cases h
 |some a=>cases h;exact⟨a,rfl,rfl⟩
theorem JL{a:Type}{c:Prop}[Decidable c]{f:c->Option a}{x:a}(h:(if q:c then f q else none)=some x):c:=by
 by_cases q:c
 .exact q
 .rw [dif_neg q]at h;cases h
section
variable{e:Expr}
noncomputable def Ao(e:Expr):Option Str:=if h:e.ctorIdx=23 then Expr.Name.elim e h λx _=>some x else none
theorem jP{x:Str}(h:Ao e=some x):∃p,e=.Name x p:=by have c:=JL h;revert h;exact Expr.Name.elim e c λ_ p h=>by cases h;exact⟨p,rfl⟩
noncomputable def pe(e:Expr):Option (Ab):=if h:e.ctorIdx=25 then Expr.Tuple.elim e h λs _ _=>some s else none
theorem pa{s:Ab}(h:pe e=some s):∃c p,e=.Tuple s c p:=by have c:=JL h;revert h;exact Expr.Tuple.elim e c λ_ c p h=>by cases h;exact⟨c,p,rfl⟩
noncomputable def CW(e:Expr):Option (Ab):=if h:e.ctorIdx=24 then Expr.List.elim e h λs _=>some s else none
theorem vb{s:Ab}(h:CW e=some s):∃p,e=.List s p:=by have c:=JL h;revert h;exact Expr.List.elim e c λ_ p h=>by cases h;exact⟨p,rfl⟩
noncomputable def Ka(e:Expr):Option (Expr×Str×Pos):=if h:e.ctorIdx=20 then Expr.Attribute.elim e h λo m p=>some (o,m,p) else none
theorem xn{o:Expr}{m:Str}{p:Pos}(h:Ka e=some (o,m,p)):e=.Attribute o m p:=by have c:=JL h;revert h;exact Expr.Attribute.elim e c λ_ _ _ h=>by cases h;rfl
noncomputable def Rb(e:Expr):Option (Expr×Expr):=if h:e.ctorIdx=21 then Expr.Subscript.elim e h λo i _=>some (o,i) else none
noncomputable def QG(e:Expr):Option (Option Expr×Option Expr×Option Expr):=if h:e.ctorIdx=26 then Expr.Slice.elim e h λi j k _=>some (i,j,k) else none
theorem Ie{i j k:Option Expr}(h:QG e=some (i,j,k)):∃p,e=.Slice i j k p:=by have c:=JL h;revert h;exact Expr.Slice.elim e c λ_ _ _ p h=>by cases h;exact⟨p,rfl⟩
noncomputable def QO(e:Expr):Option Const:=if h:e.ctorIdx=19 then Expr.Constant.elim e h λc _ _=>some c else none
theorem JR{c:Const}(h:QO e=some c):∃j p,e=.Constant c j p:=by have c:=JL h;revert h;exact Expr.Constant.elim e c λ_ j p h=>by cases h;exact⟨j,p,rfl⟩
noncomputable def Ql(e:Expr):Option (Expr×Ab×Pos):=if h:e.ctorIdx=16 then Expr.Call.elim e h λf a k p=>if k.isEmpty=true then some (f,a,p) else none else none
theorem JW{f:Expr}{a:Ab}{p:Pos}(h:Ql e=some (f,a,p)):e=.Call f a [] p:=by
 have c:=JL h;revert h;exact Expr.Call.elim e c λ_ _ k _ h=>by
  cases k with
  |nil=>cases h;rfl
  |cons _ _=>cases h
end
def zU(e:Expr):Option (Str×Ab):=(Ql e).bind λz=>(Ao z.1).map λr=>(r,z.2.1)
theorem pZ{e:Expr}{r:Str}{a:Ab}(h:zU e=some (r,a)):∃p c,e=.Call (.Name r p) a [] c:=by obtain⟨⟨f,s,c⟩,x,n⟩:=av h;obtain⟨m,k,b⟩:=aC n;obtain⟨p,rfl⟩:=jP k;cases b;exact⟨p,c,JW x⟩
def RF(e:Expr):Option ((Expr×Str×Pos)×Ab×Pos):=(Ql e).bind λz=>(Ka z.1).map λr=>(r,z.2)
def EU(u:Cn)(T:Expr->Tr)(t e:Expr):Option kB:=(zU e).elim ((T e).v.map DV) λz=>if FY u z.1 "range"=true then (qg z.2).elim ((tJ z.2).bind λa=>(T a).v.map CQ) λw=>(T w.1).v.bind λx=>(T w.2).v.map λy=>FV x y
  else if FY u z.1 "zip"=true then (qg z.2).bind λa=>if (pe t).isSome=true then (T a.1).v.bind λx=>(T a.2).v.map λy=>Qa x y else none
  else (T e).v.map DV
def HR(N:LS)(s:List (Str×NameKind))(k:List NameKind)(e:Expr):Option kM:=(Ao e).bind λx=>if cH s x k=true then (jw N x).map cF else none
def BA(N:LS)(s:List (Str×NameKind))(k:List NameKind):Ab->Option (List kM)
 | []=>some []
 |e::r=>(HR N s k e).bind λg=>(BA N s k r).map λh=>g::h
def wI(N:LS)(s:List (Str×NameKind))(k:List NameKind)(e:Expr):Option kM:=(pe e).elim (HR N s k e) λh=>(BA N s k h).map iF
def gi(e:Expr):LS:=((pe e).getD [e]).filterMap Ao
noncomputable def nQ(N:LS):LS->LS
 | []=>[]
 |t::r=>if (N.contains t ||(nQ N r).contains t)=true then nQ N r else t::nQ N r
def Qm(N:LS)(s:LS):List Nat:=s.filterMap λt=>jw N t
def mQ(u:Cn)(T:Cn->Expr->Tr)(l t iter:Expr)(i:Ab)(s:Scope):Option EV:=
 if (xk u s (u.N++nQ u.N (gi t)) (Qm u.N (gi t)) (nQ u.N (gi t)).length && decide (u.N++nQ u.N (gi t)).Nodup)=true then
  (wI (u.N++nQ u.N (gi t)) (qI s.names u.ks) [.local] t).bind λg=>
   (match i with | []=>some Gx | [c]=>(T ⟨u.N++nQ u.N (gi t),u.own.filter (λx=>!(gi t).contains x),[],qI s.names u.ks,u.F,u.G,u.A,u.M,u.I⟩ c).b|_=>none).bind λc=>
   (T ⟨u.N++nQ u.N (gi t),u.own.filter (λx=>!(gi t).contains x),[],qI s.names u.ks,u.F,u.G,u.A,u.M,u.I⟩ l).v.bind λe=>
   (EU u (T u) t iter).map λh=>qB h (Qm u.N (gi t)) (nQ u.N (gi t)).length g c e
 else none
def qP(u:Cn):Nat->Expr->Bool
 |0,_=>false
 |n+1,e=>(Ao e).any (u.own.contains ·) ||(Rb e).any (λz=>qP u n z.1) ||(Ka e).any (λz=>qP u n z.1)
def va(e:Expr):Bool:=[6,19,20,21,23].contains e.ctorIdx ||(RF e).isSome
def Ju(e:Expr):Bool:=va e ||(zU e).any λz=>!z.2.isEmpty
def Je(u:Cn)(a:Expr):Option (List (Str×P)):=(Ao a).bind λx=>if (cH u.ks x [.globalImplicit] && jM x)=true then (u.G x).bind λv=>match v with
  | .dct k s=>EW k s
  |_=>none
 else none
def CI(e:Option Expr):Option Str:=e.bind λe=>(QO e).bind λc=>match c with
 | .str x=>some x
 |_=>none
def HV:List (Option Expr)->List (Option EV)->Option DE
 | [],[]=>some xh
 |k::s,v::h=>(CI k).bind λx=>v.bind λf=>(HV s h).map λr=>hW x f r
 |_,_=>none
noncomputable def jS(e:Expr):Bool:=e.ctorIdx == 8
def NW(u:Cn)(o:Option EE)(os:Expr)(m:Str)(s:List (Option EE))(p c:Pos):Tr:=
 if (Ju os && (p.endLine == c.line) && decide (s.length < 29))=true then .ofE (o.bind λx=>(BD s).map λa=>aB u.M x m a) else {}
def N2(u:Cn)(o:Expr)(m:Str)(n:Str)(a c:Pos):Bool:=decide (m=n) && qP u 4 o && va o && (a.endLine == c.line)
def Rj(a:Ab):Option (Expr×Str):=(qg a).bind λz=>(Ao z.2).map λt=>(z.1,t)
def Ot(s:List Comprehension):Option (Expr×Expr×Ab):=(tJ s).bind λg=>if g.is_async=0 then some (g.target,g.iter,g.ifs) else none
def QD(u:Cn)(T:Expr->Tr)(f:Str)(s:Ab):Tr:=if (cH u.ks f [.globalImplicit] && jM f && !s.isEmpty)=true then
  (u.I f).elim ((u.F f).elim
   ((tJ s).elim
    ((Rj s).elim (.ofV ((rh f).bind fun g=>(qh (s.map fun x=>(T x).v)).map fun x=>au g x))
     λz=>if (decide (f=("isinstance":Str)) && cH u.ks z.2 [.globalImplicit])=true then (zA z.2).elim {} (λt=>.ofV ((T z.1).e.map λx=>DS [t] x)) else (.ofV ((rh f).bind λg=>(qh (s.map λx=>(T x).v)).map λx=>au g x)))
    λa=>if f=("len":Str) then .ofV ((T a).e.map d_) else .ofV ((rh f).bind λg=>(qh [(T a).v]).map λx=>au g x))
   λg=>.ofV ((qh (s.map λx=>(T x).v)).map λa=>au (pureOf g) a))
  λg=>.ofE ((BD (s.map λx=>(T x).e)).map λa=>vq g f a)
 else {}
def QE(u:Cn)(T:Expr->Tr)(o:Expr)(m:Str)(p:Pos)(s:Ab)(c:Pos):Tr:=(tJ s).elim
  (if (N2 u o m "pop" p c && s.isEmpty)=true then .ofE ((T o).e.map nK) else if (decide (m=("get":Str)) && va o && (p.endLine == c.line))=true then (qg s).elim {} (fun z=>(Je u o).elim (.ofV ((T o).v.bind fun x=>(T z.1).v.bind fun y=>(T z.2).v.map fun z=>Bt x y z)) fun k=>.ofV ((T z.1).v.bind fun y=>(T z.2).v.map fun z=>qz k y z)) else
   NW u (T o).e o m (s.map λx=>(T x).e) p c)
  λa=>if N2 u o m "append" p c=true then .ofE ((T o).e.bind λx=>(T a).e.map λy=>cv x y) else
   if (decide (m=("join":Str)) && va o && (p.endLine == c.line))=true then .ofV ((T o).v.bind λx=>(T a).v.map λy=>sP x y) else
   if (decide (m=("partition":Str)) && va o && (p.endLine == c.line))=true then .ofV ((T o).v.bind λx=>(T a).v.map λy=>yX x y) else
   NW u (T o).e o m (s.map λx=>(T x).e) p c
def Q7(u:Cn)(T:Expr->Tr)(j:Cn->Expr->Tr)(e:Expr):Tr:=match e with
  | .Constant c _ _=>match c with
   | .int i=>.ofV (some (vC (.int i)))
   | .bool i=>.ofV (some (vC (.bl i)))
   | .none=>.ofV (some (vC .non))
   | .str i=>.ofV (some (vC (.str i)))
   |_=>{}
  | .Name x _=>if (cH u.ks x [.local,.cell,.free] && jM x)=true then .ofE ((jw u.N x).map U) else
    if (cH u.ks x [.globalImplicit] && jM x)=true then .ofV ((u.G x).bind λv=>if CZ v=true then none else some (vC v)) else {}
  | .BinOp a p b _=>.ofV ((QQ p).bind λg=>(T a).v.bind λx=>(T b).v.map λy=>aH g x y)
  | .UnaryOp p a _=>match p with
   | .USub=>.ofV ((T a).v.map (GO uh))
   | .Not=>.ofB ((T a).b.map mv) ((T a).w.map mv)
   |_=>{}
  | .BoolOp p s _=>.ofB (uB p (s.map λx=>(T x).b)) (uB p (s.map λx=>(T x).w))
  | .Compare a n t _=>(tJ n).elim (.ofC ((qg n).bind λo=>(qg t).bind λz=>(KE o.1).bind λg=>(KE o.2).bind λS=>(T a).v.bind λx=>(T z.1).v.bind λy=>(T z.2).v.map λz=>mO g S x y z))
    λp=>(tJ t).elim {} λb=>(KE p).elim (.ofC ((JQ p).bind λg=>(T a).e.bind λx=>(T b).e.map λy=>aI g x y)) λg=>.ofC ((T a).v.bind λx=>(T b).v.map λy=>aH g x y)
  | .IfExp c a b _=>if (qP u 4 a ||qP u 4 b)=true then { Tr.ofE ((T c).b.bind λq=>(T a).e.bind λx=>(T b).e.map λy=>Of q x y) with b:=none } else { Tr.ofV ((T c).b.bind λq=>(T a).v.bind λx=>(T b).v.map λy=>qA q x y) with b:=none }
  | .Tuple s _ _=>.ofV ((qh (s.map λx=>(T x).v)).map aY)
  | .List s _=>.ofV ((qh (s.map λx=>(T x).v)).map gg)
  | .Dict k w _=>if (k.all (·.isSome) && decide (k.length=w.length) && !k.isEmpty && decide (k.length≤15))=true then .ofV ((HV k (w.map λx=>(T x).v)).map o9) else {}
  | .JoinedStr s _=>if 2≤s.length then .ofV ((O7 (s.map λx=>(T x).v)).map dH) else {}
  | .FormattedValue a c f _=>if (decide (c=-1) && f.isNone)=true then .ofV ((T a).v.map c8) else {}
  | .Subscript a i _=>(QG i).elim ((Je u a).elim (if qP u 4 a=true then .ofE ((T a).e.bind λx=>(T i).v.map λy=>qX x y) else .ofV ((T a).v.bind λx=>(T i).v.map λy=>aH bX x y)) λm=>.ofV ((T i).v.map λy=>k_ m y))
    λz=>if z.2.2.isSome=true then {} else .ofV ((T a).v.bind λx=>(O6 (z.1.map λy=>(T y).v)).bind λy=>(O6 (z.2.1.map λz=>(T z).v)).map λz=>jv x y z)
  | .Call d r k H=>if k.isEmpty=true then (Ao d).elim ((Ka d).elim {} λz=>QE u T z.1 z.2.1 z.2.2 r H) (λf=>QD u T f r) else {}
  | .Attribute o f _=>if va o=true then .ofE ((T o).e.map λx=>bc u.A x f) else {}
  | .ListComp l F h _=>(Ot F).elim {} λz=>.ofV (mQ u j l z.1 z.2.1 z.2.2 h)
  |_=>{}
def tr(u:Cn):Nat->Expr->Tr
 |0,_=>{}
 |n+1,e=>Q7 u (λx=>tr u n x) (λh x=>tr h n x) e
def O8(u:Cn)(n k:Nat)(e:Expr):Option EE:=(CW e).elim (tr u n e).e λs=>(BD (s.map λx=>(tr u n x).e)).map pT
end Ev
set_option tactic.hygienic true
namespace Ev
open PySem PySem.Spec PyProof.Rows L2
structure XOk(Γ:Cn)(X:Cx):Prop where
 hN:X.N=Γ.N
 nd:X.N.Nodup
 ks:X.e.scope.names=Γ.ks
 kd:X.e.scope.kind=.function
 calm:X.c=true
 hu:X.A.units+64 < cLine
 fns:∀x g,Γ.F x=some g->∃k f fd ps,FnOk X.p X.w X.K X.g X.b lC k f fd ps (qF X.K g)/\Room k X.A/\X.g x=some (.ref f)/\eT X.K (.ref f)=true/\Binds X.K fd ps []
 blt:∀x ∈ DB,X.g x=none
 glb:∀x v,Γ.G x=some v->d9 X.w X.K X.g x v
 attrs:NQ X.K Γ.A
 meths:Oy X Γ.M
 mks:∀c g,Γ.I c=some g->∃C k f fd ps,ib X.K c C/\X.g c=some (.ref C)/\Mk X.K C f/\FnOk X.p X.w X.K X.g X.b lC k f fd ps (qF X.K g)/\Room (k+1) X.A/\Binds X.K fd ps []
structure Good(X:Cx)(ex:Expr)(t:Tr):Prop where
 v:∀f,t.v=some f->PE X ex (tV X.K f)
 e:∀f,t.e=some f->PE X ex (tE X.K f)
 b:∀f,t.b=some f->PT X ex (tQ X.K f)
 w:∀f,t.w=some f->PE X ex (tV X.K (vB f))
section
variable{X:Cx}{e:Expr}
theorem Good.no:Good X e {}:=⟨λ_ h=>(by cases h),λ_ h=>(by cases h),λ_ h=>(by cases h),λ_ h=>(by cases h)⟩
theorem Good.el{x:Type}{o:Option x}{b:Tr}{f:x->Tr}(h:∀a,o=some a->Good X e (f a))(s:o=none->Good X e b):Good X e (o.elim b f):=by
 cases o with
 |none=>exact s rfl
 |some a=>exact h a rfl
theorem Good.ite{c:Prop}[Decidable c]{a b:Tr}(h:c->Good X e a)(x:Good X e b):Good X e (if c then a else b):=by
 by_cases q:c
 .rw [ac q];exact h q
 .rw [ae q];exact x
def DL(e:Expr):Prop:=∀env w,isTrue e env w=(do let v <- w;standAt e.pos;holding [v] (truthy v))
theorem Good.ofV{t:Option EV}(h:∀f,t=some f->PE X e (tV X.K f))(p:DL e):Good X e (.ofV t) where
 v:=h
 e:=λf q=>by
  cases t with
  |none=>cases q
  |some g=>cases q;exact Km (h _ rfl)
 b:=λf q=>by
  cases t with
  |none=>cases q
  |some g=>cases q;exact yT (Km (h _ rfl)) (p _)
 w:=λf q=>by
  cases t with
  |none=>cases q
  |some g=>cases q;exact uy (h _ rfl)
theorem Good.ofC{t:Option EV}(h:∀f,t=some f->PE X e (tV X.K f))(x:∀f,t=some f->PT X e (tQ X.K (bV f))):Good X e (.ofC t) where
 v:=h
 e:=λf q=>by
  cases t with
  |none=>cases q
  |some g=>cases q;exact Km (h _ rfl)
 b:=λf q=>by
  cases t with
  |none=>cases q
  |some g=>cases q;exact x _ rfl
 w:=λf q=>by
  cases t with
  |none=>cases q
  |some g=>cases q;exact uy (h _ rfl)
theorem Good.ofE{t:Option EE}(h:∀f,t=some f->PE X e (tE X.K f))(p:DL e):Good X e (.ofE t) where
 v:=λf q=>by
  cases t with
  |none=>cases q
  |some g=>cases q;exact NR (h _ rfl)
 e:=h
 b:=λf q=>by
  cases t with
  |none=>cases q
  |some g=>cases q;exact yT (h _ rfl) (p _)
 w:=λf q=>by
  cases t with
  |none=>cases q
  |some g=>cases q;exact uy (NR (h _ rfl))
theorem Good.ofB{b w:Option EB}(x:∀f,b=some f->PT X e (tQ X.K f))(h:∀f,w=some f->PE X e (tV X.K (vB f))):Good X e (.ofB b w) where
 v:=λf q=>by
  cases w with
  |none=>cases q
  |some g=>cases q;exact h _ rfl
 e:=λf q=>by
  cases w with
  |none=>cases q
  |some g=>cases q;exact Km (h _ rfl)
 b:=x
 w:=h
end
theorem kU{x e:Type}{o:Option x}{b r:e}{f:x->e}(h:o.elim b f=r):(∃a,o=some a/\f a=r)\/(o=none/\b=r):=by
 cases o with
 |none=>exact .inr ⟨rfl,h⟩
 |some a=>exact .inl ⟨a,rfl,h⟩
def gL(e:Expr):Prop:=∀s env,starEach (e::s) env=(false,eval e env)::starEach s env
structure RdE(e:Expr):Prop where
 st:gL e
 ix:mB e
 mr:∀op,behindInMarks op e=false
 ms:∀op op' b,lastMarks [op,op'] [b,e]=false
 ps:DM e
 sw:jS e=false->∀t l env,swapsWith e t l env=pure false
 fs:∀env x,foldedSetIterable e env x=pure x
theorem rd_of{u:Cn}{n:Nat}{e:Expr}(h:(tr u n e).v.isSome=true\/(tr u n e).e.isSome=true):RdE e:=by
 cases n with
 |zero=>rcases h with h|h<;>cases h
 |succ n=>cases e<;>first|(rcases h with h|h<;>cases h;done)|exact⟨λ_ _=>rfl,λ_ _=>rfl,λ_=>rfl,λ_ _ _=>rfl,λ_ _ _ _=>rfl,λc _ _ _=>(by first|rfl|cases c),λ_ _=>rfl⟩
theorem ie{u:Cn}{n:Nat}{e:Expr}{f:EV}(h:(tr u n e).v=some f):RdE e:=rd_of (.inl (by rw[h];rfl))
theorem tB{u:Cn}{n:Nat}{e:Expr}{f:EE}(h:(tr u n e).e=some f):RdE e:=rd_of (.inr (by rw[h];rfl))
theorem mx{s:Ab}{env:Env}{p:Pos}(h:∀e ∈ s,gL e):(backTo p (starEach s env)).any (·.1)=false:=by
 induction s with
 |nil=>rfl
 |cons e s i=>
  rw[h e aM s env];have:=i λx a=>h x (aW _ a)
  unfold backTo at this ⊢;rw[a6,fQ,this];rfl
section
variable{u:Cn}{X:Cx}(h:XOk u X)
include h
theorem XOk.gl{x:Str}(q:cH u.ks x [.globalImplicit]=true):Gl X x:=by
 unfold Gl Env.kindOf;rw[h.ks];unfold cH at q;cases e:u.ks.lookup x with
 |none=>rw[e]at q;cases q
 |some k=>rw[e]at q;cases k<;>first|rfl|cases q
theorem XOk.vis{x:Str}(q:cH u.ks x [.local,.cell,.free]=true):Kf X.e.scope x:=by
 unfold Kf;rw[h.ks];unfold cH at q;cases e:u.ks.lookup x with
 |none=>rw[e]at q;cases q
 |some k=>rw[e]at q;cases k<;>first|exact .inl rfl|exact .inr (.inl rfl)|exact .inr (.inr rfl)|cases q
theorem XOk.loc{x:Str}(q:cH u.ks x [.local,.cell]=true):L2.Loc X.e.scope x:=by
 unfold L2.Loc;rw[h.ks];unfold cH at q;cases e:u.ks.lookup x with
 |none=>rw[e]at q;cases q
 |some k=>rw[e]at q;cases k<;>first|exact .inl rfl|exact .inr rfl|cases q
theorem XOk.local{x:Str}(q:cH u.ks x [.local]=true):X.e.scope.names.lookup x=some .local:=by
 rw[h.ks];unfold cH at q;cases e:u.ks.lookup x with
 |none=>rw[e]at q;cases q
 |some k=>rw[e]at q;cases k<;>first|rfl|cases q
omit h in
theorem ga{x:Str}(q:jM x=true):(x == ("__debug__":Str))=false/\(x == ("__classdict__":Str))=false:=by unfold jM at q;rw[aE]at q;exact⟨by simpa using q.1,by simpa using q.2⟩
theorem XOk.get{x:Str}{i:Nat}(q:jw u.N x=some i):X.N[i]? = some x:=by rw[h.hN];exact pH q
omit h in
theorem iX{u:Cn}{n:Nat}:∀{s:Ab}{k:kB},(∀e ∈ s,Good X e (tr u n e))->qh (s.map λx=>(tr u n x).v)=some k->PA X s (qi X.K k)/\∀e ∈ s,gL e
 | [],k,_,q=>by cases q;exact⟨GB,λ_ z=>by cases z⟩
 |e::s,k,g,q=>by
  obtain⟨f,b,p⟩:=av q;obtain⟨r,v,rfl⟩:=aC p;obtain⟨m,t⟩:=iX (λx a=>g x (aW _ a)) v;have b:(tr u n e).v=some f:=b;have c:gL e:=(ie b).st;refine⟨Hw ((g e aM).v f b) m (c _ _),λx a=>?_⟩;rcases aU.mp a with a|a
  .subst a;exact c
  .exact t x a
omit h in
theorem oz{u:Cn}{n:Nat}:∀{s:Ab}{k:AW},(∀e ∈ s,Good X e (tr u n e))->BD (s.map λx=>(tr u n x).e)=some k->PA X s (BI X.K k)/\∀e ∈ s,gL e
 | [],k,_,q=>by cases q;exact⟨Ng,λ_ z=>by cases z⟩
 |e::s,k,g,q=>by
  obtain⟨f,b,p⟩:=av q;obtain⟨r,v,rfl⟩:=aC p;obtain⟨m,t⟩:=oz (λx a=>g x (aW _ a)) v;have b:(tr u n e).e=some f:=b;have c:gL e:=(tB b).st;refine⟨JN ((g e aM).e f b) m (c _ _),λx a=>?_⟩;rcases aU.mp a with a|a
  .subst a;exact c
  .exact t x a
omit h in
theorem uz{o:BoolOp}{p:Pos}{u:Cn}{n:Nat}:∀{s:Ab}{f:EB},(∀e ∈ s,Good X e (tr u n e))->uB o (s.map λx=>(tr u n x).b)=some f->PW X (.BoolOp o s p) (tQ X.K f)
 | [],f,_,q=>by cases q
 | [a],f,g,q=>by
  cases o with
  |And=>exact KZ ((g a aM).b f q)
  |Or=>exact OH ((g a aM).b f q)
 |a::b::s,f,g,q=>by
  obtain⟨x,k,m⟩:=av q;obtain⟨r,t,rfl⟩:=aC m;have i:=uz (s:=b::s) (p:=p) (λx c=>g x (aW _ c)) t;cases o with
  |And=>exact OK ((g a aM).b x k) i
  |Or=>exact Q0 ((g a aM).b x k) i
omit h in
theorem uA{o:BoolOp}{p:Pos}{u:Cn}{n:Nat}:∀{s:Ab}{f:EB},(∀e ∈ s,Good X e (tr u n e))->uB o (s.map λx=>(tr u n x).w)=some f->PE X (.BoolOp o s p) (tV X.K (vB f))
 | [],f,_,q=>by cases q
 | [a],f,g,q=>Li ((g a aM).w f q)
 |a::b::s,f,g,q=>by
  obtain⟨x,k,m⟩:=av q;obtain⟨r,t,rfl⟩:=aC m;have i:=uA (s:=b::s) (p:=p) (λx c=>g x (aW _ c)) t;cases o with
  |And=>exact O3 ((g a aM).w x k) i
  |Or=>exact Q1 ((g a aM).w x k) i
omit h in
theorem Bz{u:Cn}{n:Nat}{o:Option Expr}{f:EO}(g:∀e,Good X e (tr u n e))(q:O6 (o.map λy=>(tr u n y).v)=some f):PO X o (tO X.K f):=by
 cases o with
 |none=>cases q;exact IW
 |some e=>obtain⟨x,a,rfl⟩:=aC (show((tr u n e).v).map b9=some f from q);exact IV ((g e).v x a)
theorem JY{o:Operator}{g:P->P->Option P}(q:QQ o=some g):m9 X (binaryOp o) g:=by cases o<;>first|(cases q;exact Cm)|(cases q;exact Me)|(cases q;exact IT)|(cases q;exact FE)|(cases q;exact Mj)|(cases q;exact Mg)|(cases q;exact Mf)|cases q
omit h in
theorem m5{o:CmpOp}{g:P->P->Option P}(q:KE o=some g):m9 X (compareOp o) g:=by cases o<;>first|(cases q;exact PM)|(cases q;exact PP)|(cases q;exact PQ)|(cases q;exact PR)|cases q
theorem zQ{o:CmpOp}{g:D->D->aP->Option P}(q:JQ o=some g):iC X (compareOp o) (rE X.K g):=by cases o<;>first|(cases q;exact Mp h.hu)|(cases q;exact Mh h.hu)|(cases q;exact Mm h.hu)|(cases q;exact Ck h.hu)|cases q
theorem Gn{f:Str}{g:GF}{a:Expr}{s:Ab}{x:kB}{b o:Pos}(t:u.F f=some g)(hk:cH u.ks f [.globalImplicit]=true)(v:jM f=true)(c:PA X (a::s) (qi X.K x))(n:∀e ∈ a::s,gL e) :
  PE X (.Call (.Name f b) (a::s) [] o) (tV X.K (au (pureOf g) x)):=by
 obtain⟨k,w,i,j,G,d,q,p,m⟩:=h.fns f g t;exact Lh (FnOk.pure G) d (h.gl hk) q p m c (ga v).1 (n a aM _ _) (mx λe r=>n e (aW _ r))
theorem DA{f:Str}{g:List P->Option P}{a:Expr}{n:Ab}{c:kB}{r p:Pos}(x:rh f=some g)(hk:cH u.ks f [.globalImplicit]=true)(k:PA X (a::n) (qi X.K c))(m:∀e ∈ a::n,gL e) :
  PE X (.Call (.Name f r) (a::n) [] p) (tV X.K (au g c)):=by
 have s:=m a aM n X.e;have b:=mx (env:=X.e) (p:=p) λe s=>m e (aW _ s);unfold rh at x;split at x
 .rename_i e;subst e;cases x;exact HG (h.gl hk) (h.blt _ (by decide)) k s b
 split at x
 .rename_i e;subst e;cases x;exact K3 (h.gl hk) (h.blt _ (by decide)) k h.calm s b
 split at x
 .rename_i e;subst e;cases x;exact K1 (h.gl hk) (h.blt _ (by decide)) k s b
 split at x
 .rename_i e;subst e;cases x;exact K4 (h.gl hk) (h.blt _ (by decide)) k h.calm s b
 .cases x
omit h in
theorem CT{t:Str}{T:String}(x:zA t=some T):t ∈ DB/\T ∈ u_/\bootBuiltins t=some (.type T)/\t≠"__name__"/\(t == ("__debug__":Str))=false:=by
 unfold zA at x;split at x
 .rename_i e;subst e;cases x;exact⟨by decide,by decide,Eo,by decide,by decide⟩
 split at x
 .rename_i e;subst e;cases x;exact⟨by decide,by decide,Et,by decide,by decide⟩
 split at x
 .rename_i e;subst e;cases x;exact⟨by decide,by decide,x5,by decide,by decide⟩
 .cases x
theorem Jt{t:Str}{T:String}{a:Expr}{f:EE}{x v p:Pos}(r:zA t=some T)(hk:cH u.ks ("isinstance":Str) [.globalImplicit]=true)(k:cH u.ks t [.globalImplicit]=true)(m:PE X a (tE X.K f))(q:gL a) :
  PE X (.Call (.Name "isinstance" x) [a,.Name t v] [] p) (tV X.K (DS [T] f)):=by
 obtain⟨e,s,n,b,c⟩:=CT r;exact OX s (h.gl hk) (h.blt ("isinstance":Str) (by decide)) (h.gl k) (h.blt _ e) n m b c (by rw[q];rfl)
omit h in
theorem zC{f g:Str}(q:FY u f g=true):f=g/\cH u.ks f [.globalImplicit]=true:=by unfold FY at q;rw[aE]at q;exact⟨aG q.1,q.2⟩
theorem tab_of{a:Expr}{k:List (Str×P)}(q:Je u a=some k):∃x p,a=.Name x p/\Gl X x/\DQ X.w X.K X.g x k/\(x == ("__debug__":Str))=false:=by
 obtain⟨x,m,s⟩:=av q;clear q;obtain⟨p,rfl⟩:=jP m;split at s
 .rename_i c;rw[aE]at c;obtain⟨v,G,n⟩:=av s;clear s;split at n
  .rename_i b r;obtain⟨f,e,t⟩:=(h.glb x _ G).2 b r rfl;rw[n]at e;cases e;exact⟨x,p,rfl,h.gl c.1,t,(ga c.2).1⟩
  .cases n
 .cases s
omit h in
theorem As{e:Option Expr}{x:Str}(q:CI e=some x):∃j p,e=some (.Constant (.str x) j p):=by
 obtain⟨f,s,k⟩:=av q;clear q;subst s;obtain⟨c,n,a⟩:=av k;obtain⟨j,p,rfl⟩:=JR n;cases c with
 |str y=>cases a;exact⟨j,p,rfl⟩
 |_=>cases a
omit h in
theorem y3{o:Pos}{n:Nat}:∀{y:List (Option Expr)}{a:Ab}{l:DE},(∀e ∈ a,Good X e (tr u n e))->HV y (a.map λx=>(tr u n x).v)=some l->KD X o y a l
 | [],[],l,_,q=>by cases q;exact P'
 | [],_::_,l,_,q=>by cases q
 |k::c,[],l,_,q=>by cases q
 |k::c,v::H,l,g,q=>by obtain⟨x,m,t⟩:=av q;obtain⟨f,d,w⟩:=av t;obtain⟨r,z,rfl⟩:=aC w;have i:=y3 (o:=o) (λx b=>g x (aW _ b)) z;have s:=(g v aM).v f d;obtain⟨j,p,rfl⟩:=As m;exact MZ K5 s i
omit h in
theorem BC{n:Nat}:∀{s:Ab}{a:List EV},(∀e ∈ s,Good X e (tr u n e))->O7 (s.map λx=>(tr u n x).v)=some a->PEs X s a
 | [],a,_,q=>by cases q;exact .nil
 |e::s,a,g,q=>by obtain⟨f,b,c⟩:=av q;obtain⟨r,m,rfl⟩:=aC c;exact .cons ((g e aM).v f b) (BC (λx k=>g x (aW _ k)) m)
theorem Hj{n:Nat}{w e:Expr}{f:kB}(g:∀x,Good X x (tr u n x))(q:EU u (λx=>tr u n x) w e=some f):PI X w e (tI X.K f):=by
 have plain:((tr u n e).v.map DV=some f)->PI X w e (tI X.K f):=λq=>by obtain⟨x,s,rfl⟩:=aC q;exact iS ((g e).v x s)
 have l:=kU q;clear q;rcases l with ⟨⟨S,i⟩,z,q⟩|⟨_,q⟩
 .obtain⟨F,o,rfl⟩:=pZ z;dsimp only at q;split at q
  .rename_i r;obtain⟨rfl,r⟩:=zC r;rcases kU q with ⟨⟨a,b⟩,m,k⟩|⟨_,q⟩
   .clear q;cases ku m;obtain⟨x,s,k⟩:=av k;obtain⟨y,t,rfl⟩:=aC k;have v:starEach [b] X.e=[(false,eval b X.e)]:=(ie t).st _ _;exact Ro (h.gl r) (h.blt ("range":Str) (by decide)) ((g a).v x s) ((g b).v y t) (by rw[(ie s).st,v]) v
   obtain⟨a,m,k⟩:=av q;clear q;cases i5 m;obtain⟨x,s,rfl⟩:=aC k;exact Rp (h.gl r) (h.blt ("range":Str) (by decide)) ((g a).v x s) ((ie s).st _ _)
  .split at q
   .rename_i r;obtain⟨rfl,r⟩:=zC r;obtain⟨⟨a,b⟩,m,k⟩:=av q;clear q;cases ku m;split at k
    .rename_i d;obtain⟨x,s,j⟩:=av k;obtain⟨y,t,rfl⟩:=aC j;obtain⟨H,d⟩:=xL.mp d;obtain⟨c,p,rfl⟩:=pa d;have v:starEach [b] X.e=[(false,eval b X.e)]:=(ie t).st _ _;exact iZ (h.gl r) (h.blt ("zip":Str) (by decide)) ((g a).v x s) ((g b).v y t) (by rw[(ie s).st,v]) v
    .cases k
   .exact plain q
 .exact plain q
omit h in
theorem u0{n:Nat}{t e:Expr}{f:kB}(q:EU u (λx=>tr u n x) t e=some f)(env:Env)(x:Value):foldedSetIterable e env x=pure x:=by
 have s:=kU q;clear q;rcases s with ⟨⟨b,a⟩,z,q⟩|⟨_,q⟩
 .obtain⟨c,p,rfl⟩:=pZ z;rfl
 .obtain⟨x,k,rfl⟩:=aC q;exact(ie k).fs _ _
theorem DC{s:Scope}{N:LS}{k:List Nat}{n:Nat}(q:xk u s N k n=true):BlockOk X s N k n:=by
 unfold xk at q;simp only[aE]at q;obtain⟨⟨⟨⟨⟨⟨c,m⟩,r⟩,p⟩,v⟩,d⟩,w⟩:=q;have f:u.N=N.take u.N.length:=aG v;refine⟨aG c,λx a=>?_,λx a l=>?_,λx a l=>?_,?_,?_,λx a l i b=>?_⟩
 .simpa using bj.mp m x a
 .have:=bj.mp r x a;rw[l]at this;simpa using this
 .have:=bj.mp p x a;rw[l]at this;have t:s.names.lookup x.1=some .free/\(u.ks.lookup x.1=some .cell\/u.ks.lookup x.1=some .free):=by simpa using this
  refine⟨t.1,?_⟩;unfold Env.kindOf;rw[h.ks];exact t.2
 .rw [h.hN];exact f
 .rw [h.hN];exact aG d
 .have:=bj.mp w x a;rw[l]at this;have e:jw u.N x.1=some i:=ni (by rw[<- h.hN];exact h.nd) (by rw[<- h.hN];exact b);rw[e]at this;simpa using this
end
theorem Ha{X:Cx}{N:LS}{s:List (Str×NameKind)}{k:List NameKind}{e:Expr}{g:kM}(f:X.N=N)(d:X.N.Nodup)(hk:∀x,cH s x k=true->L2.Loc X.e.scope x/\(X.fn x=true\/X.e.scope.names.lookup x=some .local))(q:HR N s k e=some g):∃x p,e=.Name x p/\PG X (.Name x p) (gT X.K g):=by
 obtain⟨x,b,h⟩:=av q;clear q;obtain⟨p,rfl⟩:=jP b;split at h
 .rename_i c;obtain⟨i,m,rfl⟩:=aC h;obtain⟨a,n⟩:=hk _ c;exact⟨x,p,rfl,JD i d (by rw[f];exact pH m) a n⟩
 .cases h
theorem y6{X:Cx}{N:LS}{n:List (Str×NameKind)}{k:List NameKind}{e:Expr}{g:kM}(t:X.c=true)(b:X.N=N)(d:X.N.Nodup)(hk:∀x,cH n x k=true->L2.Loc X.e.scope x/\(X.fn x=true\/X.e.scope.names.lookup x=some .local))(q:wI N n k e=some g):PG X e (gT X.K g):=by
 have all:∀{s:Ab}{h:List kM},BA N n k s=some h->GsOk X s h:=by
  intro s;induction s with
  |nil=>intro h q;cases q;exact .nil
  |cons e s i=>intro h q;obtain⟨g,f,m⟩:=av q;obtain⟨r,w,rfl⟩:=aC m;clear q m;obtain⟨x,p,rfl,a⟩:=Ha b d hk f;exact .cons a (i w)
 have v:=kU q;clear q;rcases v with ⟨s,z,q⟩|⟨_,q⟩
 .obtain⟨c,p,rfl⟩:=pa z;obtain⟨h,f,rfl⟩:=aC q;exact JC t (all f)
 .obtain⟨x,p,rfl,a⟩:=Ha b d hk q;exact a
theorem BX{s:Scope}{env:Env}(hk:env.scope.kind=.function):(relabel s env).names=qI s.names env.scope.names:=by unfold relabel qI Env.kindOf;rw[hk];simp
theorem XOk.inn{u:Cn}{X:Cx}(h:XOk u X){c:Scope}{N:LS}{t:List Nat}{n:Nat}(B:BlockOk X c N t n)(d:N.Nodup)(s:Shared)(H:Hp)(C:Addr)(f:List Addr) :
  XOk ⟨N,[],[],qI c.names u.ks,u.F,u.G,u.A,u.M,u.I⟩ (Ev.inn X c N s H C f) where
 hN:=rfl
 nd:=d
 ks:=by show(relabel c X.e).names=_;rw[BX h.kd,h.ks]
 kd:=B.kind
 calm:=h.calm
 hu:=h.hu
 fns:=h.fns
 blt:=h.blt
 glb:=h.glb
 attrs:=h.attrs
 meths:=h.meths
 mks:=h.mks
theorem pX{X:Cx}{o:Scope}{N:LS}{d:List Nat}{n:Nat}{i:PN}{J:L2.St}{H:Hp}{s:Shared}(B:BlockOk X o N d n)(I:Inv X i J H s):closureFor o X.e=pure (m7 o X.e):=by
 have all:∀x ∈ o.names,x.2=.free->∃c,X.e.cells.lookup x.1=some c:=λx v h=>I.o.has x.1 (B.fr x v h).2;unfold closureFor m7;have f:∀(l:List (Str×NameKind))(a:List (Str×Addr)),(∀x ∈ l,x.2=.free->∃c,X.e.cells.lookup x.1=some c) ->
   (forIn l a fun (x:Str×NameKind) (r:List (Str×Addr))=>(do
    if x.2 == .free then do
     let c <- cellOf X.e x.1
     pure (ForInStep.yield ((x.1,c)::r))
    else pure (ForInStep.yield r):Sem (ForInStep (List (Str×Addr)))))=pure ((((l.filter λx=>x.2 == .free).map λx=>(x.1,(X.e.cells.lookup x.1).getD 0)).reverse)++a):=by
  intro l;induction l with
  |nil=>intro a _;rfl
  |cons x l m=>
   intro a h;rw[lM];by_cases hk:(x.2 == NameKind.free)=true
   .obtain⟨c,b⟩:=h x aM (by simpa using hk);rw[ac hk,List.filter_cons_of_pos (p:=λ(x:Str×NameKind)=>x.2 == .free) hk,a6,yp,eZ];have q:cellOf X.e x.1=pure c:=by unfold cellOf;rw[b]
    rw[q,b];show(forIn l ((x.1,c)::a) _:Sem _)=_;rw[m ((x.1,c)::a) λy e=>h y (aW _ e)];rfl
   .rw [ae hk,List.filter_cons_of_neg (p:=λ(x:Str×NameKind)=>x.2 == .free) hk];show(forIn l a _:Sem _)=_;rw[m a λy e=>h y (aW _ e)]
 have k:=f o.names [] all;rw [cg] at k;show (Bind.bind (forIn o.names [] fun (x:Str×NameKind) (r:List (Str×Addr))=>(do
    if x.2 == .free then do
     let c <- cellOf X.e x.1
     pure (ForInStep.yield ((x.1,c)::r))
    else pure (ForInStep.yield r):Sem (ForInStep (List (Str×Addr))))) λt=>pure t:Sem (List (Str×Addr)))=_
 rw[k];rfl
end Ev
namespace Ev
open PySem PySem.Spec PyProof.Rows L2
def uo(n:Nat):Prop:=∀(u:Cn)(X:Cx),XOk u X->∀e,Good X e (tr u n e)
theorem XOk.own{u:Cn}{X:Cx}(h:XOk u X)(o:LS):XOk ⟨u.N,o,u.deep,u.ks,u.F,u.G,u.A,u.M,u.I⟩ X:=⟨h.hN,h.nd,h.ks,h.kd,h.calm,h.hu,h.fns,h.blt,h.glb,h.attrs,h.meths,h.mks⟩
theorem vA{u:Cn}{X:Cx}(h:XOk u X){n:Nat}(G:uo n){l t iter:Expr}{k:Ab}{o:Scope}{f:EV}(q:mQ u (λw x=>tr w n x) l t iter k o=some f) :
  ∃N b m g j y,BlockOk X o N b m/\vR X t iter f b m g j y/\(∀s H C p,PG (inn X o N s H C p) t (gT X.K g))/\(∀s H C p,PIfs (inn X o N s H C p) k j)/\(∀s H C p,PE (inn X o N s H C p) l (tV X.K y)) /\
   ∀x,foldedSetIterable iter X.e x=pure x:=by
 unfold mQ at q;generalize P:u.N++nQ u.N (gi t)=N at q;generalize A:Qm u.N (gi t)=b at q;generalize I:(nQ u.N (gi t)).length=m at q;split at q
 .rename_i v;rw[aE]at v;obtain⟨z,D,q⟩:=av q;obtain⟨c,d,q⟩:=av q;obtain⟨e,E,q⟩:=av q;have B:BlockOk X o N b m:=DC h v.1;have F:N.Nodup:=aG v.2;have i:=λs H C p=>(h.inn B F s H C p).own (u.own.filter (λx=>!(gi t).contains x))
  have W:vR X t iter f b m z c e/\∀x,foldedSetIterable iter X.e x=pure x:=by obtain⟨L,K,rfl⟩:=aC q;exact⟨Nn (Hj h (G u X h) K),λx=>u0 K _ x⟩
  refine⟨N,b,m,z,c,e,B,W.1,λs H C p=>?_,λs H C p=>?_,λs H C p=>?_,W.2⟩
  .exact y6 h.calm rfl F (λx S=>⟨.inl ((i s H C p).local S),.inr ((i s H C p).local S)⟩) D
  .cases k with
   |nil=>cases d;exact PIfs.none
   |cons a r=>
    cases r with
    |nil=>exact PIfs.one ((G _ _ (i s H C p) a).b c d)
    |cons _ _=>cases d
  .exact (G _ _ (i s H C p) l).v e E
 .cases q
theorem vx{u:Cn}{X:Cx}(h:XOk u X){n:Nat}(G:uo n){e t iter:Expr}{a:Ab}{c:Scope}{k:Pos}{f:EV}(q:mQ u (λv x=>tr v n x) e t iter a c=some f) :
  PE X (.ListComp e [⟨t,iter,a,0⟩] c k) (tV X.K f)/\∀(i:Nat){x:Str}{r o:Pos},X.N.Nodup->swapsWith (.ListComp e [⟨t,iter,a,0⟩] c k) (some (.Name x r)) o.line X.e=pure true->X.N[i]? = some x->L2.Loc X.e.scope x->(X.fn x=true\/X.e.scope.names.lookup x=some .local) ->
   PS X (.Assign [.Name x r] (.ListComp e [⟨t,iter,a,0⟩] c k) o) (f_ X.K (aO i (Y f))):=by
 obtain⟨S,A,m,P,F,K,B,W,d,w,g,j⟩:=vA h G q;exact⟨λp s J H Q I q=>Le B h.calm W d w g (pX B I) j p s J H Q I q,λi x r o N z b y l p s J H D I q=>KR i N B h.calm W d w g (pX B I) z j b y l p s J H D I q⟩
theorem Cw{u:Cn}{o:Expr}{m n:Str}{a c:Pos}(h:N2 u o m n a c=true):m=n/\va o=true/\(a.endLine == c.line)=true:=by unfold N2 at h;simp only[aE]at h;exact⟨aG h.1.1.1,h.1.2,h.2⟩
theorem dB{o:Expr}{x:Str}{env:Env}(h:va o=true):attributeBase o x env (eval o env)=eval o env:=by
 cases o with
 |Call f a k p=>
  cases f with
  |Name x q=>cases k<;>cases h
  |_=>rfl
 |_=>rfl
theorem vM{o:Expr}{x:Str}{env:Env}(s:Ju o=true):attributeBase o x env (eval o env)=eval o env:=by
 unfold Ju at s;rcases Bool.or_eq_true_iff.mp s with h|h
 .exact dB h
 .cases e:zU o with
  |none=>rw[e]at h;cases h
  |some z=>
   rw[e]at h;clear s;obtain⟨f,n⟩:=z;obtain⟨p,c,rfl⟩:=pZ e;cases n with
   |nil=>cases h
   |cons a n=>rfl
theorem F6{a:Ab}{env:Env}{p:Pos}(h:∀e ∈ a,gL e)(l:a.length < 29):methodCallForm (a.length+([]:List Keyword).length) (backTo p (starEach a env)) (backToKw p (keywordEach [] env))=true:=by
 unfold methodCallForm;have s:=mx (env:=env) (p:=p) h;have n:(backTo p (starEach a env)).all (λx=>!x.1)=true:=by
  rw[bj];intro x f;cases b:x.1 with
  |false=>rfl
  |true=>have:(backTo p (starEach a env)).any (·.1)=true:=om.mpr ⟨x,f,b⟩;rw[s]at this;cases this
 rw[n];have k:(backToKw p (keywordEach [] env))=[]:=rfl;rw[k];simp;lia
theorem BB{u:Cn}{X:Cx}(h:XOk u X){n:Nat}(g:∀x,Good X x (tr u n x)){o:Expr}{m:Str}{r:Ab}{p k:Pos}:Good X (.Call (.Attribute o m p) r [] k) (NW u (tr u n o).e o m (r.map λx=>(tr u n x).e) p k):=by
 unfold NW;split
 .rename_i c;simp only[aE]at c;have l:r.length < 29:=by have:=aG c.2;rwa [d3]at this
  refine .ofE (λf q=>?_) λ_ _=>rfl;obtain⟨x,t,q⟩:=av q;obtain⟨a,v,rfl⟩:=aC q;obtain⟨d,s⟩:=oz (λe _=>g e) v;have b:=Jc (o:=o) (z:=m) (y:=p) (B:=k) (v:=r) (k:=X.e) (vM c.1.1) (F6 s l) c.1.2;cases r with
  |nil=>cases v;exact HI h.meths ((g o).e x t) b
  |cons e i=>exact K7 h.meths ((g o).e x t) d (s e aM _ _) (mx λy w=>s y (aW _ w)) b
 .exact .no
theorem FP{u:Cn}{X:Cx}(h:XOk u X){f:Str}{g:GF}{a:Expr}{s:Ab}{x:AW}{b p:Pos}(q:u.I f=some g)(hk:cH u.ks f [.globalImplicit]=true)(d:jM f=true)(m:PA X (a::s) (BI X.K x))(n:∀e ∈ a::s,gL e) :
  PE X (.Call (.Name f b) (a::s) [] p) (tE X.K (vq g f x)):=by
 obtain⟨C,k,l,y,z,c,v,mk,G,w,r⟩:=h.mks f g q;have i:=n a aM s X.e;have j:=mx (env:=X.e) (p:=p) λe t=>n e (aW _ t);exact K8 mk G w (h.gl hk) v c r m (ga d).1 i j
theorem Ds{g:List Comprehension}{t iter:Expr}{i:Ab}(h:Ot g=some (t,iter,i)):g=[⟨t,iter,i,0⟩]:=by
 obtain⟨⟨a,b,c,d⟩,x,p⟩:=av h;split at p
 .rename_i e;cases p;cases (show d=0 from e);exact i5 x
 .cases p
section
variable{u:Cn}{X:Cx}(h:XOk u X){n:Nat}(g:∀x,Good X x (tr u n x))
include h g
theorem HU{f:Str}{m:Ab}{j i:Pos}:Good X (.Call (.Name f j) m [] i) (QD u (λx=>tr u n x) f m):=by
 refine .ite (λc=>?_) .no;simp only[aE,lU]at c;cases m with
 |nil=>cases c.2
 |cons a m=>
 have p:Good X (.Call (.Name f j) (a::m) [] i) (.ofV ((rh f).bind λg=>(qh ((a::m).map λx=>(tr u n x).v)).map λx=>au g x)):=by refine .ofV (λf q=>?_) λ_ _=>rfl;obtain⟨o,s,q⟩:=av q;obtain⟨x,r,rfl⟩:=aC q;obtain⟨k,b⟩:=iX (s:=a::m) (λe _=>g e) r;exact DA h s c.1.1 k b
 refine .el (λH w=>?_) λ_=>.el (λH w=>?_) λ_=>.el (λl v=>?_) λ_=>.el (λ⟨l,t⟩ v=>?_) λ_=>p
 .refine .ofE (λf q=>?_) λ_ _=>rfl;obtain⟨x,s,rfl⟩:=aC q;obtain⟨k,b⟩:=oz (λe _=>g e) s;exact FP h w c.1.1 c.1.2 k b
 .refine .ofV (λf q=>?_) λ_ _=>rfl;obtain⟨x,s,rfl⟩:=aC q;obtain⟨k,b⟩:=iX (λe _=>g e) s;exact Gn h w c.1.1 c.1.2 k b
 .cases i5 v;refine .ite (λS=>?_) ?_
  .subst S;refine .ofV (λf q=>?_) λ_ _=>rfl
   obtain⟨x,s,rfl⟩:=aC q;exact OU (h.gl c.1.1) (h.blt _ (by decide)) ((g _).e x s) ((tB s).st _ _)
  .refine .ofV (λf q=>?_) λ_ _=>rfl;obtain⟨o,s,q⟩:=av q;obtain⟨x,r,rfl⟩:=aC q;obtain⟨k,b⟩:=iX (s:=[a]) (λe _=>g e) r;exact DA h s c.1.1 k b
 .refine .ite (λd=>?_) p;clear p;rw[aE]at d;cases aG d.1;obtain⟨⟨k,b⟩,y,F⟩:=av v;obtain⟨P,z,K⟩:=aC F;cases K;obtain⟨A,rfl⟩:=jP z;cases ku y;refine .el (λT s=>?_) λ_=>.no;refine .ofV (λf q=>?_) λ_ _=>rfl;obtain⟨x,r,rfl⟩:=aC q;exact Jt h s c.1.1 d.2 ((g _).e x r) (tB r).st
theorem HW{o:Expr}{m:Str}{t:Ab}{j l:Pos}:Good X (.Call (.Attribute o m j) t [] l) (QE u (λx=>tr u n x) o m j t l):=by
 have H:X.A.units+1 < cLine:=by have:=h.hu;lia
 refine .el (λa w=>?_) λ_=>?_
 .cases i5 w;refine .ite (λc=>?_) (.ite (λc=>?_) (.ite (λc=>?_) (BB h g)))
  .obtain⟨rfl,v,d⟩:=Cw c;refine .ofE (λf q=>?_) λ_ _=>rfl;obtain⟨x,s,q⟩:=av q;obtain⟨y,e,rfl⟩:=aC q;exact EC ((g _).e x s) ((g _).e y e) ((tB e).st _ _) (dB v) d
  .simp only[aE]at c;cases aG c.1.1;refine .ofV (λf q=>?_) λ_ _=>rfl;obtain⟨x,s,q⟩:=av q;obtain⟨y,e,rfl⟩:=aC q;exact EA ((g _).v x s) ((g _).v y e) ((ie e).st _ _) (dB c.1.2) c.2
  .simp only[aE]at c;cases aG c.1.1;refine .ofV (λf q=>?_) λ_ _=>rfl;obtain⟨x,s,q⟩:=av q;obtain⟨y,e,rfl⟩:=aC q;exact HF ((g _).v x s) ((g _).v y e) ((ie e).st _ _) (dB c.1.2) c.2
 .refine .ite (λc=>?_) (.ite (λc=>.el (λ⟨a,b⟩ w=>?_) λ_=>.no) (BB h g))
  .rw [aE]at c;obtain⟨rfl,v,d⟩:=Cw c.1;cases t with
   |cons _ _=>cases c.2
   |nil=>refine .ofE (λf q=>?_) λ_ _=>rfl;obtain⟨x,s,rfl⟩:=aC q;exact OO ((g _).e x s) (dB v) d
  .simp only[aE]at c;cases aG c.1.1;cases ku w;refine .el (λS hk=>?_) λ_=>?_
   .obtain⟨x,p,rfl,F,K,P⟩:=tab_of h hk;refine .ofV (λf q=>?_) λ_ _=>rfl;obtain⟨y,e,q⟩:=av q;obtain⟨z,k,rfl⟩:=aC q;have i:starEach [b] X.e=[(false,eval b X.e)]:=(ie k).st _ _;have r:starEach [a,b] X.e=[(false,eval a X.e),(false,eval b X.e)]:=by rw[(ie e).st,i]
    exact HE F K P ((g _).v y e) ((g _).v z k) ⟨rfl,by rw[r];rfl,c.2,by rw[r];rfl⟩
   refine .ofV (λf q=>?_) λ_ _=>rfl;obtain⟨x,s,q⟩:=av q;obtain⟨y,e,q⟩:=av q;obtain⟨z,k,rfl⟩:=aC q;have i:starEach [b] X.e=[(false,eval b X.e)]:=(ie k).st _ _;have r:starEach [a,b] X.e=[(false,eval a X.e),(false,eval b X.e)]:=by rw[(ie e).st,i]
   exact HH H ((g _).v x s) ((g _).v y e) ((g _).v z k) ⟨dB c.1.2,by rw[r];rfl,c.2,by rw[r];rfl⟩
end
theorem pf:∀n,uo n
 |0=>λu X h e=>Good.no
 |n+1=>by
  have G:=pf n;intro u X h e;have g:=G u X h;cases e with
  |Constant c k p=>
   cases c with
   |int i=>exact .ofV (λf q=>by cases q;exact OY) λ_ _=>rfl
   |bool i=>exact .ofV (λf q=>by cases q;exact Q5) λ_ _=>rfl
   |none=>exact .ofV (λf q=>by cases q;exact OR) λ_ _=>rfl
   |str i=>exact .ofV (λf q=>by cases q;exact K5) λ_ _=>rfl
   |_=>exact .no
  |Name x p=>
   refine .ite (λd=>?_) (.ite (λd=>?_) .no)
   .rw [aE]at d;refine .ofE (λf q=>?_) λ_ _=>rfl;obtain⟨i,r,rfl⟩:=aC q;exact OL i (h.get r) (h.vis d.1) (ga d.2).1 (ga d.2).2
   .rw [aE]at d;refine .ofV (λf q=>?_) λ_ _=>rfl;obtain⟨v,r,q⟩:=av q;split at q
    .cases q
    .rename_i Z;cases q;exact Lb (h.gl d.1) ((h.glb _ v r).1 (by simpa using Z)) (ga d.2).1
  |BinOp a j b p=>refine .ofV (λf q=>?_) λ_ _=>rfl;obtain⟨o,r,q⟩:=av q;obtain⟨x,t,q⟩:=av q;obtain⟨y,w,rfl⟩:=aC q;exact Q2 (JY h r) ((g _).v x t) ((g _).v y w)
  |UnaryOp j a p=>
   cases j with
   |USub=>refine .ofV (λf q=>?_) λ_ _=>rfl;obtain⟨x,r,rfl⟩:=aC q;exact OS ((g _).v x r)
   |Not=>
    refine .ofB (λf q=>?_) λf q=>?_
    .obtain⟨x,r,rfl⟩:=aC q;exact OI ((g _).b x r)
    .obtain⟨x,r,rfl⟩:=aC q;exact OQ ((g _).w x r)
   |_=>exact .no
  |BoolOp j H p=>exact .ofB (λf q=>(uz (λe _=>g e) q).pt) λf q=>uA (λe _=>g e) q
  |Compare a F P p=>
   refine .el (λj B=>?_) λ_=>?_
   .cases i5 B;refine .el (λb W=>?_) λ_=>.no
    cases i5 W;refine .el (λA r=>?_) λ_=>?_
    .have s:∀f,((tr u n a).v.bind λx=>(tr u n b).v.map λy=>aH A x y)=some f->PE X (.Compare a [j] [b] p) (tV X.K f)/\PT X (.Compare a [j] [b] p) (tQ X.K (bV f)):=λf q=>by
      obtain⟨x,t,q⟩:=av q;obtain⟨y,w,rfl⟩:=aC q;exact⟨O2 (m5 r) ((g _).v x t) ((g _).v y w) ((ie w).mr _),OJ (m5 r) ((g _).v x t) ((g _).v y w) ((ie w).mr _)⟩
     exact .ofC (λf q=>(s f q).1) λf q=>(s f q).2
    .have s:∀f,((JQ j).bind λg=>(tr u n a).e.bind λx=>(tr u n b).e.map λy=>aI g x y)=some f->PE X (.Compare a [j] [b] p) (tV X.K f)/\PT X (.Compare a [j] [b] p) (tQ X.K (bV f)):=λf q=>by
      obtain⟨o,r,q⟩:=av q;obtain⟨x,t,q⟩:=av q;obtain⟨y,w,rfl⟩:=aC q;exact⟨Lg (zQ h r) ((g _).e x t) ((g _).e y w) ((tB w).mr _),KY (zQ h r) ((g _).e x t) ((g _).e y w) ((tB w).mr _)⟩
     exact .ofC (λf q=>(s f q).1) λf q=>(s f q).2
   .have s:∀f,((qg F).bind λo=>(qg P).bind λz=>(KE o.1).bind λg=>(KE o.2).bind λA=>(tr u n a).v.bind λx=>(tr u n z.1).v.bind λy=>(tr u n z.2).v.map λz=>mO g A x y z)=some f->PE X (.Compare a F P p) (tV X.K f)/\PT X (.Compare a F P p) (tQ X.K (bV f)):=λf q=>by
     obtain⟨⟨o1,o2⟩,M,I⟩:=av q;obtain⟨⟨b,c⟩,N,p1⟩:=av I;clear q I;cases ku M;cases ku N;obtain⟨o,r,q⟩:=av p1;obtain⟨o',t,q⟩:=av q;obtain⟨x,w,q⟩:=av q;obtain⟨y,L,q⟩:=av q;obtain⟨z,K,rfl⟩:=aC q;exact⟨HJ (m5 r) (m5 t) ((g _).v x w) ((g _).v y L) ((g _).v z K) ((ie K).ms _ _ _),HD (m5 r) (m5 t) ((g _).v x w) ((g _).v y L) ((g _).v z K) ((ie K).ms _ _ _)⟩
    exact .ofC (λf q=>(s f q).1) λf q=>(s f q).2
  |IfExp c a b p=>
   refine .ite (λ_=>?_) ?_
   .have S:∀f,((tr u n c).b.bind λq=>(tr u n a).e.bind λx=>(tr u n b).e.map λy=>Of q x y)=some f->PE X (.IfExp c a b p) (tE X.K f):=λf q=>by
     obtain⟨o,r,q⟩:=av q;obtain⟨x,t,q⟩:=av q;obtain⟨y,w,rfl⟩:=aC q;exact OZ ((g _).b o r) ((g _).e x t) ((g _).e y w)
    refine⟨λf q=>?_,S,λf q=>(by cases q),λf q=>?_⟩
    .obtain⟨x,r,rfl⟩:=aC (show lF vE _=some f from q);exact NR (S _ r)
    .obtain⟨x,r,rfl⟩:=aC (show lF (λg=>bV (vE g)) _=some f from q);exact uy (NR (S _ r))
   have S:∀f,((tr u n c).b.bind λq=>(tr u n a).v.bind λx=>(tr u n b).v.map λy=>qA q x y)=some f->PE X (.IfExp c a b p) (tV X.K f):=λf q=>by obtain⟨o,r,q⟩:=av q;obtain⟨x,t,q⟩:=av q;obtain⟨y,w,rfl⟩:=aC q;exact Q4 ((g _).b o r) ((g _).v x t) ((g _).v y w)
   refine⟨S,λf q=>?_,λf q=>(by cases q),λf q=>?_⟩
   .obtain⟨x,r,rfl⟩:=aC (show lF Y _=some f from q);exact Km (S _ r)
   .obtain⟨x,r,rfl⟩:=aC (show lF bV _=some f from q);exact uy (S _ r)
  |Tuple H c p=>refine .ofV (λf q=>?_) λ_ _=>rfl;obtain⟨x,r,rfl⟩:=aC q;exact OM (iX (λe _=>g e) r).1
  |List H p=>refine .ofV (λf q=>?_) λ_ _=>rfl;obtain⟨x,r,rfl⟩:=aC q;exact OT (iX (λe _=>g e) r).1
  |JoinedStr H p=>
   refine .ite (λd=>?_) .no;refine .ofV (λf q=>?_) λ_ _=>rfl;obtain⟨x,r,rfl⟩:=aC q;cases H with
   |nil=>cases d
   |cons a H=>
    cases H with
    |nil=>exact absurd d (by simp)
    |cons b H=>exact K' (BC (λe _=>g e) r)
  |FormattedValue a c f p=>
   refine .ite (λd=>?_) .no;rw[aE]at d;cases aG d.1;cases f with
   |some _=>cases d.2
   |none=>refine .ofV (λf q=>?_) λ_ _=>rfl;obtain⟨x,r,rfl⟩:=aC q;exact O0 ((g _).v x r)
  |Dict ks vs p=>refine .ite (λd=>?_) .no;simp only[aE]at d;obtain⟨⟨⟨R,T⟩,D⟩,V⟩:=d;refine .ofV (λf q=>?_) λ_ _=>rfl;obtain⟨l,r,rfl⟩:=aC q;exact Ld (y3 (λe _=>g e) r) R (aG T) (λz=>by rw[z]at D;cases D) (aG V)
  |Subscript a i p=>
   have E:X.A.units+1 < cLine:=by have:=h.hu;lia
   refine .el (λ⟨lo,hi,st⟩ hs=>?_) λ_=>.el (λkvs hk=>?_) λ_=>.ite (λ_=>?_) ?_;case refine_2=>obtain⟨x,p,rfl,t1,t2,t3⟩:=tab_of h hk;refine .ofV (λf q=>?_) λ_ _=>rfl;obtain⟨y,t,rfl⟩:=aC q;exact K0 t1 t2 t3 ((g _).v y t) (ie t).ix
   .obtain⟨p,rfl⟩:=Ie hs;cases st with
    |some _=>exact .no
    |none=>
     refine .ite (λ_=>.no) (.ofV (λf q=>?_) λ_ _=>rfl)
     .obtain⟨x,r,q⟩:=av q;obtain⟨y,t,q⟩:=av q;obtain⟨z,w,rfl⟩:=aC q;exact ON ((g _).v x r) (Bz g t) (Bz g w)
   .refine .ofE (λf q=>?_) λ_ _=>rfl;obtain⟨x,r,q⟩:=av q;obtain⟨y,t,rfl⟩:=aC q;exact OW E ((g _).e x r) ((g _).v y t) (ie t).ix
   .refine .ofV (λf q=>?_) λ_ _=>rfl;obtain⟨x,r,q⟩:=av q;obtain⟨y,t,rfl⟩:=aC q;exact Q3 E ((g _).v x r) ((g _).v y t) (ie t).ix
  |Call fn as ks cp=>
   refine .ite (λhk=>?_) .no;cases oo.mp hk;refine .el (λf hf=>?_) λ_=>.el (λ⟨o,m,ap⟩ B=>?_) λ_=>.no
   .obtain⟨fp,rfl⟩:=jP hf;exact HU h g
   .cases xn B;exact HW h g
  |Attribute o f p=>refine .ite (λd=>?_) .no;refine .ofE (λf q=>?_) λ_ _=>rfl;obtain⟨x,r,rfl⟩:=aC q;exact O1 h.attrs ((g _).e x r) (dB d)
  |ListComp Q gs C p=>refine .el (λ⟨tg,iter,ifs⟩ hz=>?_) λ_=>.no;cases Ds hz;exact .ofV (λf q=>(vx h G q).1) λ_ _=>rfl
  |_=>exact .no
theorem sU{u:Cn}{X:Cx}(h:XOk u X){n k:Nat}{e:Expr}{f:EE}(q:O8 u n k e=some f):PE X e (tE X.K f)/\(jS e=false->∀t l env,swapsWith e t l env=pure false):=by
 have a:=kU q;clear q;rcases a with ⟨b,x,q⟩|⟨_,q⟩
 .obtain⟨p,rfl⟩:=vb x;obtain⟨c,s,rfl⟩:=aC q;exact⟨K_ (oz (λe _=>pf n u X h e) s).1,λ_ _ _ _=>rfl⟩
 .exact⟨(pf n u X h _).e f q,(tB q).sw⟩
end Ev
namespace Ev
open PySem PySem.Spec PyProof.Rows L2
def sS(T:Stmt->Option ES):List Stmt->ES
 | []=>cM
 | [s]=>(T s).getD bH
 |s::r=>ah ((T s).getD bH) (sS T r)
def QC(u:Cn)(n:Nat)(t v:Expr):Option ES:=
 (Ao t).elim ((Ka t).elim ((pe t).bind fun _=>if (pe v).isSome=true then none else (wI u.N u.ks [.local,.cell] t).bind fun g=>(tr u n v).v.map fun z=>tt g z)
   λz=>(tr u n z.1).e.bind λx=>(O8 u n 5 v).map λy=>en u.A x z.2.1 y)
 λx=>if cH u.ks x [.local,.cell]=true then (jw u.N x).bind λi=>if (u.deep.contains x && !jS v)=true then (O8 u n 5 v).map (aO i) else (if u.own.contains x=true then CW v else none).elim ((tr u n v).e.map (aO i)) λe=>(qh (e.map λy=>(tr u n y).v)).map λa=>aO i (zL a)
  else none
def uq(u:Cn):Nat->Stmt->Option ES
 |0,_=>none
 |n+1,st=>match st with
  | .Assign m v _=>(tJ m).bind λt=>QC u n t v
  | .Return r _=>r.elim (some (aV (Y (vC .non)))) λe=>(tr u n e).e.map aV
  | .AugAssign t p v _=>if p.ctorIdx=Operator.Add.ctorIdx then (Ao t).elim ((Ka t).bind λz=>(tr u n z.1).e.bind λx=>(tr u n v).v.map λw=>kO u.A x z.2.1 w)
    (λx=>if cH u.ks x [.local,.cell]=true then (jw u.N x).bind λi=>(tr u n v).v.map λw=>if v.ctorIdx=18 then jn i w else tz i w else none)
   else if p.ctorIdx=Operator.Sub.ctorIdx then (Ao t).bind λx=>if cH u.ks x [.local,.cell]=true then (jw u.N x).bind λi=>(tr u n v).v.map (pk i) else none
   else none
  | .Try o s l f _=>if (l.isEmpty && f.isEmpty && !s.isEmpty)=true then some (sS (uq u n) o) else none
  | .Continue _=>some NY
  | .Raise ..=>some bH
  | .Expr e _=>if jS e=true then none else (tr u n e).e.map aR
  | .If c a b _=>(tr u n c).b.map λq=>bI q (sS (uq u n) a) (sS (uq u n) b)
  | .While c o l _=>if l.isEmpty=false then none else (tr u n c).b.map λq=>dP 1000 q (sS (uq u n) o)
  | .For h iter o l _=>if l.isEmpty=false then none else (wI u.N u.ks [.local,.cell] h).bind λg=>(EU u (λy=>tr u n y) h iter).map λk=>tu k g (sS (uq u n) o)
  |_=>none
theorem Cq{e:Ab}{c:Nat}{p:Pos}{v:Expr}{env:Env}(h:¬(pe v).isSome=true):swappedStores [.Tuple e c p] v env=pure none:=by cases v<;>first|rfl|exact absurd rfl h
theorem ET{u:Cn}{n:Nat}{l:Expr}{g:List Comprehension}{s:Scope}{p:Pos}{f:EE}(h:(tr u n (.ListComp l g s p)).e=some f) :
  ∃k t iter i b,n=k+1/\g=[⟨t,iter,i,0⟩]/\mQ u (λa x=>tr a k x) l t iter i s=some b/\f=Y b:=by
 cases n with
 |zero=>cases h
 |succ n=>
  replace h:((Ot g).elim {} λz=>Tr.ofV (mQ u (λa x=>tr a n x) l z.1 z.2.1 z.2.2 s)).e=some f:=h;cases e:Ot g with
  |none=>rw[e]at h;cases h
  |some z=>rw[e]at h;obtain⟨x,q,rfl⟩:=aC (show lF Y _=some f from h);exact⟨n,_,_,_,x,rfl,Ds e,q,rfl⟩
theorem zI{X:Cx}{T:Stmt->Option ES}(h:∀st f,T st=some f->PS X st (f_ X.K f))(st:Stmt):PS X st (f_ X.K ((T st).getD bH)):=by
 cases q:T st with
 |none=>exact uM.imp' λD J H z=>by obtain⟨F,m,L,S,e,x,a,r,l,q,k⟩:=z;cases q
 |some f=>exact h st f q
theorem iW{X:Cx}{T:Stmt->Option ES}(h:∀st f,T st=some f->PS X st (f_ X.K f)):∀{x:List Stmt},mD X x (f_ X.K (sS T x))
 | []=>KP
 | [s]=>KO (zI h s)
 |s::t::r=>GL (zI h s) (iW h)
theorem HS{u:Cn}{X:Cx}(h:XOk u X)(m:∀x,X.fn x=true){n:Nat}{t l:Expr}{P:Pos}{f:ES}(q:QC u n t l=some f):PS X (.Assign [t] l P) (f_ X.K f):=by
 have g:=pf n u X h;have hu:X.A.units+1 < cLine:=by have:=h.hu;lia
 rcases kU q with ⟨x,D,j⟩|⟨_,j⟩
 .clear q;obtain⟨G,rfl⟩:=jP D;split at j
  .rename_i hk;obtain⟨i,K,q⟩:=av j;clear j;split at q
   .rename_i Q;rw[aE]at Q;obtain⟨N,s,rfl⟩:=aC q;exact Ez i h.nd (sU h s).1 (h.get K) (h.loc hk) ((sU h s).2 (by simpa using Q.2) _ _ _) (.inl (m x))
   .rcases kU q with ⟨C,r,q⟩|⟨_,q⟩
    .split at r
     .obtain⟨a,s,rfl⟩:=aC q;obtain⟨p,rfl⟩:=vb r;exact Ez i h.nd (K9 (iX (λe _=>g e) s).1) (h.get K) (h.loc hk) rfl (.inl (m x))
     .cases r
    obtain⟨N,s,rfl⟩:=aC q;cases w:jS l with
    |false=>exact Ez i h.nd ((g l).e N s) (h.get K) (h.loc hk) ((tB s).sw w _ _ _) (.inl (m x))
    |true=>
     have c:l.ctorIdx=8:=eq_of_beq w;clear q w;revert s;refine Expr.ListComp.elim l c fun a gs c d s=>?_;obtain⟨k,L,iter,y,W,rfl,rfl,F,rfl⟩:=ET s;have M:=vx (k:=d) h (pf k) F;have B:swapsWith (.ListComp a [⟨L,iter,y,0⟩] c d) (some (.Name x G)) P.line X.e=pure (X.e.blockKind == .function && X.e.kindOf x == some .local && G.line == (Expr.ListComp a [⟨L,iter,y,0⟩] c d).pos.line
      && !(c.names.any λ(n,k)=>n == x && (k == .local ||k == .cell))):=rfl
     revert B;generalize (X.e.blockKind == .function && X.e.kindOf x == some .local && G.line == (Expr.ListComp a [⟨L,iter,y,0⟩] c d).pos.line && !(c.names.any λ(n,k)=>n == x && (k == .local ||k == .cell)))=b;intro B;cases b with
     |true=>exact M.2 i h.nd B (h.get K) (h.loc hk) (.inl (m x))
     |false=>exact Ez i h.nd (Km M.1) (h.get K) (h.loc hk) B (.inl (m x))
  .cases j
 have E:=j;rcases kU E with ⟨⟨o,f,R⟩,V,S⟩|⟨_,S⟩
 .clear q j E;cases xn V;obtain⟨x,s,q⟩:=av S;obtain⟨z,F,rfl⟩:=aC q;refine OE h.attrs ((g o).e x s) (sU h F).1 ?_;cases w:jS l with
  |false=>exact(sU h F).2 w _ _ _
  |true=>have c:l.ctorIdx=8:=eq_of_beq w;clear q F S w;exact Expr.ListComp.elim (motive_1:=λv=>swapsWith v (some (.Attribute o f R)) P.line X.e=pure false) l c λ_ _ _ _=>rfl
 .clear q j E;obtain⟨C,r,A⟩:=av S;clear S;obtain⟨c,p,rfl⟩:=pa r;split at A
  .cases A
  .rename_i H;obtain⟨Z,s,q⟩:=av A;obtain⟨z,I,rfl⟩:=aC q;exact OA ((g l).v z I) (y6 h.calm h.hN h.nd (fun x D=>⟨h.loc D,.inl (m x)⟩) s) (show swapsWith l (some (.Tuple C c p)) P.line X.e=pure false from by
    cases w:jS l with
    |false=>exact(ie I).sw w _ _ _
    |true=>have T:l.ctorIdx=8:=eq_of_beq w;clear q I A w H;exact Expr.ListComp.elim (motive_1:=λv=>swapsWith v (some (.Tuple C c p)) P.line X.e=pure false) l T λ_ _ _ _=>rfl) (Cq H) rfl
theorem sT{u:Cn}{X:Cx}(h:XOk u X)(j:∀x,X.fn x=true)(E:PassesOwn (model X.p X.w) X.A X.e X.xe)(A:∀e s,X.xe e s->False):∀n (st:Stmt) (f:ES),uq u n st=some f->PS X st (f_ X.K f)
 |0,st,f,q=>by cases q
 |n+1,st,f,q=>by
  have F:=sT h j E A n;have g:=pf n u X h;cases st with
  |Assign ts v sp=>obtain⟨t,S,d⟩:=av q;clear q;cases i5 S;exact HS h j d
  |Return r p=>
   rcases kU q with ⟨e,S,d⟩|⟨I,q⟩;rotate_left
   .cases I;cases q;exact KL
   cases (show r=some e from S);clear q S
   .obtain⟨x,k,rfl⟩:=aC d;exact OC ((g _).e x k)
  |AugAssign t M v p=>
   cases M with
   |Sub=>
    obtain⟨x,S,d⟩:=av (show((Ao t).bind λx=>if cH u.ks x [.local,.cell]=true then (jw u.N x).bind λi=>(tr u n v).v.map (pk i) else none)=some f from q);clear q;obtain⟨N,rfl⟩:=jP S;split at d
    .rename_i H;obtain⟨i,B,K⟩:=av d;obtain⟨P,k,rfl⟩:=aC K;exact KU i h.nd ((g _).v P k) (h.get B) (h.loc H) (.inl (j x))
    .cases d
   |Add=>
   replace q:(Ao t).elim ((Ka t).bind λz=>(tr u n z.1).e.bind λx=>(tr u n v).v.map λw=>kO u.A x z.2.1 w) (λx=>if cH u.ks x [.local,.cell]=true then (jw u.N x).bind λi=>(tr u n v).v.map λw=>if v.ctorIdx=18 then jn i w else tz i w else none)=some f:=q;rcases kU q with ⟨x,S,d⟩|⟨_,d⟩
   .clear q;obtain⟨N,rfl⟩:=jP S;split at d
    .rename_i H;obtain⟨i,B,K⟩:=av d;obtain⟨P,k,rfl⟩:=aC K;split
     .exact KS i h.nd ((g _).v P k) (h.get B) (h.loc H) (.inl (j x))
     .exact OG i h.nd ((g _).v P k) (h.get B) (h.loc H) (.inl (j x))
    .cases d
   .clear q;obtain⟨⟨o,m,T⟩,L,K⟩:=av d;clear d;cases xn L;obtain⟨x,k,q⟩:=av K;obtain⟨z,R,rfl⟩:=aC q;exact KW h.attrs ((g _).e x k) ((g _).v z R)
   |_=>cases q
  |Try y G l C p=>
   replace q:(if (l.isEmpty && C.isEmpty && !G.isEmpty)=true then some (sS (uq u n) y) else none)=some f:=q;split at q
   .rename_i H;cases q;simp only[aE]at H;cases oo.mp H.1.1;cases oo.mp H.1.2;cases G with
    |nil=>cases H.2
    |cons W G=>exact OB A (iW F)
   .cases q
  |Continue p=>cases q;exact QZ
  |Raise a b p=>cases q;exact HC
  |Expr e p=>
   replace q:(if jS e=true then none else (tr u n e).e.map aR)=some f:=q;split at q
   .cases q
   .rename_i D;obtain⟨x,k,rfl⟩:=aC q;exact KQ ((g _).e x k) ((tB k).sw (by simpa using D) _ _ _)
  |If c a b p=>obtain⟨c,k,rfl⟩:=aC q;exact QY ((g _).b c k) (iW F) (iW F)
  |While c y l p=>
   cases l with
   |cons _ _=>cases q
   |nil=>obtain⟨c,k,rfl⟩:=aC q;exact HB E ((g _).b c k) (iW F)
  |For tg iter y l p=>
   cases l with
   |cons _ _=>cases q
   |nil=>obtain⟨V,Q,q⟩:=av q;obtain⟨Z,k,rfl⟩:=aC q;exact OD E h.calm (Hj h g k) (y6 h.calm h.hN h.nd (λx A=>⟨h.loc A,.inl (j x)⟩) Q) (iW F) λx=>u0 k _ x
  |_=>cases q
end Ev
namespace Ev
open PySem PySem.Spec PyProof.Rows L2
structure Df where
 name:Str
 short:Str
 cls:Str
 st:Stmt
 N:LS
 ps:LS
 own:LS
 deep:LS
noncomputable abbrev At:=List (Str×LS)
noncomputable def aT(T:At)(c f:Str):Bool:=T.any λx=>decide (x.1=c) && x.2.contains f
noncomputable def fT(D:List Df)(h:Str->GF)(x:Str):Option GF:=if (D.any λd=>decide (d.name=x) && d.cls.cps.isEmpty)=true then some (h x) else none
noncomputable def N7(c m:Str)(d:Df):Bool:=decide (d.cls=c) && decide (d.short=m) && !d.cls.cps.isEmpty
def mT(D:List Df)(h:Str->GF)(c m:Str):Option GF:=if m=("__init__":Str) then none else (D.find? (N7 c m)).map λd=>h d.name
def inT(D:List Df)(h:Str->GF)(c:Str):Option GF:=(D.find? (N7 c "__init__")).map λd=>h d.name
noncomputable abbrev P3:=(Str->GF)×(Str->Option GF)
def oO(G:Str->Option P)(T:At)(D:List Df)(p:P3)(d:Df):Cn:=⟨d.N,d.own,d.deep,(aQ d.st).names,fT D p.1,G,aT T,mT D p.1,p.2⟩
def xj(G:Str->Option P)(T:At)(D:List Df)(p:P3)(d:Df):ES:=sS (uq (oO G T D p d) 60) (da d.st)
def eA(G:Str->Option P)(T:At)(D:List Df):Nat->P3
 |0=>(λ_ _ _=>none,λ_=>none)
 | n+1=>(fun x=>match D.find? fun d=>decide (d.name=x) with
  |some d=>bp d.ps.length d.N.length (xj G T D (eA G T D n) d)
  |none=>λ_ _=>none,inT D (eA G T D n).1)
noncomputable def Qs(G:Str->Option P)(T:At)(D:List Df)(n:Nat):Str->GF:=(eA G T D n).1
def NX(d:Df):Bool:=decide ((aQ d.st).kind=.function) && !(aQ d.st).isCoroutine && !(aQ d.st).isGenerator && decide d.N.Nodup && decide (d.N.take d.ps.length=d.ps)
 && d.ps.all (λx=>(aQ d.st).names.lookup x == some .local ||(aQ d.st).names.lookup x == some .cell) && (aQ d.st).names.all (λy=>y.2 != .free)
theorem tj{d:Df}(h:NX d=true):FnScope d.N d.ps (aQ d.st):=by
 unfold NX at h;simp only[aE]at h;obtain⟨⟨⟨⟨⟨⟨a,e⟩,s⟩,n⟩,k⟩,f⟩,b⟩:=h;refine⟨aG a,by simpa using e,by simpa using s,aG n,aG k,λx c=>?_,λy m=>?_⟩
 .have:=bj.mp f x c;simpa using this
 .have:=bj.mp b y m;simpa using this
structure DOk(K:FG)(mg:SV)(d:Df)(f:Addr)(fd:FuncData):Prop where
 fn:Fun K d.short d.name d.st f fd
 bd:Binds K fd d.ps []
 pl:d.cls.cps.isEmpty=true->∃kV doc pm an cdv ct,fd=gc d.short d.name (hU d.st) (da d.st) (aQ d.st) .none kV doc pm an cdv ct
 gl:d.cls.cps.isEmpty=true->mg d.name=some (.ref f)
 cl:d.cls.cps.isEmpty=false->∃C,ib K d.cls C/\mg d.cls=some (.ref C)/\Cls K C/\(d.short=("__init__":Str)->Mk K C f)/\(d.short≠("__init__":Str)->Meth K C d.short f)
structure TOk(w:World)(G:Str->Option P)(T:At)(D:List Df)(K:FG)(mg:SV):Prop where
 fn:∀d ∈ D,∃f fd,DOk K mg d f fd
 sc:D.all NX=true
 un:(D.map (·.name)).Nodup
 z:∀x ∈ DB,mg x=none
 gl:∀x v,G x=some v->d9 w K mg x v
 at':NQ K (aT T)
theorem pO:∀{D:List Df}{d:Df},(D.map (·.name)).Nodup->d ∈ D->(D.find? λe=>decide (e.name=d.name))=some d
 | [],_,_,h=>by cases h
 |a::r,d,x,h=>by
  rw[a6,d4]at x;rcases aU.mp h with h|h
  .subst h;simp
  .have n:¬a.name=d.name:=λz=>x.1 (by rw[z];exact fP.mpr ⟨d,h,rfl⟩);rw[List.find?_cons_of_neg (by simpa using n)];exact pO x.2 h
theorem DH{D:List Df}{x:Str}{a:Str->GF}{g:GF}(h:fT D a x=some g):∃d ∈ D,d.name=x/\d.cls.cps.isEmpty=true/\g=a x:=by
 unfold fT at h;split at h
 .rename_i c;cases h;obtain⟨d,s,e⟩:=om.mp c;rw[aE]at e;exact⟨d,s,aG e.1,e.2,rfl⟩
 .cases h
theorem CV{c m:Str}{d:Df}(h:N7 c m d=true):d.cls=c/\d.short=m/\d.cls.cps.isEmpty=false:=by unfold N7 at h;simp only[aE]at h;exact⟨aG h.1.1,aG h.1.2,by simpa using h.2⟩
theorem DI{D:List Df}{x:Str->GF}{c m:Str}{g:GF}(h:mT D x c m=some g):m≠("__init__":Str)/\∃d ∈ D,d.cls=c/\d.short=m/\d.cls.cps.isEmpty=false/\g=x d.name:=by
 unfold mT at h;split at h
 .cases h
 .rename_i n;obtain⟨d,q,rfl⟩:=aC h;obtain⟨a,e,s⟩:=CV (sr q);exact⟨n,d,sF q,a,e,s,rfl⟩
theorem DJ{D:List Df}{x:Str->GF}{c:Str}{g:GF}(h:inT D x c=some g):∃d ∈ D,d.cls=c/\d.short=("__init__":Str)/\d.cls.cps.isEmpty=false/\g=x d.name:=by unfold inT at h;obtain⟨d,q,rfl⟩:=aC h;obtain⟨a,e,s⟩:=CV (sr q);exact⟨d,sF q,a,e,s,rfl⟩
def NP (G:Str->Option P) (T:At) (D:List Df) (a:Program) (w:World) (K:FG) (x:SV) (base:Heap) (n:Nat):Prop:=(∀d ∈ D,
  ∀f h,Fun K d.short d.name d.st f h->FnOk a w K x base lC n f h d.ps (qF K (Qs G T D n d.name))) /\
  (∀c g,(eA G T D n).2 c=some g->∃m,n=m+1/\∃C f h p,ib K c C/\x c=some (.ref C)/\Mk K C f/\FnOk a w K x base lC m f h p (qF K g)/\Binds K h p [])
theorem wB{G:Str->Option P}{T:At}{D:List Df}{Pg:Program}{w:World}{K:FG}{mg:SV}{base:Heap}(Tk:TOk w G T D K mg){n:Nat}(ih:NP G T D Pg w K mg base n){d:Df}(hd:d ∈ D){f:Addr}(cdv:Value)(hcd:gd K cdv d.name=true)(A:Around)(outer:List Env)(s:Shared)(H:Hp)(E':XK)(hr:Room n (A.deeper (envOfC d.name (aQ d.st) s.heap.objs.size f cdv))) :
  XOk (oO G T D (eA G T D n) d) (ly lC Pg w K mg base d.N d.name (aQ d.st) f cdv A outer s H E').nox:=
 have hsc:=tj (bj.mp Tk.sc d hd)
 {
 hN:=rfl
 nd:=hsc.nd
 ks:=rfl
 kd:=hsc.kind
 calm:=rfl
 hu:=by have:=hr.un;show(A.deeper (envOfC d.name (aQ d.st) s.heap.objs.size f cdv)).units+64 < _;lia
 fns:=λx g hg=>by obtain⟨d',hd',hn,hc,rfl⟩:=DH hg;obtain⟨f',fd',h1⟩:=Tk.fn d' hd';subst hn;exact⟨n,f',fd',d'.ps,(ih.1 d' hd' f' fd' h1.fn),hr,h1.gl hc,h1.fn.kp,h1.bd⟩
 blt:=Tk.z
 glb:=Tk.gl
 attrs:=Tk.at'
 meths:=λc m g hg=>by obtain⟨hm,d',hd',rfl,rfl,hc,rfl⟩:=DI hg;obtain⟨f',fd',h1⟩:=Tk.fn d' hd';obtain⟨C,c1,c2,c3,c4,c5⟩:=h1.cl hc;exact⟨C,n,f',fd',d'.ps,c1,c3,c5 hm,(ih.1 d' hd' f' fd' h1.fn),hr,h1.bd⟩
 mks:=λc g hg=>by obtain⟨m,rfl,C,f',fd',ps,c1,c2,c3,c4,c5⟩:=ih.2 c g hg;exact⟨C,m,f',fd',ps,c1,c2,c3,c4,hr,c5⟩ }
theorem uf{G:Str->Option P}{T:At}{D:List Df}{Pg:Program}{w:World}{K:FG}{mg:SV}{base:Heap}(Tk:TOk w G T D K mg):∀n,NP G T D Pg w K mg base n
 |0=>⟨λd hd f fd hF=>Dh,λc g h=>(by cases (show(none:Option GF)=some g from h))⟩
 |n+1=>by
  have ih:=uf (Pg:=Pg) (w:=w) (base:=base) Tk n;refine⟨λd hd f fd hF=>?_,λc g h=>?_⟩
  .have e:Qs G T D (n+1) d.name=bp d.ps.length d.N.length (xj G T D (eA G T D n) d):=by
    show(match D.find? λd'=>decide (d'.name=d.name) with|some d=>bp d.ps.length d.N.length (xj G T D (eA G T D n) d)|none=>λ_ _=>none)=_;rw[pO Tk.un hd]
   rw[e];have hsc:=tj (bj.mp Tk.sc d hd);refine Dg (N:=d.N) hF hsc λcdv hcd A outer s H E' hr=>?_;exact iW λst f q=>sT (wB Tk ih hd cdv hcd A outer s H E' hr) (λ_=>rfl) lD (λ_ _ z=>z) 60 st f q
  .obtain⟨d,hd,rfl,hs,hc,rfl⟩:=DJ (x:=(eA G T D n).1) h;obtain⟨f,fd,h1⟩:=Tk.fn d hd;obtain⟨C,c1,c2,c3,c4,c5⟩:=h1.cl hc;refine⟨n,rfl,C,f,fd,d.ps,c1,c2,c4 hs,(ih.1 d hd f fd h1.fn),h1.bd⟩
end Ev
namespace Ev
open PySem PySem.Spec PyProof.Rows L2
theorem vc{K:FG}{F:Aa}{H:Hp}:∀s:List Int,cz K F H (s.map .int) (s.map V.int)
 | []=>rfl
 |n::r=>⟨_,_,rfl,rfl,vc r⟩
theorem Jm{K:FG}{H:Hp}{a:Addr}{n:List Int}{g:GF}{E:XK}(e:DO H)(S:jA K H a (n.map V.int))(h:pureOf g [.ro (n.map .int)]=some (.bl true)):qF K g [.ref a] H (λv _=>v=.bl true) E:=by
 refine i0 ⟨λb=>b=a/\H a≠none,[.ro (n.map .int)],.bl true,λb x=>(by rw[x.1];exact x.2),⟨_,_,rfl,⟨a,_,rfl,?_,vc n⟩,rfl⟩,h,λv F k _ r=>r⟩;rcases S with S|S
 .rcases e a with z|z|⟨o,f,z⟩
  .rcases S with S|⟨o,S⟩<;>rw[z]at S<;>cases S
  .rcases S with S|⟨o,S⟩<;>rw[z]at S<;>cases S
  .rcases S with S|⟨s,S⟩
   .rw [z]at S;cases S
   .exact .inl ⟨⟨rfl,by rw[z];exact λq=>nomatch q⟩,s,S⟩
 .exact .inr (.inr S)
end Ev
namespace Ev
open PySem L2
section
variable(L:Lc)(S:aP)
@[simp] theorem Od(i:Nat):U i L S=match L[i]? with|some (some d)=>some (d,S)|_=>none:=rfl
@[simp] theorem NT(r:EE):d_ r L S=bA (r L S) λd h=>match b8 d h with|some n=>some (.int (n:Int),h)|none=>none:=by
 unfold d_;cases r L S with
 |none=>rfl
 |some z=>obtain⟨d,h⟩:=z;rw[p9,p9];cases b8 d h<;>rfl
@[simp] theorem N9(i:Nat)(v:P):cF i v L=some (L.set i (some (.p v))):=rfl
end
@[simp] theorem Qg{h:Type}(x:List h):(few x=true)=(x.length≤1000000):=by unfold few;simp
@[simp] theorem mq(n:Nat):(eO n=true)=(n≤1000000):=by unfold eO;simp
theorem dZ{a:Type}{s:List a}{i:Int}{x:a}(e:0≤i)(h:s[i.toNat]? = some x):L2.atI s i=some x:=by have l:=(bK.mp h).1;unfold L2.atI L2.Hi;rw[ac e,ac (by lia)];exact h
@[simp] theorem vN{h:Type}(x:h)(s:List h):L2.atI (x::s) 0=some x:=dZ (by lia) rfl
@[simp] theorem Gz{h:Type}(x y:h)(s:List h):L2.atI (x::y::s) 1=some y:=dZ (by lia) rfl
@[simp] theorem Ou{h:Type}(x y z:h)(s:List h):L2.atI (x::y::z::s) 2=some z:=dZ (by lia) rfl
@[simp] theorem KG{h:Type}(x y z w:h)(s:List h):L2.atI (x::y::z::w::s) 3=some w:=dZ (by lia) rfl
@[simp] theorem Ol(x:List P)(i:Int):bX (.tup x) (.int i)=L2.atI x i:=rfl
@[simp] theorem Om(x:List P)(i:Int):bX (.lst x) (.int i)=L2.atI x i:=rfl
@[simp] theorem Qk(x:List P)(i:Int):bX (.ro x) (.int i)=L2.atI x i:=rfl
@[simp] theorem Oo(k:List d8)(v:List P)(x:Str):bX (.dct k v) (.str x)=fE (.inr x) k v:=rfl
@[simp] theorem Nl(i j:Int):AD (.int i) (.int j)=some (.bl (decide (i=j))):=rfl
@[simp] theorem Nj(i j:Str):AD (.str i) (.str j)=some (.bl (decide (i=j))):=rfl
@[simp] theorem Op(i j:Bool):AD (.bl i) (.bl j)=some (.bl (decide (i=j))):=rfl
@[simp] theorem Oi(i j:Int):Ho (.int i) (.int j)=some (.bl (!decide (i=j))):=rfl
@[simp] theorem Oh(i j:Str):Ho (.str i) (.str j)=some (.bl (!decide (i=j))):=rfl
@[simp] theorem Qj(i j:Bool):Ho (.bl i) (.bl j)=some (.bl (!decide (i=j))):=rfl
@[simp] theorem Nm(i j:Int):mo (.int i) (.int j)=some (.int (i+j)):=rfl
@[simp] theorem Ni(i j:Int):vu (.int i) (.int j)=if hL i j=true then some (.int (i * j)) else none:=rfl
@[simp] theorem Ku(x:List P)(n:Int):ev (.tup x) (.int n)=if (eO (x.length * n.toNat) && decide (n.natAbs < 1000000))=true then some (.tup (List.replicate n.toNat x).flatten) else none:=rfl
@[simp] theorem Kv(x:Str)(n:Int):ev (.str x) (.int n)=vu (.str x) (.int n):=rfl
@[simp] theorem Nh(i:Int):uh (.int i)=some (.int (-i)):=rfl
theorem ao(a n:Nat)(b:ES)(s:List P):pureOf (bp a n b) s=if s.length=a then match b (s.map (λp=>some (.p p))++List.replicate (n-s.length) none) [] with
 |some (.rt d,_,S)=>(y4 9 d S).map (·.1)
 |some (.nx,_,_)=>some .non
 |_=>none else none:=by
 unfold pureOf bp;rw[d3,oi];by_cases h:s.length=a
 .rw [ac h,ac h];show (match IK (b (s.map (fun p=>some (D.p p))++List.replicate (n-s.length) none) []) with
   |some (d,S)=>(y4 9 d S).map (λ(x:P×aP)=>x.1)
   |none=>none)=_
  cases b (s.map (λp=>some (D.p p))++List.replicate (n-s.length) none) [] with
  |none=>rfl
  |some z=>obtain⟨f,L,S⟩:=z;cases f<;>simp[IK]
 .rw [ae h,ae h]
theorem jT{g:kM}{b:ES}{v:P}{r:List P}{L h L2:Lc}{S x:aP}(a:g v L=some h)(e:b h S=some (.nx,L2,x)):dI g b (v::r) L S=dI g b r L2 x:=by simp[dI,a,e]
theorem De{g:kM}{b:ES}{v:P}{r:List P}{L h L2:Lc}{S x:aP}{d:D}(a:g v L=some h)(e:b h S=some (.rt d,L2,x)):dI g b (v::r) L S=some (.rt d,L2,x):=by simp[dI,a,e]
theorem bY{c:EB}{b:ES}{n:Nat}{L L2:Lc}{S h x:aP}(a:c L S=some (true,h))(e:b L h=some (.nx,L2,x)):bh c b (n+1) L S=bh c b n L2 x:=by simp[bh,a,e]
theorem df{c:EB}{b:ES}{n:Nat}{L:Lc}{S h:aP}(x:c L S=some (false,h)):bh c b (n+1) L S=some (.nx,L,h):=by simp[bh,x]
section
variable(L:Lc)(S:aP)
@[simp] theorem N5(a:EV):CQ a L S=bA (a L S) λx h=>match x with | .int n=>if (decide (n.natAbs < 1000000))=true then some (intsFrom 0 n.toNat,h) else none|_=>none:=by
 unfold CQ;cases a L S with
 |none=>rfl
 |some z=>obtain⟨x,h⟩:=z;cases x<;>first|rfl|simp
@[simp] theorem M'(g:List kM)(v:List P):iF g (.tup v) L=md g v L:=rfl
@[simp] theorem Kt(g:List kM)(v:List P):iF g (.lst v) L=md g v L:=rfl
@[simp] theorem M_:md [] [] L=some L:=rfl
@[simp] theorem Ks(g:kM)(s:List kM)(v:P)(h:List P):md (g::s) (v::h) L=match g v L with|some a=>md s h a|none=>none:=rfl
@[simp] theorem O5(v:P):lW (.p v) S=wH v:=rfl
@[simp] theorem NV(b:Bool):wH (.bl b)=some b:=rfl
@[simp] theorem Ln(i:Int):wH (.int i)=some (i != 0):=rfl
@[simp] theorem QM(x y:P):eB (.p x) (.p y) S=(JI x y).map .bl:=rfl
@[simp] theorem QL(x y:P):lA (.p x) (.p y) S=(neD x y).map .bl:=rfl
end
@[simp] theorem Oc(i j:Int):JI (.int i) (.int j)=some (decide (i=j)):=rfl
@[simp] theorem Ob(i j:Str):JI (.str i) (.str j)=some (decide (i=j)):=rfl
@[simp] theorem Qh(i j:Bool):JI (.bl i) (.bl j)=some (decide (i=j)):=rfl
@[simp] theorem N1(i j:Int):neD (.int i) (.int j)=some (!decide (i=j)):=rfl
@[simp] theorem N0(i j:Str):neD (.str i) (.str j)=some (!decide (i=j)):=rfl
@[simp] theorem PY(i j:Bool):neD (.bl i) (.bl j)=some (!decide (i=j)):=rfl
@[simp] theorem KC(i j:Int):aD (.int i) (.int j)=some (.int (i+j)):=rfl
@[simp] theorem bi(x y:Str):aD (.str x) (.str y)=mo (.str x) (.str y):=rfl
@[simp] theorem KA(x y:List P):aD (.lst x) (.lst y)=if eO (x.length+y.length)=true then some (.lst (x++y)) else none:=rfl
@[simp] theorem Ky(i j:Int):ev (.int i) (.int j)=if hL i j=true then some (.int (i * j)) else none:=rfl
@[simp] theorem Kw(x:List P)(n:Int):ev (.lst x) (.int n)=if (eO (x.length * n.toNat) && decide (n.natAbs < 1000000))=true then some (.lst (List.replicate n.toNat x).flatten) else none:=rfl
theorem uS{v:P}(h:ig 20 v=true):neD v v=some false:=by
 unfold neD;have e:eF (pd v) (pd v)=true:=PySem.SeqAt.eqv_refl _ (hJ 20 v h).1;cases q:Ho v v with
 |none=>simp[h,e]
 |some z=>
  cases v with
  |int i=>cases q;simp
  |str i=>cases q;simp
  |bl i=>cases q;simp
  |non=>cases q
  |tup _=>cases q
  |lst _=>cases q
  |ro _=>cases q
  |dct _ _=>cases h
section
variable(L:Lc)(S:aP)
end
section
variable(L:Lc)(S:aP)
end
section
variable{L:Lc}{S:aP}
@[simp high] theorem RC(d:D):U 0 (some d::L) S=some (d,S):=rfl
@[simp high] theorem RB(a:Option D)(i:Nat):U (i+1) (a::L) S=U i L S:=rfl
@[simp ↓ high] theorem Ry{h a:Type}(x y:a):(if few ([]:List h)=true then x else y)=x:=rfl
@[simp ↓ high] theorem Rx{h e:Type}(a:h)(x y:e):(if few ([a]:List h)=true then x else y)=x:=rfl
@[simp ↓ high] theorem Rw{h s:Type}(a e:h)(x y:s):(if few ([a,e]:List h)=true then x else y)=x:=rfl
@[simp ↓ high] theorem Rv{h n:Type}(a e s:h)(x y:n):(if few ([a,e,s]:List h)=true then x else y)=x:=rfl
@[simp ↓ high] theorem Ru{h k:Type}(a e s n:h)(x y:k):(if few ([a,e,s,n]:List h)=true then x else y)=x:=rfl
@[simp ↓ high] theorem Rt{h f:Type}(a e s n k:h)(x y:f):(if few ([a,e,s,n,k]:List h)=true then x else y)=x:=rfl
@[simp ↓ high] theorem Rs{h b:Type}(a e s n k f:h)(x y:b):(if few ([a,e,s,n,k,f]:List h)=true then x else y)=x:=rfl
@[simp ↓ high] theorem Rr{h c:Type}(a e s n k f b:h)(x y:c):(if few ([a,e,s,n,k,f,b]:List h)=true then x else y)=x:=rfl
@[simp high] theorem RS(v:P)(S:aP):y4 9 (.p v) S=some (v,S):=rfl
@[simp ↓ high] theorem QR{h e:Type}(x:Option (h×aP))(f:h->aP->Option e):bA x f=match x with|some (a,S)=>f a S|none=>none:=rfl
@[simp ↓ high] theorem Rk{h:Type}(x y:h):(if true=true then x else y)=x:=rfl
@[simp ↓ high] theorem Rl{h:Type}(x y:h):(if false=true then x else y)=y:=rfl
end
@[simp] theorem PK(a b:String):(Str.ofString a=Str.ofString b)=(a=b):=by rw[rL,rL];exact propext ⟨λh=>String.toList_inj.mp ((List.map_inj_right λ_ _=>Char.toNat_inj.mp).mp (by simpa using h)),λh=>by rw[h]⟩
end Ev
namespace L2
open PySem PySem.Spec PyProof.Rows
theorem z7{k:Type}{M:Model}{A:Around}{t:Sem k}{Q:k->Shared->Prop}{E:VP}{n:Nat}{s:Shared}(f:n≤s.toks)(h:wpAny M A t Q E s):wpAny M A t (λa e=>n≤e.toks/\Q a e) E s:=bC (yG f h) (λ_ _ x=>x) λ_ _ x=>x.2
section
variable{X:Cx}{B:Nat}
def GH(B:Nat)(X:Cx)(e:Expr)(t:TE):Prop:=∀(p:PN)(s:Shared)(J:St)(H:Hp)(Q:VK),B≤s.toks->Inv X p J H s->t J H Q->wpAny (model X.p X.w) X.A (eval e X.e) (EP X p J Q) X.xe s
def Kh(B:Nat)(X:Cx)(st:Stmt)(t:TS):Prop:=∀(p:PN)(s:Shared)(J:St)(H:Hp)(D:Ends),B≤s.toks->Inv X p J H s->t D J H->wpAny (model X.p X.w) X.A (exec st X.e) (SP X p D) X.xe s
def lz(B:Nat)(X:Cx)(st:List Stmt)(t:TS):Prop:=∀(p:PN)(s:Shared)(J:St)(H:Hp)(D:Ends),B≤s.toks->Inv X p J H s->t D J H->wpAny (model X.p X.w) X.A (execs st X.e) (SP X p D) X.xe s
theorem PE.bn{e:Expr}{t:TE}(h:PE X e t):GH B X e t:=λp s J H Q _=>h p s J H Q
theorem PS.bn{e:Stmt}{t:TS}(h:PS X e t):Kh B X e t:=λp s J H Q _=>h p s J H Q
theorem mD.bn{e:List Stmt}{t:TS}(h:mD X e t):lz B X e t:=λp s J H Q _=>h p s J H Q
def KJ(B:Nat)(X:Cx)(e:Ab)(t:TA):Prop:=∀(o:Pos)(p:PN)(s:Shared)(J:St)(H:Hp)(Q:List V->Hp->Prop),B≤s.toks->Inv X p J H s->t J H Q->wpAny (model X.p X.w) X.A (spliced (backTo o (starEach e X.e))) (AP X p J Q) X.xe s
theorem PA.bn{e:Ab}{t:TA}(h:PA X e t):KJ B X e t:=λo p s J H Q _=>h o p s J H Q
theorem GH.imp'{e:Expr}{t u:TE}(h:GH B X e t)(i:∀J H Q,u J H Q->t J H Q):GH B X e u:=λp s J H Q k I q=>h p s J H Q k I (i J H Q q)
def NH(C:Shared->Prop)(X:Cx)(st:Stmt)(t:TS):Prop:=∀(p:PN)(s:Shared)(J:St)(H:Hp)(D:Ends),C s->Inv X p J H s->t D J H->wpAny (model X.p X.w) X.A (exec st X.e) (SP X p D) X.xe s
def Qt(C:Shared->Prop)(B:Nat)(X:Cx)(t iter:Expr)(w:TI):Prop:=∀(p:PN)(s:Shared)(J:St)(H:Hp)(R:It->Hp->Prop),C s->Inv X p J H s->w J H R ->
  wpAny (model X.p X.w) X.A (eval iter X.e) (λv h=>B≤h.toks/\wpAny (model X.p X.w) X.A (pyIter v) (KH X p J t R) X.xe h) X.xe s
def xp(C:Shared->Prop)(B:Nat)(X:Cx)(e:Expr)(t:TE):Prop:=∀(p:PN)(s:Shared)(J:St)(H:Hp)(Q:VK),C s->Inv X p J H s->t J H Q->wpAny (model X.p X.w) X.A (eval e X.e) (λv h=>B≤h.toks/\EP X p J Q v h) X.xe s
def GI(C:Shared->Prop)(B:Nat)(X:Cx)(e:Ab)(t:TA):Prop:=∀(o:Pos)(p:PN)(s:Shared)(J:St)(H:Hp)(Q:List V->Hp->Prop),C s->Inv X p J H s->t J H Q->wpAny (model X.p X.w) X.A (spliced (backTo o (starEach e X.e))) (λv h=>B≤h.toks/\AP X p J Q v h) X.xe s
theorem GH.g{e:Expr}{t:TE}(h:GH B X e t):xp (λs=>B≤s.toks) B X e t:=λp s J H Q k I q=>z7 k (h p s J H Q k I q)
theorem GI.n{e:Ab}{t:TA}(h:GI (λs=>B≤s.toks) B X e t):KJ B X e t:=λo p s J H Q k I q=>bF (h o p s J H Q k I q) λ_ _ z=>z.2
theorem xp.imp'{C:Shared->Prop}{e:Expr}{t u:TE}(h:xp C B X e t)(i:∀J H Q,u J H Q->t J H Q):xp C B X e u:=λp s J H Q k I q=>h p s J H Q k I (i J H Q q)
theorem GI.imp'{C:Shared->Prop}{e:Ab}{t u:TA}(h:GI C B X e t)(i:∀J H Q,u J H Q->t J H Q):GI C B X e u:=λo p s J H Q k I q=>h o p s J H Q k I (i J H Q q)
theorem Ft{C:Shared->Prop}{i:Int}{j:Nat}{p:Pos}:xp C 1 X (.Constant (.int i) j p) (tC (.int i)):=λ_ _ _ H _ _ I h=>yU ⟨yd (bJ _),.int i,H,I.tok _,⟨_,rfl⟩,h⟩
theorem Iy{C:Shared->Prop}{a b:Expr}{t n:TE}{o:Pos}{e:Operator}{r:R2}(w:iC X (binaryOp e) r)(q:PE X a t)(d:xp (λ_=>True) B X b n):xp C B X (.BinOp a e b o) (GR r t n):=by intro p s J H Q _ I h;refine rB (bF (q p s J H _ I h) λv S ⟨x,k,c,l,i⟩=>bF (d p S J k _ trivial c i) λu F ⟨g,y,f,m,z,j⟩=>z7 g (w p F J f x y v u Q m l z j))
theorem NH.imp'{C:Shared->Prop}{st:Stmt}{t u:TS}(h:NH C X st t)(i:∀D J H,u D J H->t D J H):NH C X st u:=λp s J H D k I q=>h p s J H D k I (i D J H q)
theorem Ad{st:Stmt}{r:List Stmt}{t u:TS}(n:Kh B X st t)(b:lz B X r u):lz B X (st::r) (Lr t u):=λp s J H D k I h=>
 rF (bF (z7 k (n p s J H { D with nx:=u D } k I h)) fun f v z=>by
  obtain⟨c,q⟩:=z;cases f with
  |next=>exact q.elim λe ⟨x,a,m⟩=>b p v e x D c a m
  |_=>exact q)
theorem Fe{C:Shared->Prop}{B:Nat}{tg:Expr}{iter:Expr}{y:List Stmt}{wi:TI}{g:TG}{tb:TS}{pos:Pos}(A:PassesOwn (model X.p X.w) X.A X.e X.xe)(hc:X.c=true)(hi:Qt C B X tg iter wi)(hg:PG X tg g)(t:lz B X y tb)
  (hs:∀x,foldedSetIterable iter X.e x=pure x:=by intro _;rfl):NH C X (.For tg iter y [] pos) (LA wi g tb):=by
 intro p s J H D hn0 I h;refine sJ (bF (hi p s J H _ hn0 I h) λv s1 ⟨k1,h1⟩=>bF (z7 k1 h1) λitv s2 z=>?_) hs;obtain⟨k2,h2⟩:=z;obtain⟨it,K,tn,J9,H2,e,I2,T,st2,f2,W,⟨m0,w0⟩,M⟩:=h2;subst e;have q:∀{w:Hp},(∀b ∈ K,w b=none)->∀b ∈ K,mE X p w b:=λhn b t=>⟨hn b t,(f2 b t).2⟩
 refine wm (λn s'=>B≤s'.toks/\∃i S w,Inv X p S w s'/\tn i s'.heap/\(∀b ∈ K,w b=none)/\W i n S w) ?_ m0 ⟨k2,0,J,H2,I2,st2,λb t=>(f2 b t).1,w0⟩;rintro n s3 ⟨k3,i,F,Q,I3,G,P,w3⟩;rcases M i n F Q w3 with ⟨L,qn⟩|⟨go,N,hN,step⟩
 .refine de A (bF (T.done X rfl rfl rfl hc i p s3 F Q X.xe I3 (q P) G L) λr s4 z=>?_);obtain⟨hr,I4⟩:=z;subst hr;exact jF ⟨F,Q,I4,qn⟩
 .refine de A (bF (z7 k3 (T.item X rfl rfl rfl hc i p s3 F Q X.xe I3 (q P) G go)) λr s4 z=>?_);obtain⟨k4,u,hr,h4⟩:=z;subst hr;refine de A (bF (z7 k4 h4) λ_ s5 z=>?_);obtain⟨k5,x,H5,I5,r5,y5,l,Z⟩:=z;have V:=I5.pinned (q Z) (T.obj _ _ l);refine de A (bF (z7 k5 (hg _ s5 F H5 x u _ V r5 (step x H5 y5))) λ_ s6 z=>?_);obtain⟨k6,J6,H6,I6,q6⟩:=z;refine de A (bF (z7 k6 (t _ s6 J6 H6 _ k6 I6 q6)) λf R z=>?_);obtain⟨k7,j⟩:=z;have again:∀{c:St}{a:Hp},Inv X (p++jK K s5.heap) c a R->N c a->∃m,m < n/\B≤R.toks/\∃i S w,Inv X p S w R/\tn i R.heap/\(∀b ∈ K,w b=none)/\W i m S w:=λ{c a} k E=>by
   obtain⟨m',hm,w7⟩:=hN c a E;refine⟨m',hm,k7,i+1,c,a,k.unpinned,T.keep _ _ _ l λb t o e=>(k.pin (b,o) (b5 _ (b5 _ (dj t e)))).1,λb t=>?_,w7⟩;obtain⟨o,e,d⟩:=T.obj _ _ l b t;exact(k.pin (b,o) (b5 _ (b5 _ (dj t e)))).2.1
  cases f with
  |next=>obtain⟨c,a,k,E⟩:=j;exact again k E
  |cont=>obtain⟨c,a,k,E⟩:=j;exact again k E
  |brk=>obtain⟨c,a,k,j⟩:=j;exact⟨c,a,k.unpinned,j⟩
  |ret v=>obtain⟨x7,c,a,k,r7,j⟩:=j;exact⟨x7,c,a,k.unpinned,r7,j⟩
theorem Cg{C:Shared->Prop}{B:Nat}{e:Expr}{a:Ab}{f:TE}{t:TA}(q:xp C B X e f)(v:KJ B X a t)(d:starEach (e::a) X.e=(false,eval e X.e)::starEach a X.e:=by rfl):GI C B X (e::a) (GS f t):=by intro o p s J H Q n I h;rw[d];show wpAny _ _ (spliced ((false,eval e X.e)::backTo o (starEach a X.e))) _ _ s;refine eC (bF (q p s J H _ n I h) λu y z=>?_);obtain⟨k,x,b,m,j,g⟩:=z;exact bF (z7 k (v o p y J b _ k m g)) λK F z=>by obtain⟨w,S,c,r,l,i⟩:=z;exact⟨w,x::S,c,r,.cons j l,i⟩
theorem Fq{C:Shared->Prop}{B:Nat}{f:Ab}{t:TA}{o:Pos}(h:GI C B X f t):xp C B X (.List f o) (Lz t):=by intro p s J H Q n I m;refine wj (bF (h o p s J H _ n I m) λw x v=>?_);obtain⟨d,g,a,k,r,z,q⟩:=v;refine⟨by rw[<- r.length];exact z,?_⟩;have c:a x.heap.objs.size=none:=k.h.fresh (aq _);refine⟨d,.ref x.heap.objs.size,cJ a x.heap.objs.size (.lst g),k.laid (t':=x.toks) (λb u e=>aJ _ e) (aq _) ?_,rfl,q _ c⟩;exact⟨z,w,0,r,aS _ rfl⟩
structure FnOkN(n0:Nat)(P:Program)(w:World)(K:FG)(mg:SV)(base:Heap)(CX:vW)(k:Nat)(f:Addr)(fd:FuncData)(ps:LS)(sp:Sp):Prop where
 len:∀vs H Q E,sp vs H Q E->vs.length=ps.length
 run:∀(A:Around)(outer:List Env)(s:Shared)(H:Hp)(args:Args)(us:LV)(vs:List V)(Q:VK)(E:XK),n0≤s.toks->Room k A->Env0 P w K mg base A outer s H->BindsTo s fd args (ps.zip us)->a8 vs us->sp vs H Q E->codeAny (model P w) A (.call (.ref f) args) (CR CX outer P w H s Q E) s
theorem E6{B:Nat}{X:Cx}{C:vW}{k:Nat}{f:Addr}{c:FuncData}{b:LS}{t:Sp}{d:List V}{a:LV}{E:XK}{p:PN}{J:St}{H:Hp}{s:Shared}{Q:VK}{x:LV}{v:List V}(F:FnOkN B X.p X.w X.K X.g X.b C k f c b t)(j:Room k X.A)(w:Binds X.K c b a)(g:a8 d a)(y:jm C X E)
  (n:B≤s.toks) (I:Inv X p J H s) (r:a8 v x) (h:t (v++d) H Q E):wpAny (model X.p X.w) X.A (call (.ref f) x) (EP X p J Q) X.xe s:=by
 have m:a8 (v++d) (x++a):=r.append g;have i:(x++a).length=b.length:=by rw[<- m.length];exact F.len _ _ _ _ h
 refine sK (oV (F.run X.A X.k s H ⟨x,[]⟩ (x++a) (v++d) Q E n j I.env0 (w s x I.kIn i) m h) λr z q=>?_);cases r with
 |error e=>exact y p J H s e z I q
 |ok l=>
  cases l with
  |ret u=>exact I.after q
  |next=>exact False.elim q
  |brk=>exact False.elim q
  |cont=>exact False.elim q
theorem Cd{B:Nat}{X:Cx}{C:vW}{k:Nat}{f:Addr}{v:FuncData}{w:LS}{u:Sp}{d:List V}{m:LV}{E:XK}{x:Str}{p o:Pos}{e:Expr}{a:Ab}{t:TA}(F:FnOkN B X.p X.w X.K X.g X.b C k f v w u)(P:Room k X.A)(S:Gl X x)(K:X.g x=some (.ref f))(hk:eT X.K (.ref f)=true)(j:Binds X.K v w m)(y:a8 d m)(A:jm C X E)
  (g:KJ B X (e::a) t) (b:(x == ("__debug__":Str))=false:=by decide) (z:starEach (e::a) X.e=(false,eval e X.e)::starEach a X.e:=by rfl) (l:(backTo o (starEach a X.e)).any (·.1)=false:=by rfl) :
  GH B X (.Call (.Name x p) (e::a) [] o) (GU u d E t):=by
 intro i s J H Q n I h;refine mI (oG I S K ?_ b);refine sn (h₀:=X.b) I.o.mod.kin hk (bF (z7 n (g o i s J H _ n I h)) λN M D=>?_) z l;obtain⟨G,R,L,c,r,q⟩:=D;refine⟨c.kIn,?_⟩;exact E6 F P j y A G c r q
theorem JE{B:Nat}{X:vW}{P:Program}{w:World}{K:FG}{T:SV}{base:Heap}{k:Nat}{f:Addr}{l a:Str}{p:Arguments}{m:List Stmt}{c:Scope}{dV kV D pm d ct oc:Value}{an od:Option Addr}
  {osl:Array (OV)}{N W:LS}{sp:Sp} (lk:K.lookup f=some ⟨oc,od,.func (gc l a p m c dV kV D pm an d ct),osl⟩) (Z:gd K d a=true) (S:FnScope N W c)
  (len:∀g H Q E,sp g H Q E->g.length=W.length)
  (z:∀(A:Around) (h:List Env) (s:Shared) (H:Hp) (g:List V) (Q:VK) (E:XK),Room k (A.deeper (envOfC a c s.heap.objs.size f d))->sp g H Q E ->
   ∃t,lz B (ly X P w K T base N a c f d A h s H E) m t/\t { nx:=λ_ i=>Q .non i,rt:=Q } (start N g) H) :
  FnOkN B P w K T base X (k+1) f (gc l a p m c dV kV D pm an d ct) W sp:=by
 refine⟨len,λA h s H args us g Q E hn0 hr G hb r M=>?_⟩;have hl:=len _ _ _ _ M;have KX:K.In s.heap:=G.mod.kin.keeps λb o e=>(G.bs b o e).1;have lim:s.heap.NoLimit:=G.mod.nolimit.keeps λb o e=>(G.bs b o e).1;have F:∀y ∈ W.zip us,c.names.lookup y.1=some .local\/(c.names.lookup y.1=some .cell/\((cellsFrom (s.heap.objs.size+1) c.names []).lookup y.1).isSome=true):=λ⟨n,v⟩ hy=>by
  rcases S.par n (ol hy).1 with q|q
  .exact .inl q
  .exact .inr ⟨q,wA _ _ _ (.inl q)⟩
 refine A1 hr.depth (KX _ _ lk) rfl S.co S.gen rfl (Bd KX Z) (hb _ _ _ _ ?_);refine wpAny_with_toks hn0 (A7 S.kind F λenv he s1 x k1=>?_);subst he;refine⟨lim.keeps x.toInCall.keep,codeAny_func ?_⟩;obtain⟨t,ht,hq⟩:=z A h s H g Q E (hr.deeper _) M;have I:Inv (ly X P w K T base N a c f d A h s H E) [] (start N g) H s1:=qQ S hr.hd G hl r x;refine bC (ht [] s1 (start N g) H _ k1 I hq) (λfl s' C=>?_) λe s' C=>C;have L:∀{R:St}{i:Hp}{v:V}{u:Value},Inv (ly X P w K T base N a c f d A h s H E) [] R i s'->RelV v u->Q v i->CE h P w H s Q u s':=
  λ{R i v u} j rv q=>⟨v,i,j.os,j.bare,j.base,j.h,rv,q⟩
 cases fl with
 |ret u=>obtain⟨v,R,i,j,rv,q⟩:=C;exact L j rv q
 |next=>obtain⟨R,i,j,q⟩:=C;exact L (v:=V.non) (u:=Value.none) j rfl q
 |brk=>obtain⟨_,_,_,q⟩:=C;exact False.elim q
 |cont=>obtain⟨_,_,_,q⟩:=C;exact False.elim q
theorem lz.nox{X:Cx}{B:Nat}{st:List Stmt}{t:TS}(h:lz B X.nox st t):lz B X st t:=λp s J H D k I w=>
 bC (h p s J H D k (I.wish _) w) (λ_ _ q=>q.unwish) λ_ _ z=>False.elim z
theorem z8{X:Cx}{l:PN}{J:St}{H:Hp}{s:Shared}{M:Model}{A:Around}{E:VP}{i:Nat}{x:Str}{v:V}{u:Value}{Q:Unit->Shared->Prop}(I:Inv X l J H s)(hN:X.N.Nodup)(L:X.N[i]? = some x)(S:X.e.scope.names.lookup x=some .local)(r:RelV v u)
  (h:∀W,Inv X l (J.set i (some v)) H W->(∃m1,W.heap.Ns X.e.locals m1/\m1 x=some u)->Q () W):wpAny M A (storeName X.e x u) Q E s:=by
 obtain⟨m,Z,hl⟩:=id I.loc;have K:(X.e.scope.kind == .class ||(X.e.scope.kind == .module && X.e.locals != X.e.globals))=false:=by rw[I.o.kind];rfl
 have N:i < J.length:=by rw[I.len];exact(bK.mp L).1
 have F:=I.cne;have t:∀{a:Addr}{C:Heap},(∃o,s.heap.get? a=some o/\H a=none)->dC a s.heap C->kN X.p X.w H C:=λ{a C} ha w b ob e=>by
  obtain⟨_,_,f⟩:=ha;refine(I.h b ob e).stay (λc w' D q=>(w.2 c ?_).trans q) (λ_ q=>q) λ_ _ q=>q;rintro rfl;rcases D with rfl|D
  .rw [f]at e;cases e
  .rw [f]at D;cases D
 have hk:=S
 .refine A2 hk Z (λC P w=>?_) K;obtain⟨oL,_,_,T,_⟩:=id Z;refine h _ ⟨I.o,I.os,I.bare,⟨λb o e n G S=>?_,λb o e n G S=>?_,I.base.free,λb o e S=>?_,I.base.tups,I.base.frzs,I.base.tbls⟩,⟨_,P,λj y v' g B e3=>?_⟩,λy c e=>?_,I.free,I.freeC,λp hp=>?_,t ⟨oL,T,I.free⟩ w,by simpa using I.len⟩ ⟨_,P,by simp⟩
  .exact (w.2 b (bg (be (az e) I.o.above))).trans (I.base.keep b o e n G S)
  .obtain⟨sl,g⟩:=I.base.slot b o e n G S;exact⟨sl,(w.2 b (bg (be (az e) I.o.above))).trans g⟩
  .obtain⟨o',g⟩:=I.base.there b o e S;exact⟨o',(w.2 b (bg (be (az e) I.o.above))).trans g⟩
  .by_cases R:j=i
   .subst R;rw[L]at g;cases g;rw[e_ N]at B;cases B;exact⟨u,r,.inl ⟨hk,by simp⟩⟩
   .rw [d5 (bB R)]at B;obtain⟨u',r',q⟩:=hl j y v' g B e3;refine⟨u',r',?_⟩;rcases q with ⟨k,e⟩|⟨k,c,e,z⟩
    .refine .inl ⟨k,?_⟩;have:y≠x:=λe=>R (pC hN g (e ▸ L));simp[this,e]
    .exact .inr ⟨k,c,e,z.sameBut w (F y c e)⟩
  .obtain⟨w',z⟩:=I.cell y c e;exact⟨w',z.sameBut w (F y c e)⟩
  .obtain⟨e,n,ne,nf,d⟩:=I.pin p hp;exact⟨(w.2 p.1 ne).trans e,n,ne,nf,d⟩
end
end L2
namespace Ev
open PySem PySem.Spec PyProof.Rows L2
section
variable{X:Cx}
theorem p_{C:Shared->Prop}{B:Nat}{e:Expr}{s:Ab}{f:EV}{a:kB}(j:xp C B X e (tV X.K f))(y:KJ B X s (qi X.K a))(z:starEach (e::s) X.e=(false,eval e X.e)::starEach s X.e:=by rfl):GI C B X (e::s) (qi X.K (ab f a)):=
 (Cg j y z).imp' λJ H Q o=>by obtain⟨F,m,L,S,d,u,r,l,q,k⟩:=o;obtain⟨x,h,g,q⟩:=aj q;obtain⟨I,N,i,q⟩:=aj q;cases q;refine⟨F,m,L,S,x,h,r,l,g,λv t K M n E A=>?_⟩;refine⟨t,K,L,h,I,u,E,l.mono n,i,λc p P w b G D=>?_⟩;exact k (v::c) p P w (n.trans b) G ⟨v,c,rfl,RP.mono b A,D⟩
theorem GN{C:Shared->Prop}{B:Nat}{e:Ab}{f:kB}{o:Pos}(h:GI C B X e (qi X.K f)):xp C B X (.List e o) (tV X.K (gg f)):=(Fq h).imp' λJ H Q z=>by
 obtain⟨F,m,L,S,d,s,r,l,q,k⟩:=z;obtain⟨w,i,n,q⟩:=aj q;split at q
 .rename_i b;cases q;refine⟨F,m,L,S,w,s,r,l,n,λj u c g v t a=>⟨by rw[<- a.length];exact mY b,λp x=>?_⟩⟩;exact k (.ref p) _ c _ (v.trans (dn x).stp) (t.grow (dn x)) (.newLst x a)
 .cases q
theorem HK{B:Nat}{e:Expr}{a:Ab}{t:kB}{o:Pos}{f:Addr}{c:FuncData}{v:LS}{k:Nat}{x:Str}{p:Pos}{g:List P->Option P}(G:FnOkN B X.p X.w X.K X.g X.b lC k f c v (G0 X.K g))(D:Room k X.A)(A:Gl X x)(C:X.g x=some (.ref f))(hk:eT X.K (.ref f)=true)(z:Binds X.K c v [])
  (y:KJ B X (e::a) (qi X.K t)) (d:(x == ("__debug__":Str))=false:=by decide) (K:starEach (e::a) X.e=(false,eval e X.e)::starEach a X.e:=by rfl) (n:(backTo o (starEach a X.e)).any (·.1)=false:=by rfl) :
  GH B X (.Call (.Name x p) (e::a) [] o) (tV X.K (au g t)):=
 (Cd G D A C hk z .nil uP y d K n).imp' λJ H Q h=>by obtain⟨F,m,L,S,j,i,r,l,q,k⟩:=sX h;exact⟨F,m,L,S,j,i,r,l,q,λw u E b s I p=>by show G0 X.K g (w++[]) b Q E0;rw[cg];exact k w u E b s I p⟩
theorem Db{B:Nat}{P:Program}{w:World}{K:FG}{m:SV}{base:Heap}{x u:Str}{st:Stmt}{f:Addr}{n:FuncData}{N a:LS}{k:Nat}{e:Sp}(F:Fun K x u st f n)(S:FnScope N a (aQ st))(len:∀v H Q E,e v H Q E->v.length=a.length)
  (b:∀(c:Value),gd K c u=true->∀(A:Around) (o:List Env) (s:Shared) (H:Hp) (v:List V) (Q:VK) (E:XK),Room k (A.deeper (envOfC u (aQ st) s.heap.objs.size f c))->e v H Q E ->
   ∃t,lz B (ly lC P w K m base N u (aQ st) f c A o s H E).nox (da st) t/\t { nx:=λ_ r=>Q .non r,rt:=Q } (start N v) H):FnOkN B P w K m base lC (k+1) f n a e:=by
 obtain⟨C,D,z,kV,g,G,j,c,y,l,rfl,lk,d⟩:=F.ex;refine JE lk d S len λA o s H v Q E i p=>?_;obtain⟨t,h,q⟩:=b c d A o s H v Q E i p;exact⟨t,h.nox,q⟩
theorem F9{B:Nat}{P:Program}{w:World}{K:FG}{y:SV}{base:Heap}{x u:Str}{st:Stmt}{f:Addr}{i:FuncData}{N p:LS}{k:Nat}{b:ES}(F:Fun K x u st f i)(S:FnScope N p (aQ st))
  (R:∀(c:Value),gd K c u=true->∀(A:Around) (o:List Env) (s:Shared) (H:Hp) (E:XK),Room k (A.deeper (envOfC u (aQ st) s.heap.objs.size f c)) ->
   lz B (ly lC P w K y base N u (aQ st) f c A o s H E).nox (da st) (f_ K b)):FnOkN B P w K y base lC (k+1) f i p (qF K (bp p.length N.length b)):=by
 refine Db F S (λW H Q E h=>?_) (λc n A o s H W Q E T h=>⟨_,R c n A o s H E T,?_⟩)
 .obtain⟨F,m,a,S,d,I,D,r,q,k⟩:=h;rw[<- r.length];unfold bp at q;split at q
  .assumption
  .cases q
 .obtain⟨F,m,a,S,d,I,D,r,q,k⟩:=h;unfold bp at q;split at q
  .cases e:b (a.map some++List.replicate (N.length-a.length) none) S with
   |none=>rw[e]at q;cases q
   |some z=>
    obtain⟨l,L,M⟩:=z;rw[e]at q;refine⟨F,m,_,S,l,L,M,D,r.toSt,e,λX t j g G C l'=>?_⟩;cases l with
    |nx=>cases q;exact k .non t j g G C rfl
    |bk=>cases q
    |ct=>cases q
    |rt Z=>intro v V;cases q;exact k v t j g G C V
  .cases q
theorem QK{C:Shared->Prop}{B:Nat}{tg iter:Expr}{Z:EV}(h:xp C B X iter (tV X.K Z)):Qt C B X tg iter (tI X.K (DV Z)):=by
 intro w s J H R G I ⟨F,m,L,S,vs,S',r,l,q,k⟩;obtain⟨v,E,e1,q⟩:=aj q;refine bF (h w s J H (λx f=>∃d j,Stp F m H d j f/\Rel X.K d f j E/\RP X.K d f v x) G I ⟨F,m,L,S,v,E,r,l,e1,λx d j f n N y=>⟨d,j,n,N,y⟩⟩) λu n M=>?_
 obtain⟨k1,x,f,c,Q,d,j,st,N,y⟩:=M;refine⟨k1,?_⟩;have mk:∀{T:It},Hy X.K T vs d j f->E=S'->R T f:=λit e=>by subst e;exact k _ d j f st N it
 have i:∀{a:Addr}{D:List V},x=.ref a->jA X.K f a D->R (Oz X.K a) f->wpAny (model X.p X.w) X.A (pyIter u) (KH X w J tg R) X.xe n:=λ{a D} e hq q=>by
  subst e;cases Q;obtain⟨P,rv,p,M⟩:=c.list hq;refine mH p.isList ?_;refine⟨n.heap.objs.size,[n.heap.objs.size],_,_,f,rfl,c.kept (t':=n.toks) λb o e=>aJ _ e,qD a _,⟨_,aS _ rfl,rfl,rfl⟩,λb K=>?_,q⟩;have e:b=n.heap.objs.size:=by simpa using K
  subst e;exact c.fpOk (aq _) (c.h.fresh (aq _))
 cases v with
 |lst W=>cases q;obtain⟨a,D,rfl,g,A⟩:=y;exact i rfl g.sq (mk (tU (λF2 m2 H2 s=>(g.kp s.kp).sq) A) rfl)
 |ro W=>cases q;obtain⟨a,D,rfl,g,A⟩:=y;exact i rfl g.sq (mk (tU (λF2 m2 H2 s=>(g.kp s.kp).sq) A) rfl)
 |tup W=>
  cases q;obtain⟨a,D,rfl,g,A⟩:=y;cases Q;obtain⟨P,rv,pp,M⟩:=c.tuple g.sq;refine mJ (show n.heap.IsTuple a P.toArray from pp) ?_;refine⟨n.heap.objs.size,[n.heap.objs.size],_,_,f,rfl,c.kept (t':=n.toks) λb o e=>aJ _ e,o_ a _,⟨_,aS _ rfl,rfl,rfl⟩,λb K=>?_,mk (CO g A) rfl⟩;have e:b=n.heap.objs.size:=by simpa using K
  subst e;exact c.fpOk (aq _) (c.h.fresh (aq _))
 |str z=>
  dsimp only at q;split at q
  .rename_i ha;cases q;cases (show x=.str z from y);obtain⟨t,rfl⟩:=(show ∃t,u=Value.str z t from Q);refine AX ha ?_;refine⟨n.heap.objs.size,[n.heap.objs.size],_,_,f,rfl,c.kept (t':=n.toks) λb o e=>aJ _ e,qC _ z t,⟨_,aS _ rfl,rfl,rfl⟩,λb K=>?_,mk CN rfl⟩;have e:b=n.heap.objs.size:=by simpa using K
   subst e;exact c.fpOk (aq _) (c.h.fresh (aq _))
  .cases q
 |_=>cases q
theorem OP{C:Shared->Prop}{B:Nat}{a b:Expr}{f x:EV}{p:Pos}{o:Operator}{g:P->P->Option P}(n:m9 X (binaryOp o) g)(e:PE X a (tV X.K f))(s:xp (λ_=>True) B X b (tV X.K x)):xp C B X (.BinOp a o b p) (tV X.K (aH g f x)):=
 (Iy n e s).imp' λ_ _ _ h=>ph h
theorem La{C:Shared->Prop}{i:Int}{j:Nat}{p:Pos}:xp C 1 X (.Constant (.int i) j p) (tV X.K (vC (.int i))):=Ft.imp' λJ H Q h=>by obtain⟨F,m,L,S,d,x,r,l,q,k⟩:=h;cases q;exact k _ F m H .refl r rfl
theorem GK{C:Shared->Prop}{B:Nat}{tg iter:Expr}{fi:kB}{g:kM}{b:List Stmt}{w:ES}(hp:PassesOwn (model X.p X.w) X.A X.e X.xe)(hc:X.c=true)(hi:Qt C B X tg iter (tI X.K fi))(hg:PG X tg (gT X.K g))(hb:lz B X b (f_ X.K w))
  (hs:∀x,foldedSetIterable iter X.e x=pure x:=by intro _;rfl):NH C X (.For tg iter b [] pos) (f_ X.K (tu fi g w)):=
 (Fe hp hc hi hg hb hs).imp' λD J H hz=>by
  obtain⟨F,m,L,S,fl,L',S',r,l,q,k⟩:=hz;obtain⟨v,S1,e1,q⟩:=aj q;refine⟨F,m,L,S,v,S1,r,l,e1,fun J9 j A R I r1 it=>?_⟩;refine⟨fun i n T c=>n=v.length-i/\i≤v.length/\∃s a L2 f,Stp j A R s a c/\Rel X.K s c a f/\RL X.K s c a T L2/\dI g w (v.drop i) L2 f=some (fl,L',S'),
   ⟨v.length,rfl,bJ _,j,A,L,S1,.refl,r1,l.mono I,by rw[kt];exact q⟩,?_⟩
  rintro i n T c ⟨rfl,hi,s,a,L2,f,s2,r2,l2,h⟩;obtain⟨go,o⟩:=it s a c s2;by_cases t:i < v.length
  .right;have hv:v[i]? = some v[i]:=by simp[t]
   rw[lS t]at h;obtain⟨hgo,hy⟩:=go i _ hv;refine⟨hgo,λJ3 p=>∃n',n' < v.length-i/\(n'=v.length-(i+1)/\i+1≤v.length/\∃s a L2 f,Stp j A R s a p/\Rel X.K s p a f/\RL X.K s p a J3 L2/\dI g w (v.drop (i+1)) L2 f=some (fl,L',S')),λ_ _ z=>z,λx p y=>?_⟩;obtain⟨Q,gr,p3⟩:=hy x p y;unfold dI at h;cases eg:g v[i] L2 with
   |none=>rw[eg]at h;cases h
   |some V=>
    rw[eg]at h;dsimp only at h;refine⟨Q,a,L2,v[i],V,l2.mono gr.stp,p3,eg,λJ3 l3=>?_⟩;have M:Stp j A R Q a p:=s2.trans gr.stp;have r3:=r2.grow gr;cases eb:w V f with
    |none=>rw[eb]at h;cases h
    |some z=>
     obtain⟨u,W,Z⟩:=z;rw[eb]at h;refine⟨Q,a,V,f,u,W,Z,r3,l3,eb,λJ4 K E H4 N G P=>?_⟩;cases u with
     |nx=>exact⟨v.length-(i+1),by lia,rfl,t,K,E,W,Z,M.trans N,G,P,h⟩
     |ct=>exact⟨v.length-(i+1),by lia,rfl,t,K,E,W,Z,M.trans N,G,P,h⟩
     |bk=>cases h;exact k J4 K E H4 (I.trans (M.trans N)) G P
     |rt d=>cases h;exact k J4 K E H4 (I.trans (M.trans N)) G P
  .left;have e:i=v.length:=by lia
   subst e;rw[lN]at h;cases h;exact⟨o,k T s a c (I.trans s2) r2 l2⟩
end
end Ev
namespace Ev
open PySem PySem.Spec PyProof.Rows L2
theorem wR{r:Program}{w:World}{A:Around}{env:Env}{E:VP}{s:Shared}{o a b:Expr}{g i:Pos}{y v:Str}{R:VP}(n:attributeBase o "replace" env (eval o env)=eval o env)(l:(g.endLine == i.line)=true)
  (j:starEach [a,b] env=[(false,eval a env),(false,eval b env)]) (m:(y == v)=false)
  (h:wpAny (model r w) A (eval o env) (fun u d=>∃z t,u=.str z t/\z.length+(z.length+1) * v.length≤16777216/\wpAny (model r w) A (eval a env) (fun F H=>∃f,F=.str y f/\f≠0 /\
   wpAny (model r w) A (eval b env) (λK S=>∃c,K=.str v c/\c≠0/\f≠c/\∀M k,R (.str (Txt.replace z y v) M) { S with toks:=k }) E H) E d) E s) :
  wpAny (model r w) A (eval (.Call (.Attribute o "replace" g) [a,b] [] i) env) R E s:=by
 refine A5 n (by rw[j];rfl) l rfl (bC h (λu d p=>?_) λ_ _ x=>x);obtain⟨z,t,e,p,C⟩:=p;subst e;refine⟨"str","str.replace",rO,PySem.F.slot_str_replace,PySem.F.type_str_replace,oT d z t,(λ_ e=>nomatch e),?_⟩;rw[j];refine lJ rfl (n_ ?_);refine eC (bC C (λF H ⟨f,P,I,D⟩=>eC (bC D (λK S ⟨c,B,L,q,G⟩=>ki ?_) λ_ _ x=>x)) λ_ _ x=>x);subst P B;exact PySem.SC.replace I L q m p G
section
variable{X:Cx}
@[simp] def EH(a:EV)(y v:Str)(L:Lc)(S:aP):tyV:=bA (a L S) λx h=>match x with
 | .str z=>if decide (z.length+(z.length+1) * v.length≤16777216)=true then some (.str (Txt.replace z y v),h) else none
 |_=>none
theorem K6{o:Expr}{P:EV}{y v:Str}{j K p V:Pos}{N R:Nat}(G:PE X o (tV X.K P))(b:attributeBase o "replace" X.e (eval o X.e)=eval o X.e)(i:(j.endLine == K.line)=true)(f:(y == v)=false) :
  GH 1 X (.Call (.Attribute o "replace" j) [.Constant (.str y) N p,.Constant (.str v) R V] [] K) (tV X.K (EH P y v)):=by
 intro n s J H Q E I ⟨F,m,L,S,d,S',r,l,q,k⟩;obtain⟨w,g,C,q⟩:=aj q;refine wR b i rfl f (bF (z7 E (G n s J H (λx a=>∃h e,Stp F m H h e a/\Rel X.K h a e g/\RP X.K h a w x) I ⟨F,m,L,S,w,g,r,l,C,λx h e a A c p=>⟨h,e,A,c,p⟩⟩)) λu A M=>?_);obtain⟨T,x,a,B,W,h,e,st,c,p⟩:=M;cases w with
 |str z=>
  dsimp only at q;split at q
  .rename_i D;cases q;cases (show x=.str z from p);obtain⟨t,rfl⟩:=W;exact⟨z,t,rfl,aG D,oY ⟨_,rfl,fO T,oY ⟨_,rfl,sf _,bg (d0 _),λZ k'=>⟨.str _,a,B.tok _,⟨Z,rfl⟩,k _ h e a st c rfl⟩⟩⟩⟩
  .cases q
 |_=>cases q
end
end Ev
namespace Ev
open PySem PySem.Spec PyProof.Rows L2
section
variable{r:Program}{w:World}{A:Around}{E:VP}{s:Shared}{env:Env}
theorem y8{x y:Str}{t u:Tok}{Q:VP}(a:(x.length == 0)=false)(e:(y.length == 0)=false)(z:(x++y).length≤sizeLine)(h:Q (.str (x++y) s.toks) { s with toks:=s.toks+1 }) :
  wpAny (model r w) A (binaryOp .Add (.str x t) (.str y u)) Q E s:=PySem.P.add_str (by rw[a,e];exact⟨z,h⟩)
theorem JS{R:VP}{f g q v d:Expr}{z b c:Str}{M S:Tok}{H F:Nat}{a e p n K P B C:Pos}(L:S≠0)(l:S+1≤s.toks)
  (Z:∀(Q:VP) k,Q (.str z M) { s with toks:=k }->wpAny (model r w) A (eval f env) Q E { s with toks:=k })
  (i:∀(Q:VP) k,Q (.str c S) { s with toks:=k }->wpAny (model r w) A (eval g env) Q E { s with toks:=k })
  (j:∀(Q:VP) k,Q (.str c S) { s with toks:=k }->wpAny (model r w) A (eval q env) Q E { s with toks:=k })
  (y:∀(Q:VP) k,Q (.str c S) { s with toks:=k }->wpAny (model r w) A (eval v env) Q E { s with toks:=k })
  (o:∀(Q:VP) k,Q (.str c S) { s with toks:=k }->wpAny (model r w) A (eval d env) Q E { s with toks:=k })
  (G:(b.length == 0)=false) (I:(c.length == 0)=false) (T:(b++c == c)=false) (V:(c++b == c)=false) (l1:(b++c).length≤sizeLine) (l2:(c++b).length≤sizeLine)
  (m1:z.length+(z.length+1) * c.length≤16777216) (m2:(Txt.replace z (b++c) c).length+((Txt.replace z (b++c) c).length+1) * c.length≤16777216)
  (D:starEach [.BinOp (.Constant (.str b) H K) .Add g B,q] env=[(false,eval (.BinOp (.Constant (.str b) H K) .Add g B) env),(false,eval q env)])
  (s2:starEach [.BinOp v .Add (.Constant (.str b) F P) C,d] env=[(false,eval (.BinOp v .Add (.Constant (.str b) F P) C) env),(false,eval d env)])
  (N:attributeBase f "replace" env (eval f env)=eval f env) (n1:(a.endLine == e.line)=true) (n2:(p.endLine == n.line)=true)
  (h:∀m k,R (.str (Txt.replace (Txt.replace z (b++c) c) (c++b) c) m) { s with toks:=k }) :
  wpAny (model r w) A (eval (.Call (.Attribute (.Call (.Attribute f "replace" a) [.BinOp (.Constant (.str b) H K) .Add g B,q] [] e) "replace" p) [.BinOp v .Add (.Constant (.str b) F P) C,d] [] n) env) R E s:=by
 refine wR rfl n2 s2 V (bC (yG l (wR (R:=λu D=>∃k t,D={ s with toks:=k }/\u=.str (Txt.replace z (b++c) c) t) N n1 D T (Z _ s.toks ⟨z,M,rfl,m1,?_⟩))) (λu s3 ⟨k1,k,t,W,X⟩=>?_) λ_ _ x=>x.2)
 .refine rB (oY (i _ (s.toks+1) (y8 G I l1 ⟨_,rfl,sf _,j _ (s.toks+1+1) ⟨S,rfl,L,?_,λm k=>⟨k,m,rfl,rfl⟩⟩⟩)));show s.toks+1≠S;exact fO (be (d0 _) (a9 l (ko _)))
 .subst W X;have k2:S+1≤k:=k1;refine⟨_,t,rfl,m2,rB (y _ k (oY (y8 I G l2 ⟨_,rfl,sf _,o _ (k+1+1) ⟨S,rfl,L,?_,λm k'=>h m k'⟩⟩)))⟩;show k+1≠S;exact fO (be (d0 _) (a9 k2 (ko _)))
def vO(k:Tok):LS->LV->Prop
 | [],u=>u=[]
 |c::s,u=>∃t r,u=.str c t::r/\t≠0/\t+1≤k/\vO k s r
theorem vO.get{k:Tok}:∀{s:LS}{u:LV},vO k s u->∀{i:Nat}{c:Str},s[i]? = some c->∃t,u[i]? = some (.str c t)/\t≠0/\t+1≤k
 |c::s,_,⟨t,r,rfl,h,x,n⟩,0,_,e=>by cases e;exact⟨t,rfl,h,x⟩
 |c::s,_,⟨t,r,rfl,h,x,n⟩,i+1,f,e=>by obtain⟨m,a,b⟩:=vO.get n (i:=i) (c:=f) (by simpa using e);exact⟨m,by simpa using a,b⟩
theorem vO.len{k:Tok}:∀{s:LS}{u:LV},vO k s u->u.length=s.length
 | [],_,h=>by rw[show _=[] from h];rfl
 |c::s,_,⟨t,r,rfl,a,e,x⟩=>by simp[vO.len x]
inductive Cs:Ab->LS->Prop
 |nil:Cs [] []
 |cons {es cs c j p}:Cs es cs->Cs (.Constant (.str c) j p::es) (c::cs)
theorem q_{o:Pos}:∀{e:Ab}{c:LS},Cs e c->∀(s:Shared)(Q:LV->Shared->Prop),1≤s.toks->(∀u k,s.toks≤k->vO k c u->Q u { s with toks:=k })->wpAny (model r w) A (spliced (backTo o (starEach e env))) Q E s
 |_,_,.nil,s,Q,x,h=>ki (h [] s.toks (aq _) rfl)
 | _,_,.cons (j:=j) (p:=p) a,s,Q,x,h=>eC (oY (k:=j) (pos:=p) (q_ a _ _ (a9 x (ko _)) fun u k hk n=>
   h _ k (a9 (ko _) hk) ⟨_,u,rfl,fO x,hk,n⟩))
end
end Ev
namespace Ev
open PySem PySem.Spec PyProof.Rows L2
section
def ny(s:Str->Str->Str)(k:Str->Str->Prop):Str->LS->Prop
 |_,[]=>True
 |x,c::h=>k x c/\ny s k (s x c) h
noncomputable def vF(i h:Nat)(s:Str->Str->Str):Str->L2.St->LS->L2.St
 |_,J,[]=>J
 |x,J,c::a=>vF i h s (s x c) ((J.set h (some (.str c))).set i (some (.str (s x c)))) a
theorem JT{X:Cx}{es:Ab}{h:LS}{fnd g:Str}{j L:Nat}{st:Stmt}{pt pl pos:Pos}{w:Str->Str->Str}{Ok:Str->Str->Prop}(G:PassesOwn (model X.p X.w) X.A X.e X.xe)(S:X.c=true)(hC:Cs es h)(hl:h.length≤100)
  (hN:X.N.Nodup) (h2:X.N[L]? = some g) (hne:j≠L) (k2:X.e.scope.names.lookup g=some .local)
  (hst:∀(p:PN) (s:Shared) (J:L2.St) (H:Hp) (x c:Str) (t:Tok),L2.Inv X p J H s->J[j]? = some (some (.str x))->(∃m,s.heap.Ns X.e.locals m/\m g=some (.str c t))->t≠0->t+1≤s.toks->Ok x c ->
   wpAny (model X.p X.w) X.A (execs [st] X.e) (λf A=>f=.next/\L2.Inv X p (J.set j (some (.str (w x c)))) H A) X.xe s) :
  Kh 1 X (.For (.Name g pt) (.List es pl) [st] [] pos) (λD J H=>∃x,j < J.length/\J[j]? = some (some (.str x))/\ny w Ok x h/\D.nx (vF j L w x J h) H):=by
 intro p s J H D hn I ⟨x,C,hx,hok,hd⟩;refine sJ (wj (q_ hC s _ hn λu k hk hu=>⟨by rw[hu.len];exact a9 hl (by decide),?_⟩));refine mH (items:=u.toArray) ⟨_,aS _ rfl,rfl,_,rfl⟩ ?_;have Z:L2.Inv X p J H { s with heap:=s.heap.push { cls:=.type "list",data:=.seq u.toArray },toks:=k }:=I.kept (t':=k) λb o e=>aJ _ e
 have I2:=Z.kept (t':=k) (h':=(s.heap.push { cls:=.type "list",data:=.seq u.toArray }).push { cls:=.type "list_iterator",data:=.fields #[.ref s.heap.objs.size,.int 0 0] }) λb o e=>aJ _ e;have fa:mE X p H s.heap.objs.size:=I.fpOk (aq _) (I.h.fresh (aq _));have fi:mE X p H (s.heap.push { cls:=.type "list",data:=.seq u.toArray }).objs.size:=Z.fpOk (aq _) (Z.h.fresh (aq _));have hai:s.heap.objs.size≠(s.heap.push { cls:=.type "list",data:=.seq u.toArray }).objs.size:=bg (az (aS s.heap (o:={ cls:=.type "list",data:=.seq u.toArray }) rfl));have ha:Heap.get? ((s.heap.push { cls:=.type "list",data:=.seq u.toArray }).push { cls:=.type "list_iterator",data:=.fields #[.ref s.heap.objs.size,.int 0 0] }) s.heap.objs.size=some { cls:=.type "list",data:=.seq u.toArray }:=aJ _ (aS _ rfl);have hit:Heap.IsListIter ((s.heap.push { cls:=.type "list",data:=.seq u.toArray }).push { cls:=.type "list_iterator",data:=.fields #[.ref s.heap.objs.size,.int 0 0] }) (s.heap.push { cls:=.type "list",data:=.seq u.toArray }).objs.size s.heap.objs.size 0:=⟨_,aS _ rfl,rfl,rfl⟩;generalize (s.heap.push { cls:=.type "list",data:=.seq u.toArray }).objs.size=K at *
 generalize s.heap.objs.size=a at *
 refine wm (λn A=>k≤A.toks/\∃i T l,n=h.length-i/\i≤h.length/\L2.Inv X p l H A/\A.heap.IsListIter K a i/\A.heap.get? a=some { cls:=.type "list",data:=.seq u.toArray }/\j < l.length/\l[j]? = some (some (.str T))/\ny w Ok T (h.drop i)/\D.nx (vF j L w T l (h.drop i)) H) ?_ h.length
  ⟨aq _,0,x,J,rfl,bJ _,I2,hit,ha,C,hx,hok,hd⟩
 rintro n y ⟨k3,i,T,l,rfl,hi,I3,R,M,B,hx3,P,V⟩;obtain⟨f0,f1,f2,f3,f4,f5⟩:=id fi;have L3:y.heap.IsList a u.toArray:=⟨_,M,rfl,_,rfl⟩;by_cases F:i < h.length
 .obtain⟨t,hu1,ht0,htk⟩:=hu.get (i:=i) (c:=h[i]) (by simp[F]);rw[lS F]at P V;have lg:∀r:Heap,r.IsListIter K a (i+1)->dC K y.heap r->wpAny (model X.p X.w) X.A (letOwnedTupleGo (.Name g pt) (.ref K) (.str h[i] t)) (λ_ s4=>s4={ y with heap:=r }) X.xe { y with heap:=r }:=λr d W=>by
   obtain⟨o,eo,co,dd⟩:=id d;exact vf (s:={ y with heap:=r }) eo co dd (by decide) rfl
  refine de G (wo R L3 (x:=.str h[i] t) (by simpa using hu1) fun r d W=>?_);refine de G (bF (lg r d W) fun _ s4 e4=>?_);subst e4;have I4:L2.Inv X p l H { y with heap:=r }:=I3.turned (t':=y.toks) (fun b o q e=>(W.2 b q).trans e) f0 f1 f3 f4 f5;obtain⟨o,eo,co,dd⟩:=id d;have ea:r.get? a=some { cls:=.type "list",data:=.seq u.toArray }:=(W.2 a hai).trans M;have I4':=I4.pinned (fp:=[a,K]) (fun b q=>by
   rcases aU.mp q with rfl|q
   .exact fa
   .cases ov.mp q;exact fi) (λb q=>by
   rcases aU.mp q with rfl|q
   .exact⟨_,ea,λv z=>by cases z⟩
   .cases ov.mp q;exact⟨o,eo,λv z=>by rw[dd]at z;cases z⟩)
  refine de G (bF (z7 (E:=X.xe) k3 (wf (z8 (Q:=λ_ N=>L2.Inv X (p++jK [a,K] r) (l.set L (some (.str h[i]))) H N/\∃m,N.heap.Ns X.e.locals m/\m g=some (.str h[i] t)) I4' hN h2 k2 (show RelV (.str h[i]) (.str h[i] t) from ⟨t,rfl⟩) λN I5 hm=>⟨I5,hm⟩))) λ_ N hz=>?_);obtain⟨k5,I5,hm⟩:=hz;refine de G (bF (z7 k5 (hst _ N _ H T h[i] t I5 (by rw[d5 (bB hne)];exact hx3) hm ht0 (a9 htk k5) P.1)) λf s7 ⟨k7,ef,I7⟩=>?_);subst ef;refine⟨h.length-(i+1),by lia,k7,i+1,_,_,rfl,F,I7.unpinned,d.at λo e=>(I7.pin (K,o) (b5 _ (b5 _ (dj (by simp) e)))).1,(I7.pin (a,_) (b5 _ (b5 _ (dj (by simp) ea)))).1,by simpa using B,e_ (by simpa using B),P.2,V⟩
 .have e:i=h.length:=by lia
  subst e;rw[lN]at V;refine de G (wn (I3.o.hd S) R L3 (by have:=hu.len;simp;lia) λr eb=>?_);exact jF ⟨l,H,I3.turned (t':=y.toks) (λb o q e=>eb b o q e) f0 f1 f3 f4 f5,V⟩
end
end Ev
namespace Ev
open PySem PySem.Spec PyProof.Rows L2
section
noncomputable def jz(b x c:Str):Str:=Txt.replace (Txt.replace x (b++c) c) (c++b) c
def qa(b x c:Str):Prop:=(c.length == 0)=false/\(b++c == c)=false/\(c++b == c)=false/\(b++c).length≤sizeLine/\(c++b).length≤sizeLine/\x.length+(x.length+1) * c.length≤16777216 /\
 (Txt.replace x (b++c) c).length+((Txt.replace x (b++c) c).length+1) * c.length≤16777216
theorem Gj{X:Cx}{n g b:Str}{y:Nat}{A B:Nat}{r d v w N R T V M L j C D E G:Pos}(hb:(b.length == 0)=false)(hN:X.N.Nodup)(P:X.N[y]? = some n)(i:X.e.scope.names.lookup n=some .local)(z:X.e.scope.names.lookup g=some .local)
  (d1:(n == ("__debug__":Str))=false) (l:(g == ("__debug__":Str))=false) (n1:(r.endLine == d.line)=true) (n2:(v.endLine == w.line)=true)
  (hs:swapsWith (.Call (.Attribute (.Call (.Attribute (.Name n j) "replace" r) [.BinOp (.Constant (.str b) A N) .Add (.Name g C) T,.Name g D] [] d) "replace" v) [.BinOp (.Name g E) .Add (.Constant (.str b) B R) V,.Name g G] [] w) (some (.Name n M)) L.line X.e=pure false)
  (a1:attributeBase (.Name n j) "replace" X.e (eval (.Name n j) X.e)=eval (.Name n j) X.e)
  (p:PN) (s:Shared) (J:L2.St) (H:Hp) (x c:Str) (t:Tok) (I:L2.Inv X p J H s) (hx:J[y]? = some (some (.str x))) (hm:∃m,s.heap.Ns X.e.locals m/\m g=some (.str c t)) (ht:t≠0) (S:t+1≤s.toks) (ok:qa b x c) :
  wpAny (model X.p X.w) X.A (execs [.Assign [.Name n M] (.Call (.Attribute (.Call (.Attribute (.Name n j) "replace" r) [.BinOp (.Constant (.str b) A N) .Add (.Name g C) T,.Name g D] [] d) "replace" v) [.BinOp (.Name g E) .Add (.Constant (.str b) B R) V,.Name g G] [] w) L] X.e)
   (λf s'=>f=.next/\L2.Inv X p (J.set y (some (.str (jz b x c)))) H s') X.xe s:=by
 obtain⟨hc,e1,e2,l1,l2,m1,m2⟩:=ok;obtain⟨m,e,a⟩:=hm;obtain⟨m0,K,o⟩:=I.loc;obtain⟨u,ru,lk⟩:=o y n (.str x) P hx (.inl i);obtain⟨Z,rfl⟩:=ru;have F:m0 n=some (.str x Z):=by
  rcases lk with ⟨_,h⟩|⟨h,_⟩
  .exact h
  .rw [show X.e.kindOf n=some .local from i]at h;rcases h with h|h<;>cases h
 refine rF (yQ (JS ht S (M:=Z) (λQ k q=>jE (k8 I.o.kind i K F q) d1) (λQ k q=>jE (k8 I.o.kind z e a q) l) (λQ k q=>jE (k8 I.o.kind z e a q) l) (λQ k q=>jE (k8 I.o.kind z e a q) l) (λQ k q=>jE (k8 I.o.kind z e a q) l) hb hc e1 e2 l1 l2 m1 m2 rfl rfl a1 n1 n2 λW k=>?_) hs);exact lY (I.tok k) hN P (.inl i) (show RelV (.str (jz b x c)) (.str (jz b x c) W) from ⟨W,rfl⟩) (λs2 I2=>jF ⟨rfl,I2⟩) (.inr i)
end
end Ev
namespace Ev
open PySem L2
section
variable(L:Lc)(S:aP)
@[simp] theorem NS(s:List (Str×P))(b:EV):k_ s b L S=bA (b L S) λy h=>match y with | .str k=>(s.lookup k).map λv=>(v,h)|_=>none:=rfl
@[simp] theorem Lj(v:List (Str×P))(a b:EV):qz v a b L S=bA (a L S) λy h=>bA (b L h) λz x=>match y with | .str k=>some ((v.lookup k).getD z,x)|_=>none:=rfl
@[simp] theorem Pu:NY L S=some (.ct,L,S):=rfl
@[simp] theorem Kq:bH L S=none:=rfl
@[simp] theorem Mw:jN L S=some (none,S):=rfl
@[simp] theorem Mv(a:EV):b9 a L S=bA (a L S) λv h=>match v with | .int i=>some (some i,h)|_=>none:=rfl
@[simp] theorem Oe(r:EE):nK r L S=bA (r L S) λd h=>match fk d h with
 |some (i,s)=>match s[s.length-1]? with
  |some x=>some (x,h.set i (.lst s.dropLast))
  |none=>none
 |none=>none:=rfl
@[simp] theorem NZ(i:Nat)(v:EV):tz i v L S=match L[i]? with
 |some (some (.p (.int a)))=>bA (v L S) λy h=>match y with
  | .int b=>some (.nx,L.set i (some (.p (.int (a+b)))),h)
  |_=>none
 |_=>none:=rfl
@[simp] theorem BQ(i:Nat)(v:EV):jn i v L S=match L[i]? with
 |some (some (.p (.str a)))=>bA (v L S) λy h=>match y with
  | .str b=>if eO (a.length+b.length)=true then some (.nx,L.set i (some (.p (.str (a++b)))),h) else none
  |_=>none
 |_=>none:=rfl
@[simp] theorem LW(A:Str->Str->Bool)(o:EE)(f:Str)(v:EV):kO A o f v L S=bA (o L S) λd h=>match d with
 | .ref i=>match h[i]? with
  | some (.ins c m n)=>if A c f=true then (match eQ f m n with
   |some (.p (.int a))=>bA (v L h) λy x=>match y,x[i]? with
    | .int b,some (.ins e k s)=>if (decide (e=c) && decide (k.length < 900))=true then some (.nx,L,x.set i (.ins c (putK f k) (gM f (.p (.int (a+b))) k s))) else none
    |_,_=>none
   |_=>none) else none
  |_=>none
 |_=>none:=rfl
end
theorem wC{c:EB}{b:ES}{n:Nat}{L L2:Lc}{S h x:aP}(a:c L S=some (true,h))(e:b L h=some (.ct,L2,x)):bh c b (n+1) L S=bh c b n L2 x:=by simp[bh,a,e]
end Ev
namespace Ev
open PySem PySem.Spec PyProof.Rows L2
def gC(b:Str):Str->LS->Str
 |x,[]=>x
 |x,c::s=>gC b (jz b x c) s
def zS(b:Str)(i h:Nat):Str->Lc->LS->Lc
 |_,L,[]=>L
 |x,L,c::s=>zS b i h (jz b x c) ((L.set h (some (.p (.str c)))).set i (some (.p (.str (jz b x c))))) s
open Classical in
def BP(b:Str)(c:LS)(i h:Nat):ES:=λL S=>match L[i]? with
 |some (some (.p (.str x)))=>if ny (jz b) (qa b) x c then some (.nx,zS b i h x L c,S) else none
 |_=>none
theorem Hs{K:FG}{F:Aa}{H:Hp}{m:List Addr}{b:Str}{i a:Nat}:∀(s:LS)(x:Str)(J:L2.St)(L:Lc),RL K F H m J L->RL K F H m (vF i a (jz b) x J s) (zS b i a x L s)
 | [],_,_,_,h=>h
 |c::s,x,J,L,h=>Hs s _ _ _ ((h.set (show RD K F H m (.p (.str c)) (.str c) from rfl) a).set (show RD K F H m (.p (.str (jz b x c))) (.str (jz b x c)) from rfl) i)
theorem OF{X:Cx}{b:Str}{c:LS}{i a:Nat}{st:Stmt}(h:Kh 1 X st (λD J H=>∃x,i < J.length/\J[i]? = some (some (.str x))/\ny (jz b) (qa b) x c/\D.nx (vF i a (jz b) x J c) H)):Kh 1 X st (f_ X.K (BP b c i a)):=λp s J H D f I w=>
 h p s J H D f I (by
  obtain⟨F,m,L,S,j,u,g,r,l,q,k⟩:=w;unfold BP at q;split at q
  .rename_i x t;split at q
   .rename_i n;cases q;obtain⟨v,e,d⟩:=l.at' i _ t;cases (show v=.str x from d);exact⟨x,(bK.mp e).1,e,n,k _ F m H .refl r (Hs c x J L l)⟩
   .cases q
  .cases q)
theorem k9 {X:Cx}{B:Nat}{st:Stmt}{t:List Stmt}{f g:ES} (E:Kh B X st (f_ X.K f)) (G:lz B X t (f_ X.K g)):lz B X (st::t) (f_ X.K (ah f g)):=fun o s J H D M I N=>Ad E G o s J H D M I (by
 obtain⟨F,m,L,S,z,j,y,r,l,q,k⟩:=N;cases e:f L S with
 |none=>rw[show ah f g L S=none by unfold ah;rw[e]]at q;cases q
 |some x=>
  obtain⟨K,u,i⟩:=x;cases K with
  |nx=>
   have b:g u i=some (z,j,y):=by have:=q;unfold ah at this;rw[e]at this;exact this
   exact⟨F,m,L,S,.nx,u,i,r,l,e,λw h n v p c a=>⟨h,n,u,i,z,j,y,c,a,b,λC P R A V T Q=>k C P R A (p.trans V) T Q⟩⟩
  |rt d=>
   have b:some (Fl.rt d,u,i)=some (z,j,y):=by have:=q;unfold ah at this;rw[e]at this;exact this
   cases b;exact⟨F,m,L,S,_,_,_,r,l,e,λw h n v p c a=>k w h n v p c a⟩
  |bk=>
   have b:some (Fl.bk,u,i)=some (z,j,y):=by have:=q;unfold ah at this;rw[e]at this;exact this
   cases b;exact⟨F,m,L,S,_,_,_,r,l,e,λw h n v p c a=>k w h n v p c a⟩
  |ct=>
   have b:some (Fl.ct,u,i)=some (z,j,y):=by have:=q;unfold ah at this;rw[e]at this;exact this
   cases b;exact⟨F,m,L,S,_,_,_,r,l,e,λw h n v p c a=>k w h n v p c a⟩)
theorem Bk{X:Cx}{B:Nat}{st:Stmt}{f:ES}(h:Kh B X st (f_ X.K f)):lz B X [st] (f_ X.K f):=by have:=k9 h (KP.bn:lz B X [] (f_ X.K cM));intro p s J H D n I w;refine this p s J H D n I ?_;obtain⟨F,m,L,S,x,a,e,r,l,q,k⟩:=w;refine⟨F,m,L,S,x,a,e,r,l,?_,k⟩;unfold ah;rw[q];cases x<;>rfl
theorem _root_.L2.FnOkN.pure{B:Nat}{P:Program}{w:World}{K:FG}{m:SV}{base:Heap}{f:Addr}{d:FuncData}{p:LS}{k:Nat}{g:GF}(G:FnOkN B P w K m base lC k f d p (qF K g)):FnOkN B P w K m base lC k f d p (G0 K (pureOf g)):=
 ⟨λx H Q E h=>G.len x H Q E (i0 h),λA o s H a u x Q E n r e b v h=>G.run A o s H a u x Q E n r e b v (i0 h)⟩
end Ev
set_option tactic.hygienic false
namespace My
variable{n:Nat}
theorem Oa(h:1≤n):∃m,n=m+1:=⟨n-1,by lia⟩
theorem eK{n:Nat}(h:2≤n):∃m,n=m+2:=⟨n-2,by lia⟩
theorem AS(h:3≤n):∃m,n=m+3:=⟨n-3,by lia⟩
theorem N_(h:4≤n):∃m,n=m+4:=⟨n-4,by lia⟩
open PySem L2 Ev
noncomputable def c_(i:Nat):Stmt:=PySem.Challenge.pw_roadsall_k91_facts_as_texts.main.body.getD i (.Pass ⟨0,0,0,0⟩)
noncomputable def Gv(x:Str):Option P:=if x=("BRACKET_LEVEL":Str) then some (.int 0) else if x=("COMPARISONS":Str) then some (.tup [.str "=",.str "!=",.str "<",.str "<=",.str ">",.str ">="]) else if x=("FACT_WORDS":Str) then some (.tup [.str "or",.str "and",.str "not",.str "true",.str "dry",.str "some",.str "all",.str "each",.str "many",.str "at",.str "when",.str "letters",.str "to",.str "knows",.str "never",.str "always",.str "ahead",.str "of",.str "last",.str "whenever",.str "can"]) else if x=("FIGURES":Str) then some (.str "0123456789") else if x=("HAND_PARTS":Str) then some (.tup [.str "some",.str "all",.str "many"]) else if x=("IS_LEVEL":Str) then some (.int 4) else if x=("KINDS":Str) then some (.dct [.inr "or",.inr "and",.inr "+",.inr "-",.inr "*"] [.str "or",.str "and",.str "plus",.str "minus",.str "times"]) else if x=("KNOWING":Str) then some (.tup [.str "some knows",.str "each knows"]) else if x=("LETTERS":Str) then some (.str "abcdefghijklmnopqrstuvwxyz") else if x=("LEVELS":Str) then some (.dct [.inr "or",.inr "and",.inr "not"] [.int 1,.int 2,.int 3]) else if x=("MARK_LEVELS":Str) then some (.dct [.inr "(",.inr "[",.inr "or",.inr "and",.inr "not",.inr "=",.inr "!=",.inr "<",.inr "<=",.inr ">",.inr ">=",.inr "+",.inr "-",.inr "*"] [.int 0,.int 0,.int 1,.int 2,.int 3,.int 4,.int 4,.int 4,.int 4,.int 4,.int 4,.int 5,.int 5,.int 6]) else if x=("MOST_FIGURES":Str) then some (.int 3) else if x=("MOST_LETTERS":Str) then some (.int 10) else if x=("NOT_LEVEL":Str) then some (.int 3) else if x=("OR_LEVEL_texts":Str) then some (.int 1) else if x=("OR_LEVEL_words":Str) then some (.int 1) else if x=("PLUS_LEVEL":Str) then some (.int 5) else if x=("SIGNS":Str) then some (.dct [.inr "or",.inr "and",.inr "plus",.inr "minus",.inr "times"] [.str "or",.str "and",.str "+",.str "-",.str "*"]) else if x=("SUM_KINDS":Str) then some (.tup [.str "number",.str "name",.str "plus",.str "minus",.str "times"]) else if x=("TREE_LEVELS":Str) then some (.dct [.inr "or",.inr "and",.inr "not",.inr "is",.inr "true",.inr "plus",.inr "minus",.inr "times",.inr "number",.inr "name"] [.int 1,.int 2,.int 3,.int 4,.int 4,.int 5,.int 5,.int 6,.int 7,.int 7]) else if x=("WORDS":Str) then some (.tup [.str "or",.str "and",.str "not",.str "true"]) else none
def kC(x:Str)(t k:Nat)(N o d:LS):Df:=⟨x,x,"",c_ t,N,N.take k,o,d⟩
def j4:Df:=kC "_law_mix" 53 2 ["_law_cell","_law_j","_law_mixed"] [] []
def jc:Df:=kC "_law_name" 54 2 ["_law_cell","_law_j","_law_letters","_law_rest","_law_found","_law_k","_law_words"] ["_law_words"] []
def j3:Df:=kC "_law_sum" 55 2 ["_law_cell","_law_j","_law_drawn","_law_name_here","_law_number","_law_some"] [] []
def eN:Df:=kC "_law_condition" 56 2 ["_law_cell","_law_j","_law_way","_law_word","_law_one"] [] []
def jd:Df:=kC "_law_fact" 57 3 ["_law_cell","_law_at","_law_deep","_law_j","_law_way","_law_one","_law_family","_law_word","_law_sign","_law_number","_law_name_here","_law_condition_here"] [] []
def gv:Df:=kC "_law_within" 60 2 ["_law_tree","_law_close_here","_law_text_here"] [] []
def eU:Df:=kC "_law_sum_text" 58 1 ["_law_tree","_law_word"] [] []
def cW:Df:=kC "_law_condition_text" 59 1 ["_law_tree"] [] []
def ja:Df:=kC "_law_text" 61 1 ["_law_tree","_law_word","_law_here","_law_words","_law_found"] [] []
def im:Df:=kC "shown_sum" 25 1 ["tree","kind"] [] []
def gp:Df:=kC "shown_from" 28 2 ["tree","level","bare","text"] [] []
def gn:Df:=kC "shown_pair" 27 1 ["tree","level","sign","one","other"] [] []
def dS:Df:=kC "shown_condition" 26 1 ["tree","kind","part","word","one","other"] [] []
def dR:Df:=kC "shown_hand_part" 51 1 ["fact","kind","family","room","condition","text","inner","word","number"] [] []
def dq:Df:=kC "shown_from_level" 49 2 ["fact","level","text"] [] []
def eM:Df:=kC "shown_letters" 50 1 ["fact","one","other","mark","word","number","marked"] [] []
def gq:Df:=kC "shown_fact" 48 1 ["fact","kind","part","one","other","word","name","inner"] [] []
def bt:Df:=kC "_law_close" 62 1 ["_law_text_here","_law_found","_law_sign"] [] []
def jb:Df:=kC "_law_same" 63 2 ["_law_found","_law_due","_law_x","_law_y"] [] []
def kJ:Df:=⟨"FactReader.take","take","FactReader",(L2.ar (c_ 46) 2),["self","kind","found","value","spot"],["self","kind"],["self"],[]⟩
def nP:Df:=⟨"Reader.fold","fold","Reader",(L2.ar (c_ 22) 19),["self","level","mark","other","one"],["self","level"],["self"],["self"]⟩
def kL:Df:=⟨"FactReader.fold","fold","FactReader",(L2.ar (c_ 46) 16),["self","level","kind","other"],["self","level"],["self"],["self"]⟩
def iw:Df:=⟨"FactReader.next_kind","next_kind","FactReader",(L2.ar (c_ 46) 1),["self"],["self"],["self"],[]⟩
def jh:Df:=⟨"FactReader.goes_on","goes_on","FactReader",(L2.ar (c_ 46) 7),["self"],["self"],["self"],[]⟩
def j7:Df:=⟨"FactReader.taken","taken","FactReader",(L2.ar (c_ 46) 3),["self","kind"],["self","kind"],["self"],[]⟩
def iy:Df:=⟨"FactReader.keep_part","keep_part","FactReader",(L2.ar (c_ 46) 13),["self","part"],["self","part"],["self"],["self"]⟩
def mm:Df:=⟨"Reader.run_of","run_of","Reader",(L2.ar (c_ 22) 13),["self","signs","end"],["self","signs"],["self"],[]⟩
def nN:Df:=⟨"Reader.keep","keep","Reader",(L2.ar (c_ 22) 18),["self","tree","length"],["self","tree","length"],["self"],["self"]⟩
def nM:Df:=⟨"Reader.push","push","Reader",(L2.ar (c_ 22) 17),["self","mark","wanted"],["self","mark","wanted"],["self"],["self"]⟩
def iH:Df:=⟨"Reader.read_letters","read_letters","Reader",(L2.ar (c_ 22) 4),["self","letters"],["self"],["self"],[]⟩
def gB:Df:=⟨"FactReader.read_amount","read_amount","FactReader",(L2.ar (c_ 46) 11),["self","word"],["self"],["self"],[]⟩
def fY:Df:=⟨"FactReader.read_letters","read_letters","FactReader",(L2.ar (c_ 46) 9),["self","one","other","mark"],["self"],["self"],[]⟩
def fZ:Df:=⟨"FactReader.open_knowing","open_knowing","FactReader",(L2.ar (c_ 46) 12),["self","kind","family"],["self","kind","family"],["self"],["self"]⟩
def fu:Df:=⟨"FactReader.read_hand_part","read_hand_part","FactReader",(L2.ar (c_ 46) 10),["self","kind","family","room","condition","amount"],["self","kind"],["self"],[]⟩
def iu:Df:=⟨"FactReader.read_part","read_part","FactReader",(L2.ar (c_ 46) 8),["self"],["self"],["self"],["self"]⟩
def lq:Df:=⟨"Reader.touches","touches","Reader",(L2.ar (c_ 22) 14),["self"],["self"],["self"],[]⟩
def lu:Df:=⟨"Reader.has_sum","has_sum","Reader",(L2.ar (c_ 22) 15),["self"],["self"],["self"],[]⟩
def jy:Df:=⟨"Reader.read_joint","read_joint","Reader",(L2.ar (c_ 22) 8),["self","word","letters"],["self","word"],["self"],[]⟩
def gS:Df:=⟨"FactReader.read_joint","read_joint","FactReader",(L2.ar (c_ 46) 14),["self","word"],["self","word"],["self"],["self"]⟩
def j8:Df:=⟨"FactReader.close","close","FactReader",(L2.ar (c_ 46) 15),["self","kind","family"],["self"],["self"],["self"]⟩
def gU:Df:=⟨"FactReader.fact_up_to","fact_up_to","FactReader",(L2.ar (c_ 46) 6),["self","end"],["self","end"],["self"],["self"]⟩
def j2:Df:=kC "run_end" 37 3 ["text","spot","signs"] [] []
def gw:Df:=kC "is_pressed" 38 2 ["text","spot"] [] []
def fy:Df:=kC "bracket_end" 40 2 ["text","start","depth","spot"] [] []
def je:Df:=⟨"Reader.skip_blanks","skip_blanks","Reader",(L2.ar (c_ 22) 12),["self"],["self"],["self"],[]⟩
def j6:Df:=⟨"Reader.last_mark","last_mark","Reader",(L2.ar (c_ 22) 16),["self"],["self"],["self"],[]⟩
def kI:Df:=⟨"Reader.read_end","read_end","Reader",(L2.ar (c_ 22) 11),["self"],["self"],["self"],[]⟩
def jf:Df:=⟨"Reader.read_number","read_number","Reader",(L2.ar (c_ 22) 3),["self","figures","length"],["self"],["self"],[]⟩
def gR:Df:=⟨"Reader.read_beginning","read_beginning","Reader",(L2.ar (c_ 22) 2),["self","sign"],["self","sign"],["self"],[]⟩
def j5:Df:=⟨"Reader.read_sign","read_sign","Reader",(L2.ar (c_ 22) 6),["self","sign"],["self","sign"],["self"],[]⟩
def gA:Df:=⟨"Reader.read_comparison","read_comparison","Reader",(L2.ar (c_ 22) 7),["self","sign","mark","word"],["self","sign"],["self"],[]⟩
def gQ:Df:=⟨"Reader.read_round_end","read_round_end","Reader",(L2.ar (c_ 22) 9),["self"],["self"],["self"],["self"]⟩
def gy:Df:=⟨"Reader.read_square_end","read_square_end","Reader",(L2.ar (c_ 22) 10),["self"],["self"],["self"],["self"]⟩
def jg:Df:=⟨"Reader.read_behind","read_behind","Reader",(L2.ar (c_ 22) 5),["self","sign"],["self","sign"],["self"],[]⟩
def nL:Df:=⟨"Reader.read","read","Reader",(L2.ar (c_ 22) 1),["self"],["self"],["self"],[]⟩
def nO:Df:=⟨"Reader.__init__","__init__","Reader",(L2.ar (c_ 22) 0),["self","text","wanted"],["self","text","wanted"],["self"],[]⟩
def ei:Df:=kC "read_condition" 24 1 ["text"] [] []
def eW:Df:=kC "condition_at" 39 2 ["text","spot","start","end","fault","condition"] [] []
def gu:Df:=kC "letters_at" 35 2 ["text","spot","end","letters"] [] []
def gx:Df:=kC "is_made_of" 10 2 ["text","signs"] [] []
def ir:Df:=kC "is_number" 11 1 ["text"] [] []
def iq:Df:=kC "number_at" 36 2 ["text","spot","end"] [] []
def i_:Df:=kC "piece_at" 34 2 ["text","spot","sign","word"] [] []
def ip:Df:=kC "pieces_of" 33 1 ["text","pieces","spot","kind","value","end"] ["pieces"] []
def kK:Df:=⟨"FactReader.__init__","__init__","FactReader",(L2.ar (c_ 46) 0),["self","text"],["self","text"],["self"],[]⟩
def io:Df:=kC "read_fact" 47 1 ["text"] [] []
def bf:Df:=kC "law" 64 1 ["_law_script","_law_cell","_law_fact_here","_law_text_here","_law_found","_law_one"] [] []
noncomputable def Att:At:=[("FactReader",["marks","pieces","spot","trees","wanted"]),("Reader",["marks","sought","spot","text","trees","wanted"])]
def Tb:List Df:=[j4,jc,j3,eN,jd,gv,eU,cW,ja,im,gp,gn,dS,dR,dq,eM,gq,bt,jb,kJ,nP,kL,iw,jh,j7,iy,mm,nN,nM,iH,gB,fY,fZ,fu,iu,lq,lu,jy,gS,j8,gU,j2,gw,fy,je,j6,kI,jf,gR,j5,gA,gQ,gy,jg,nL,nO,ei,eW,gu,gx,ir,iq,i_,ip,kK,io,bf]
noncomputable def Ph(n:Nat):Str->GF:=Qs Gv Att Tb n
def hZ (ψ:Str->GF):ES:=(ah (bI (rn (bV (aH vv (vE (U 0)) (vC (.int 0)))) (bV (aH Hq (vE (U 0)) (aH Gd (vC (.int 10)) (vC (.int 18)))))) (aV (Y (aH gW (aH JP (vE (U 0)) (aH ev (vC (.int 20)) (vE (U 1)))) (vC (.int 1048576))))) cM)
  (ah (aO 2 (Y (aH gW (aH aD (aH ev (vE (U 0)) (aH aD (aH ev (vC (.int 2)) (vE (U 1))) (vC (.int 3)))) (vE (U 1))) (vC (.int 2147483629)))))
  (ah (aO 2 (Y (aH gW (aH ev (aH aD (aH ev (vE (U 2)) (vE (U 2))) (vC (.int 1))) (vC (.int 48271))) (vC (.int 2147483629)))))
  (aV (Y (aH gW (aH ev (vE (U 2)) (vE (U 2))) (vC (.int 2147483587))))))))
theorem vp(n:Nat):Ph (n+2) "_law_mix"=bp 2 3 (hZ (Ph (n+1))):=by kernel_rfl
def fD (ψ:Str->GF):ES:=(ah (aO 4 (Y (aH aD (vE (U 4)) (aH bX (vE (U 2)) (aH gW (vE (U 3)) (vC (.int 26)))))))
  (aO 3 (Y (aH lx (vE (U 3)) (vC (.int 26))))))
def jj (ψ:Str->GF):ES:=(ah (aO 2 (Y (vC (.str "abcdefghijklmnopqrstuvwxyz"))))
  (ah (aO 3 (Y (au (pureOf (ψ "_law_mix")) (ab (vE (U 0)) (ab (vE (U 1)) af)))))
  (ah (aO 4 (Y (vC (.str ""))))
  (ah (tu (CQ (aH aD (vC (.int 1)) (aH gW (au (pureOf (ψ "_law_mix")) (ab (vE (U 0)) (ab (aH aD (vE (U 1)) (vC (.int 1))) af))) (vC (.int 4))))) (cF 5) (fD ψ))
  (ah (bI (bV (aI eB (Y (aH gW (aH lx (au (pureOf (ψ "_law_mix")) (ab (vE (U 0)) (ab (aH aD (vE (U 1)) (vC (.int 1))) af))) (vC (.int 4))) (vC (.int 8)))) (Y (vC (.int 1))))) (aO 4 (Y (aH aD (aH aD (vE (U 4)) (vE (U 4))) (vE (U 4))))) cM)
  (ah (aO 6 (zL (ab (vC (.str "or")) (ab (vC (.str "and")) (ab (vC (.str "not")) (ab (vC (.str "true")) (ab (vC (.str "dry")) (ab (vC (.str "some")) (ab (vC (.str "all")) (ab (vC (.str "each")) (ab (vC (.str "at")) (ab (vC (.str "when")) (ab (vC (.str "many")) (ab (vC (.str "to")) (ab (vC (.str "of")) (ab (vC (.str "can")) af))))))))))))))))
  (ah (aR (cv (U 6) (Y (vC (.str "last")))))
  (aV (Y (jv (aH aD (vE (U 4)) (aH ev (vC (.str "x")) (au iB (ab (aI bb (U 4) (U 6)) af)))) jN (b9 (vC (.int 10)))))))))))))
theorem uc(n:Nat):Ph (n+2) "_law_name"=bp 2 7 (jj (Ph (n+1))):=by kernel_rfl
def nv (ψ:Str->GF):ES:=(ah (aO 2 (Y (au (pureOf (ψ "_law_mix")) (ab (vE (U 0)) (ab (vE (U 1)) af)))))
  (ah (aO 3 (Y (aY (ab (vC (.str "name")) (ab (au (pureOf (ψ "_law_name")) (ab (vE (U 0)) (ab (aH aD (vE (U 1)) (vC (.int 1))) af))) af)))))
  (ah (aO 4 (Y (aY (ab (vC (.str "number")) (ab (aH gW (aH lx (vE (U 2)) (vC (.int 8))) (vC (.int 1000))) af)))))
  (ah (aO 5 (Y (gg (ab (vE (U 3)) (ab (vE (U 4)) (ab (aY (ab (vC (.str "plus")) (ab (vE (U 3)) (ab (vE (U 4)) af)))) (ab (aY (ab (vC (.str "minus")) (ab (vE (U 4)) (ab (vE (U 3)) af)))) (ab (aY (ab (vC (.str "times")) (ab (vE (U 3)) (ab (vE (U 3)) af)))) af))))))))
  (aV (Y (aH bX (vE (U 5)) (aH gW (aH gW (vE (U 2)) (vC (.int 8))) (vC (.int 5))))))))))
theorem vo(n:Nat):Ph (n+2) "_law_sum"=bp 2 6 (nv (Ph (n+1))):=by kernel_rfl
def cx (ψ:Str->GF):ES:=(ah (aO 2 (Y (aH gW (au (pureOf (ψ "_law_mix")) (ab (vE (U 0)) (ab (vE (U 1)) af))) (vC (.int 6)))))
  (ah (aO 3 (Y (aH bX (gg (ab (vC (.str "=")) (ab (vC (.str "!=")) (ab (vC (.str "<")) (ab (vC (.str "<=")) (ab (vC (.str ">")) (ab (vC (.str ">=")) af))))))) (aH gW (au (pureOf (ψ "_law_mix")) (ab (vE (U 0)) (ab (aH aD (vE (U 1)) (vC (.int 1))) af))) (vC (.int 6))))))
  (ah (aO 4 (Y (aY (ab (vC (.str "is")) (ab (vE (U 3)) (ab (au (pureOf (ψ "_law_sum")) (ab (vE (U 0)) (ab (aH aD (vE (U 1)) (vC (.int 2))) af))) (ab (au (pureOf (ψ "_law_sum")) (ab (vE (U 0)) (ab (aH aD (vE (U 1)) (vC (.int 5))) af))) af)))))))
  (ah (bI (bV (aH vv (vE (U 2)) (vC (.int 2)))) (aV (Y (aY (ab (vC (.str "true")) af)))) cM)
  (ah (bI (bV (aI eB (U 2) (Y (vC (.int 2))))) (aV (Y (aY (ab (vC (.str "not")) (ab (vE (U 4)) af))))) cM)
  (ah (bI (bV (aI eB (U 2) (Y (vC (.int 3))))) (aV (Y (aY (ab (vC (.str "or")) (ab (vE (U 4)) (ab (aY (ab (vC (.str "is")) (ab (vC (.str "=")) (ab (au (pureOf (ψ "_law_sum")) (ab (vE (U 0)) (ab (aH aD (vE (U 1)) (vC (.int 8))) af))) (ab (aY (ab (vC (.str "number")) (ab (vC (.int 7)) af))) af))))) af)))))) cM)
  (aV (U 4))))))))
theorem mj(n:Nat):Ph (n+2) "_law_condition"=bp 2 5 (cx (Ph (n+1))):=by kernel_rfl
def jk (ψ:Str->GF):ES:=(ah (aO 3 (Y (aH aD (vC (.int 5)) (aH ev (vC (.int 22)) (vE (U 1))))))
  (ah (aO 4 (Y (aH gW (au (pureOf (ψ "_law_mix")) (ab (vE (U 0)) (ab (vE (U 3)) af))) (vC (.int 12)))))
  (ah (bI (f6 (bV (aH DX (vE (U 2)) (vC (.int 0)))) (bV (aH vv (vE (U 4)) (vC (.int 3))))) (ah (aO 5 (Y (au (pureOf (ψ "_law_fact")) (ab (vE (U 0)) (ab (aH aD (aH ev (vC (.int 2)) (vE (U 1))) (vC (.int 1))) (ab (aH ug (vE (U 2)) (vC (.int 1))) af))))))
  (aV (Y (aY (ab (aH bX (gg (ab (vC (.str "and")) (ab (vC (.str "or")) (ab (vC (.str "and")) af)))) (vE (U 4))) (ab (vE (U 5)) (ab (au (pureOf (ψ "_law_fact")) (ab (vE (U 0)) (ab (aH aD (aH ev (vC (.int 2)) (vE (U 1))) (vC (.int 2))) (ab (aH ug (vE (U 2)) (vC (.int 1))) af)))) af))))))) cM)
  (ah (bI (f6 (bV (aH DX (vE (U 2)) (vC (.int 0)))) (bV (aI eB (U 4) (Y (vC (.int 3)))))) (aV (Y (aY (ab (vC (.str "not")) (ab (au (pureOf (ψ "_law_fact")) (ab (vE (U 0)) (ab (aH aD (aH ev (vC (.int 2)) (vE (U 1))) (vC (.int 1))) (ab (aH ug (vE (U 2)) (vC (.int 1))) af)))) af))))) cM)
  (ah (aO 6 (Y (au (pureOf (ψ "_law_name")) (ab (vE (U 0)) (ab (aH aD (vE (U 3)) (vC (.int 1))) af)))))
  (ah (bI (f6 (bV (aH DX (vE (U 2)) (vC (.int 0)))) (bV (aI eB (U 4) (Y (vC (.int 4)))))) (ah (aO 7 (Y (aH bX (gg (ab (vC (.str "some knows")) (ab (vC (.str "each knows")) af))) (aH gW (au (pureOf (ψ "_law_mix")) (ab (vE (U 0)) (ab (aH aD (vE (U 3)) (vC (.int 3))) af))) (vC (.int 2))))))
  (aV (Y (aY (ab (vE (U 7)) (ab (vE (U 6)) (ab (au (pureOf (ψ "_law_fact")) (ab (vE (U 0)) (ab (aH aD (aH ev (vC (.int 2)) (vE (U 1))) (vC (.int 1))) (ab (aH ug (vE (U 2)) (vC (.int 1))) af)))) af))))))) cM)
  (ah (bI (bV (aI eB (U 4) (Y (vC (.int 5))))) (aV (Y (aH bX (gg (ab (aY (ab (vC (.str "true")) af)) (ab (aY (ab (vC (.str "dry")) af)) af))) (aH gW (au (pureOf (ψ "_law_mix")) (ab (vE (U 0)) (ab (aH aD (vE (U 3)) (vC (.int 3))) af))) (vC (.int 2)))))) cM)
  (ah (aO 8 (Y (aH bX (gg (ab (vC (.str "=")) (ab (vC (.str "!=")) (ab (vC (.str "<")) (ab (vC (.str "<=")) (ab (vC (.str ">")) (ab (vC (.str ">=")) af))))))) (aH gW (au (pureOf (ψ "_law_mix")) (ab (vE (U 0)) (ab (aH aD (vE (U 3)) (vC (.int 3))) af))) (vC (.int 6))))))
  (ah (aO 9 (Y (aH gW (au (pureOf (ψ "_law_mix")) (ab (vE (U 0)) (ab (aH aD (vE (U 3)) (vC (.int 4))) af))) (aH bX (gg (ab (vC (.int 3)) (ab (vC (.int 1000)) af))) (aH gW (aH lx (au (pureOf (ψ "_law_mix")) (ab (vE (U 0)) (ab (aH aD (vE (U 3)) (vC (.int 4))) af))) (vC (.int 1000))) (vC (.int 2)))))))
  (ah (aO 10 (Y (aH bX (gg (ab (au (pureOf (ψ "_law_name")) (ab (vE (U 0)) (ab (aH aD (vE (U 3)) (vC (.int 5))) af))) (ab (vC (.str "")) af))) (aH gW (au (pureOf (ψ "_law_mix")) (ab (vE (U 0)) (ab (aH aD (vE (U 3)) (vC (.int 7))) af))) (vC (.int 2))))))
  (ah (bI (bV (aI eB (U 4) (Y (vC (.int 6))))) (aV (Y (aY (ab (vC (.str "letters")) (ab (vE (U 6)) (ab (au (pureOf (ψ "_law_name")) (ab (vE (U 0)) (ab (aH aD (vE (U 3)) (vC (.int 8))) af))) (ab (vE (U 10)) (ab (vE (U 8)) (ab (vE (U 9)) af))))))))) cM)
  (ah (aO 11 (Y (au (pureOf (ψ "_law_condition")) (ab (vE (U 0)) (ab (aH aD (vE (U 3)) (vC (.int 10))) af)))))
  (ah (bI (bV (aH vv (vE (U 4)) (vC (.int 9)))) (aV (Y (aY (ab (vC (.str "many")) (ab (vE (U 6)) (ab (vE (U 10)) (ab (vE (U 11)) (ab (vE (U 8)) (ab (vE (U 9)) af))))))))) cM)
  (aV (Y (aY (ab (aH bX (gg (ab (vC (.str "some")) (ab (vC (.str "all")) (ab (vC (.str "some")) af)))) (aH ug (vE (U 4)) (vC (.int 9)))) (ab (vE (U 6)) (ab (vE (U 10)) (ab (vE (U 11)) af))))))))))))))))))))
theorem ud(n:Nat):Ph (n+2) "_law_fact"=bp 3 12 (jk (Ph (n+1))):=by kernel_rfl
def gI (ψ:Str->GF):ES:=(ah (aO 2 (Y (au (pureOf (ψ "_law_text")) (ab (vE (U 0)) af))))
  (ah (bI (bV (aH vv (Bt (o9 (hW "or" (vC (.int 1)) (hW "and" (vC (.int 2)) xh))) (aH bX (vE (U 0)) (vC (.int 0))) (vC (.int 3))) (vE (U 1)))) (aV (Y (aH aD (aH aD (vC (.str "[")) (vE (U 2))) (vC (.str "]"))))) cM)
  (aV (U 2))))
theorem pQ(n:Nat):Ph (n+2) "_law_within"=bp 2 3 (gI (Ph (n+1))):=by kernel_rfl
def eX (ψ:Str->GF):ES:=(ah (bI (bV (aI eB (Y (d_ (U 0))) (Y (vC (.int 2))))) (aV (Y (au iI (ab (aH bX (vE (U 0)) (vC (.int 1))) af)))) cM)
  (ah (aO 1 (Y (aH bX (o9 (hW "plus" (vC (.str " + ")) (hW "minus" (vC (.str " - ")) (hW "times" (vC (.str " * ")) xh)))) (aH bX (vE (U 0)) (vC (.int 0))))))
  (aV (Y (aH aD (aH aD (au iI (ab (aH bX (aH bX (vE (U 0)) (vC (.int 1))) (vC (.int 1))) af)) (vE (U 1))) (au iI (ab (aH bX (aH bX (vE (U 0)) (vC (.int 2))) (vC (.int 1))) af)))))))
theorem iG(n:Nat):Ph (n+2) "_law_sum_text"=bp 1 2 (eX (Ph (n+1))):=by kernel_rfl
def bP (ψ:Str->GF):ES:=(ah (bI (bV (aI eB (Y (aH bX (vE (U 0)) (vC (.int 0)))) (Y (vC (.str "not"))))) (aV (Y (aH aD (vC (.str "not ")) (au (pureOf (ψ "_law_condition_text")) (ab (aH bX (vE (U 0)) (vC (.int 1))) af))))) cM)
  (ah (bI (bV (aI eB (Y (aH bX (vE (U 0)) (vC (.int 0)))) (Y (vC (.str "or"))))) (aV (Y (aH aD (aH aD (au (pureOf (ψ "_law_condition_text")) (ab (aH bX (vE (U 0)) (vC (.int 1))) af)) (vC (.str " or "))) (au (pureOf (ψ "_law_condition_text")) (ab (aH bX (vE (U 0)) (vC (.int 2))) af))))) cM)
  (aV (Y (aH aD (aH aD (aH aD (aH aD (au (pureOf (ψ "_law_sum_text")) (ab (aH bX (vE (U 0)) (vC (.int 2))) af)) (vC (.str " "))) (aH bX (vE (U 0)) (vC (.int 1)))) (vC (.str " "))) (au (pureOf (ψ "_law_sum_text")) (ab (aH bX (vE (U 0)) (vC (.int 3))) af)))))))
theorem cT(n:Nat):Ph (n+2) "_law_condition_text"=bp 1 1 (bP (Ph (n+1))):=by kernel_rfl
def bO (ψ:Str->GF):ES:=(ah (aO 1 (Y (aH bX (vE (U 0)) (vC (.int 0)))))
  (ah (bI (bV (aI eB (Y (d_ (U 0))) (Y (vC (.int 1))))) (aV (U 1)) cM)
  (ah (bI (bV (aI eB (U 1) (Y (vC (.str "not"))))) (aV (Y (aH aD (vC (.str "not ")) (au (pureOf (ψ "_law_within")) (ab (aH bX (vE (U 0)) (vC (.int 1))) (ab (vC (.int 3)) af)))))) cM)
  (ah (bI (bV (aI bb (U 1) (Y (aY (ab (vC (.str "and")) (ab (vC (.str "or")) af)))))) (ah (aO 2 (Y (aH bX (o9 (hW "or" (vC (.int 1)) (hW "and" (vC (.int 2)) xh))) (vE (U 1)))))
  (aV (Y (aH aD (aH aD (aH aD (aH aD (au (pureOf (ψ "_law_within")) (ab (aH bX (vE (U 0)) (vC (.int 1))) (ab (vE (U 2)) af))) (vC (.str " "))) (vE (U 1))) (vC (.str " "))) (au (pureOf (ψ "_law_within")) (ab (aH bX (vE (U 0)) (vC (.int 2))) (ab (aH aD (vE (U 2)) (vC (.int 1))) af))))))) cM)
  (ah (bI (bV (aI eB (Y (d_ (U 0))) (Y (vC (.int 3))))) (aV (Y (aH aD (aH aD (aH aD (aH aD (aH aD (jv (vE (U 1)) jN (b9 (vC (.int 4)))) (vC (.str " "))) (aH bX (vE (U 0)) (vC (.int 1)))) (vC (.str " knows ["))) (au (pureOf (ψ "_law_text")) (ab (aH bX (vE (U 0)) (vC (.int 2))) af))) (vC (.str "]"))))) cM)
  (ah (bI (bV (aI eB (U 1) (Y (vC (.str "letters"))))) (ah (aO 3 (Y (gg (ab (vC (.str "letters")) (ab (aH bX (vE (U 0)) (vC (.int 1))) (ab (vC (.str "to")) (ab (aH bX (vE (U 0)) (vC (.int 2))) (ab (aH bX (vE (U 0)) (vC (.int 3))) (ab (aH bX (vE (U 0)) (vC (.int 4))) (ab (au iI (ab (aH bX (vE (U 0)) (vC (.int 5))) af)) af))))))))))
  (aV (Y (sP (vC (.str " ")) (qB (DV (vE (U 3))) [] 1 (cF 5) (bV (aI lA (U 5) (Y (vC (.str ""))))) (vE (U 5))))))) cM)
  (ah (aO 4 (Y (aH aD (aH aD (vE (U 1)) (vC (.str " "))) (aH bX (vE (U 0)) (vC (.int 1))))))
  (ah (bI (bV (aI lA (Y (aH bX (vE (U 0)) (vC (.int 2)))) (Y (vC (.str ""))))) (aO 4 (Y (aH aD (aH aD (vE (U 4)) (vC (.str " at "))) (aH bX (vE (U 0)) (vC (.int 2)))))) cM)
  (ah (bI (bV (aI lA (Y (aH bX (vE (U 0)) (vC (.int 3)))) (Y (aY (ab (vC (.str "true")) af))))) (aO 4 (Y (aH aD (aH aD (aH aD (vE (U 4)) (vC (.str " when ["))) (au (pureOf (ψ "_law_condition_text")) (ab (aH bX (vE (U 0)) (vC (.int 3))) af))) (vC (.str "]"))))) cM)
  (ah (bI (bV (aI eB (U 1) (Y (vC (.str "many"))))) (aO 4 (Y (aH aD (aH aD (aH aD (aH aD (vE (U 4)) (vC (.str " "))) (aH bX (vE (U 0)) (vC (.int 4)))) (vC (.str " "))) (au iI (ab (aH bX (vE (U 0)) (vC (.int 5))) af))))) cM)
  (aV (U 4))))))))))))
theorem dE(n:Nat):Ph (n+2) "_law_text"=bp 1 5 (bO (Ph (n+1))):=by kernel_rfl
def fg (ψ:Str->GF):ES:=(ah (aO 1 (Y (aH bX (vE (U 0)) (vC (.int 0)))))
  (ah (bI (bV (aI eB (U 1) (Y (vC (.str "number"))))) (aV (Y (au iI (ab (aH bX (vE (U 0)) (vC (.int 1))) af)))) cM)
  (ah (bI (bV (aI eB (U 1) (Y (vC (.str "name"))))) (aV (Y (aH bX (vE (U 0)) (vC (.int 1))))) cM)
  (aV (Y (au (pureOf (ψ "shown_pair")) (ab (vE (U 0)) af)))))))
theorem kW(n:Nat):Ph (n+2) "shown_sum"=bp 1 2 (fg (Ph (n+1))):=by kernel_rfl
def gE (ψ:Str->GF):ES:=(ah (aO 2 (Y (aH Hq (k_ [("or",.int 1),("and",.int 2),("not",.int 3),("is",.int 4),("true",.int 4),("plus",.int 5),("minus",.int 5),("times",.int 6),("number",.int 7),("name",.int 7)] (aH bX (vE (U 0)) (vC (.int 0)))) (vE (U 1)))))
  (ah (bI (bV (aI bb (Y (aH bX (vE (U 0)) (vC (.int 0)))) (Y (vC (.tup [.str "number",.str "name",.str "plus",.str "minus",.str "times"]))))) (ah (aO 3 (Y (au (pureOf (ψ "shown_sum")) (ab (vE (U 0)) af))))
  (aV (Y (qA (bT (U 2)) (vE (U 3)) (dH [(vC (.str "(")),(c8 (vE (U 3))),(vC (.str ")"))]))))) cM)
  (ah (aO 3 (Y (au (pureOf (ψ "shown_condition")) (ab (vE (U 0)) af))))
  (aV (Y (qA (bT (U 2)) (vE (U 3)) (dH [(vC (.str "[")),(c8 (vE (U 3))),(vC (.str "]"))])))))))
theorem jW(n:Nat):Ph (n+2) "shown_from"=bp 2 4 (gE (Ph (n+1))):=by kernel_rfl
def gD (ψ:Str->GF):ES:=(ah (aO 1 (Y (k_ [("or",.int 1),("and",.int 2),("not",.int 3),("is",.int 4),("true",.int 4),("plus",.int 5),("minus",.int 5),("times",.int 6),("number",.int 7),("name",.int 7)] (aH bX (vE (U 0)) (vC (.int 0))))))
  (ah (aO 2 (Y (k_ [("or",.str "or"),("and",.str "and"),("plus",.str "+"),("minus",.str "-"),("times",.str "*")] (aH bX (vE (U 0)) (vC (.int 0))))))
  (ah (aO 3 (Y (au (pureOf (ψ "shown_from")) (ab (aH bX (vE (U 0)) (vC (.int 1))) (ab (vE (U 1)) af)))))
  (ah (aO 4 (Y (au (pureOf (ψ "shown_from")) (ab (aH bX (vE (U 0)) (vC (.int 2))) (ab (aH aD (vE (U 1)) (vC (.int 1))) af)))))
  (aV (Y (dH [(c8 (vE (U 3))),(vC (.str " ")),(c8 (vE (U 2))),(vC (.str " ")),(c8 (vE (U 4)))])))))))
theorem jU(n:Nat):Ph (n+2) "shown_pair"=bp 1 5 (gD (Ph (n+1))):=by kernel_rfl
def cK (ψ:Str->GF):ES:=(ah (aO 1 (Y (aH bX (vE (U 0)) (vC (.int 0)))))
  (ah (bI (bV (aI eB (U 1) (Y (vC (.str "true"))))) (aV (Y (vC (.str "true")))) cM)
  (ah (bI (bV (aI eB (U 1) (Y (vC (.str "not"))))) (ah (aO 2 (Y (au (pureOf (ψ "shown_from")) (ab (aH bX (vE (U 0)) (vC (.int 1))) (ab (k_ [("or",.int 1),("and",.int 2),("not",.int 3),("is",.int 4),("true",.int 4),("plus",.int 5),("minus",.int 5),("times",.int 6),("number",.int 7),("name",.int 7)] (vC (.str "not"))) af)))))
  (aV (Y (dH [(vC (.str "not ")),(c8 (vE (U 2)))])))) cM)
  (ah (bI (bV (aI eB (U 1) (Y (vC (.str "is"))))) (ah (aO 3 (Y (aH bX (vE (U 0)) (vC (.int 1)))))
  (ah (aO 4 (Y (au (pureOf (ψ "shown_sum")) (ab (aH bX (vE (U 0)) (vC (.int 2))) af))))
  (ah (aO 5 (Y (au (pureOf (ψ "shown_sum")) (ab (aH bX (vE (U 0)) (vC (.int 3))) af))))
  (aV (Y (dH [(c8 (vE (U 4))),(vC (.str " ")),(c8 (vE (U 3))),(vC (.str " ")),(c8 (vE (U 5)))])))))) cM)
  (aV (Y (au (pureOf (ψ "shown_pair")) (ab (vE (U 0)) af))))))))
theorem dQ(n:Nat):Ph (n+2) "shown_condition"=bp 1 6 (cK (Ph (n+1))):=by kernel_rfl
def dU (ψ:Str->GF):ES:=(ah (tt (iF [cF 1,cF 2,cF 3,cF 4]) (jv (vE (U 0)) jN (b9 (vC (.int 4)))))
  (ah (aO 5 (Y (dH [(c8 (vE (U 1))),(vC (.str " ")),(c8 (vE (U 2)))])))
  (ah (bI (bV (aI lA (U 3) (Y (vC (.str ""))))) (jn 5 (dH [(vC (.str " at ")),(c8 (vE (U 3)))])) cM)
  (ah (bI (bV (aI lA (U 4) (Y (aY (ab (vC (.str "true")) af))))) (ah (aO 6 (Y (au (pureOf (ψ "shown_condition")) (ab (vE (U 4)) af))))
  (jn 5 (dH [(vC (.str " when [")),(c8 (vE (U 6))),(vC (.str "]"))]))) cM)
  (ah (bI (bV (aI eB (U 1) (Y (vC (.str "many"))))) (ah (tt (iF [cF 7,cF 8]) (jv (vE (U 0)) (b9 (vC (.int 4))) jN))
  (jn 5 (dH [(vC (.str " ")),(c8 (vE (U 7))),(vC (.str " ")),(c8 (vE (U 8)))]))) cM)
  (aV (U 5)))))))
theorem kD(n:Nat):Ph (n+2) "shown_hand_part"=bp 1 9 (dU (Ph (n+1))):=by kernel_rfl
def dt (ψ:Str->GF):ES:=(ah (aO 2 (Y (au (pureOf (ψ "shown_fact")) (ab (vE (U 0)) af))))
  (aV (Y (qA (bV (aH vv (qz [("or",.int 1),("and",.int 2),("not",.int 3)] (aH bX (vE (U 0)) (vC (.int 0))) (vC (.int 3))) (vE (U 1)))) (dH [(vC (.str "[")),(c8 (vE (U 2))),(vC (.str "]"))]) (vE (U 2))))))
theorem jV(n:Nat):Ph (n+2) "shown_from_level"=bp 2 3 (dt (Ph (n+1))):=by kernel_rfl
def hY (ψ:Str->GF):ES:=(ah (tt (iF [cF 1,cF 2,cF 3,cF 4,cF 5]) (jv (vE (U 0)) (b9 (vC (.int 1))) jN))
  (ah (aO 6 (Y (qA (bV (aI lA (U 3) (Y (vC (.str ""))))) (dH [(vC (.str " ")),(c8 (vE (U 3)))]) (vC (.str "")))))
  (aV (Y (dH [(vC (.str "letters ")),(c8 (vE (U 1))),(vC (.str " to ")),(c8 (vE (U 2))),(c8 (vE (U 6))),(vC (.str " ")),(c8 (vE (U 4))),(vC (.str " ")),(c8 (vE (U 5)))])))))
theorem mf(n:Nat):Ph (n+2) "shown_letters"=bp 1 7 (hY (Ph (n+1))):=by kernel_rfl
def b0 (ψ:Str->GF):ES:=(ah (aO 1 (Y (aH bX (vE (U 0)) (vC (.int 0)))))
  (ah (bI (bV (aI bb (U 1) (Y (aY (ab (vC (.str "true")) (ab (vC (.str "dry")) af)))))) (aV (U 1)) cM)
  (ah (bI (bV (aI eB (U 1) (Y (vC (.str "not"))))) (ah (aO 2 (Y (au (pureOf (ψ "shown_from_level")) (ab (aH bX (vE (U 0)) (vC (.int 1))) (ab (vC (.int 3)) af)))))
  (aV (Y (dH [(vC (.str "not ")),(c8 (vE (U 2)))])))) cM)
  (ah (bI (bV (aI bb (U 1) (Y (aY (ab (vC (.str "and")) (ab (vC (.str "or")) af)))))) (ah (aO 3 (Y (au (pureOf (ψ "shown_from_level")) (ab (aH bX (vE (U 0)) (vC (.int 1))) (ab (k_ [("or",.int 1),("and",.int 2),("not",.int 3)] (vE (U 1))) af)))))
  (ah (aO 4 (Y (au (pureOf (ψ "shown_from_level")) (ab (aH bX (vE (U 0)) (vC (.int 2))) (ab (aH aD (k_ [("or",.int 1),("and",.int 2),("not",.int 3)] (vE (U 1))) (vC (.int 1))) af)))))
  (aV (Y (dH [(c8 (vE (U 3))),(vC (.str " ")),(c8 (vE (U 1))),(vC (.str " ")),(c8 (vE (U 4)))]))))) cM)
  (ah (bI (bV (aI bb (U 1) (Y (vC (.tup [.str "some knows",.str "each knows"]))))) (ah (aO 5 (Y (aH bX (yX (vE (U 1)) (vC (.str " "))) (vC (.int 0)))))
  (ah (aO 6 (Y (aH bX (vE (U 0)) (vC (.int 1)))))
  (ah (aO 7 (Y (au (pureOf (ψ "shown_fact")) (ab (aH bX (vE (U 0)) (vC (.int 2))) af))))
  (aV (Y (dH [(c8 (vE (U 5))),(vC (.str " ")),(c8 (vE (U 6))),(vC (.str " knows [")),(c8 (vE (U 7))),(vC (.str "]"))])))))) cM)
  (ah (bI (bV (aI eB (U 1) (Y (vC (.str "letters"))))) (aV (Y (au (pureOf (ψ "shown_letters")) (ab (vE (U 0)) af)))) cM)
  (aV (Y (au (pureOf (ψ "shown_hand_part")) (ab (vE (U 0)) af))))))))))
theorem cN(n:Nat):Ph (n+2) "shown_fact"=bp 1 8 (b0 (Ph (n+1))):=by kernel_rfl
def fB(ψ:Str->GF):ES:=(bI (mv (bT (Y (au (pureOf (ψ "_law_same")) (ab (vE (U 2)) (ab (vE (U 3)) af)))))) (aV (Y (vC (.bl false)))) cM)
def ca (ψ:Str->GF):ES:=(bI (bT (Y (DS ["tuple"] (U 1)))) (ah (bI (rn (mv (bT (Y (DS ["tuple"] (U 0))))) (bV (aI lA (Y (d_ (U 0))) (Y (d_ (U 1)))))) (aV (Y (vC (.bl false)))) cM)
  (ah (tu (Qa (vE (U 0)) (vE (U 1))) (iF [cF 2,cF 3]) (fB ψ))
  (aV (Y (vC (.bl true)))))) cM)
def dG (ψ:Str->GF):ES:=(ah (ca ψ)
  (aV (Y (vB (f6 (bV (aI eB (Y (DS ["str"] (U 0))) (Y (DS ["str"] (U 1))))) (f6 (mv (bV (DS ["bool"] (U 0)))) (bV (aI eB (U 0) (U 1)))))))))
theorem mh(n:Nat):Ph (n+2) "_law_same"=bp 2 4 (dG (Ph (n+1))):=by kernel_rfl
def fG (ψ:Str->GF):ES:=(ah (tt (iF [cF 2,cF 3,cF 4]) (vE (qX (bc (aT Att) (U 0) "pieces") (vE (bc (aT Att) (U 0) "spot")))))
  (ah (bI (bV (aI lA (U 2) (U 1))) bH cM)
  (ah (kO (aT Att) (U 0) "spot" (vC (.int 1)))
  (aV (U 3)))))
theorem kF(n:Nat):Ph (n+2) "FactReader.take"=bp 2 5 (fG (Ph (n+1))):=by kernel_rfl
def b3 (ψ:Str->GF):ES:=(ah (aO 2 (nK (bc (aT Att) (U 0) "marks")))
  (ah (aO 3 (nK (bc (aT Att) (U 0) "trees")))
  (ah (bI (bV (aI eB (U 2) (Y (vC (.str "not"))))) (ah (aR (cv (bc (aT Att) (U 0) "trees") (Y (aY (ab (vC (.str "not")) (ab (vE (U 3)) af))))))
  NY) cM)
  (ah (aO 4 (nK (bc (aT Att) (U 0) "trees")))
  (bI (bV (aI bb (U 2) (Y (vC (.tup [.str "=",.str "!=",.str "<",.str "<=",.str ">",.str ">="]))))) (aR (cv (bc (aT Att) (U 0) "trees") (Y (aY (ab (vC (.str "is")) (ab (vE (U 2)) (ab (vE (U 4)) (ab (vE (U 3)) af)))))))) (aR (cv (bc (aT Att) (U 0) "trees") (Y (aY (ab (k_ [("or",.str "or"),("and",.str "and"),("+",.str "plus"),("-",.str "minus"),("*",.str "times")] (vE (U 2))) (ab (vE (U 4)) (ab (vE (U 3)) af))))))))))))
def ju(ψ:Str->GF):ES:=(dP 1000 (f6 (bT (bc (aT Att) (U 0) "marks")) (bV (aH Hq (k_ [("(",.int 0),("[",.int 0),("or",.int 1),("and",.int 2),("not",.int 3),("=",.int 4),("!=",.int 4),("<",.int 4),("<=",.int 4),(">",.int 4),(">=",.int 4),("+",.int 5),("-",.int 5),("*",.int 6)] (vE (qX (bc (aT Att) (U 0) "marks") (GO uh (vC (.int 1)))))) (vE (U 1))))) (b3 ψ))
theorem nJ(n:Nat):Ph (n+2) "Reader.fold"=bp 2 5 (ju (Ph (n+1))):=by kernel_rfl
def bU (ψ:Str->GF):ES:=(ah (aO 2 (Y (aH bX (vE (nK (bc (aT Att) (U 0) "marks"))) (vC (.int 0)))))
  (ah (aO 3 (nK (bc (aT Att) (U 0) "trees")))
  (bI (bV (aI eB (U 2) (Y (vC (.str "not"))))) (aR (cv (bc (aT Att) (U 0) "trees") (Y (aY (ab (vC (.str "not")) (ab (vE (U 3)) af)))))) (aR (cv (bc (aT Att) (U 0) "trees") (Y (aY (ab (vE (U 2)) (ab (vE (nK (bc (aT Att) (U 0) "trees"))) (ab (vE (U 3)) af))))))))))
def fI(ψ:Str->GF):ES:=(dP 1000 (f6 (bT (bc (aT Att) (U 0) "marks")) (bV (aH Hq (qz [("or",.int 1),("and",.int 2),("not",.int 3)] (vE (qX (qX (bc (aT Att) (U 0) "marks") (GO uh (vC (.int 1)))) (vC (.int 0)))) (vC (.int 0))) (vE (U 1))))) (bU ψ))
theorem kH(n:Nat):Ph (n+2) "FactReader.fold"=bp 2 4 (fI (Ph (n+1))):=by kernel_rfl
def dX(ψ:Str->GF):ES:=(aV (qX (qX (bc (aT Att) (U 0) "pieces") (vE (bc (aT Att) (U 0) "spot"))) (vC (.int 0))))
theorem ik(n:Nat):Ph (n+2) "FactReader.next_kind"=bp 1 1 (dX (Ph (n+1))):=by kernel_rfl
def bS (ψ:Str->GF):ES:=(ah (bI (bV (aI bb (aB (mT Tb ψ) (U 0) "next_kind" ay) (Y (aY (ab (vC (.str "and")) (ab (vC (.str "or")) af)))))) (aV (Y (vC (.bl true)))) cM)
  (ah (aR (aB (mT Tb ψ) (U 0) "fold" (aA (Y (vC (.int 1))) ay)))
  (aV (Y (aH DX (d_ (bc (aT Att) (U 0) "marks")) (vC (.int 0)))))))
theorem cV(n:Nat):Ph (n+2) "FactReader.goes_on"=bp 1 1 (bS (Ph (n+1))):=by kernel_rfl
def dw (ψ:Str->GF):ES:=(ah (bI (bV (aI lA (aB (mT Tb ψ) (U 0) "next_kind" ay) (U 1))) (aV (Y (vC (.bl false)))) cM)
  (ah (kO (aT Att) (U 0) "spot" (vC (.int 1)))
  (aV (Y (vC (.bl true))))))
theorem fq(n:Nat):Ph (n+2) "FactReader.taken"=bp 2 2 (dw (Ph (n+1))):=by kernel_rfl
def dY (ψ:Str->GF):ES:=(ah (aR (cv (bc (aT Att) (U 0) "trees") (U 1)))
  (en (aT Att) (U 0) "wanted" (Y (vC (.bl false)))))
theorem il(n:Nat):Ph (n+2) "FactReader.keep_part"=bp 2 2 (dY (Ph (n+1))):=by kernel_rfl
def du(ψ:Str->GF):ES:=(tz 2 (vC (.int 1)))
def h_ (ψ:Str->GF):ES:=(ah (aO 2 (bc (aT Att) (U 0) "spot"))
  (ah (dP 1000 (f6 (bV (aH vv (vE (U 2)) (d_ (bc (aT Att) (U 0) "text")))) (bV (aI bb (qX (bc (aT Att) (U 0) "text") (vE (U 2))) (U 1)))) (du ψ))
  (aV (Y (jv (vE (bc (aT Att) (U 0) "text")) (b9 (vE (bc (aT Att) (U 0) "spot"))) (b9 (vE (U 2))))))))
theorem ml(n:Nat):Ph (n+2) "Reader.run_of"=bp 2 3 (h_ (Ph (n+1))):=by kernel_rfl
def js (ψ:Str->GF):ES:=(ah (aR (cv (bc (aT Att) (U 0) "trees") (U 1)))
  (ah (kO (aT Att) (U 0) "spot" (vE (U 2)))
  (en (aT Att) (U 0) "wanted" (Y (vC (.str ""))))))
theorem nH(n:Nat):Ph (n+2) "Reader.keep"=bp 3 3 (js (Ph (n+1))):=by kernel_rfl
def jr (ψ:Str->GF):ES:=(ah (aR (cv (bc (aT Att) (U 0) "marks") (U 1)))
  (ah (kO (aT Att) (U 0) "spot" (d_ (U 1)))
  (en (aT Att) (U 0) "wanted" (U 2))))
theorem nG(n:Nat):Ph (n+2) "Reader.push"=bp 3 3 (jr (Ph (n+1))):=by kernel_rfl
def cO (ψ:Str->GF):ES:=(ah (aO 1 (aB (mT Tb ψ) (U 0) "run_of" (aA (Y (vC (.str "abcdefghijklmnopqrstuvwxyz"))) ay)))
  (ah (bI (bV (aH DX (d_ (U 1)) (vC (.int 10)))) bH cM)
  (bI (f6 (bV (aI eB (U 1) (Y (vC (.str "true"))))) (bV (aI eB (bc (aT Att) (U 0) "wanted") (Y (vC (.str "part")))))) (aR (aB (mT Tb ψ) (U 0) "keep" (aA (Y (aY (ab (vC (.str "true")) af))) (aA (Y (d_ (U 1))) ay)))) (bI (f6 (bV (aI eB (U 1) (Y (vC (.str "not"))))) (bV (aI eB (bc (aT Att) (U 0) "wanted") (Y (vC (.str "part")))))) (aR (aB (mT Tb ψ) (U 0) "push" (aA (Y (vC (.str "not"))) (aA (Y (vC (.str "part"))) ay)))) (bI (bV (aI bb (U 1) (Y (vC (.tup [.str "or",.str "and",.str "not",.str "true"]))))) bH (aR (aB (mT Tb ψ) (U 0) "keep" (aA (Y (aY (ab (vC (.str "name")) (ab (vE (U 1)) af)))) (aA (Y (d_ (U 1))) ay)))))))))
theorem et(n:Nat):Ph (n+2) "Reader.read_letters"=bp 1 2 (cO (Ph (n+1))):=by kernel_rfl
def dz (ψ:Str->GF):ES:=(ah (aO 1 (aB (mT Tb ψ) (U 0) "take" (aA (Y (vC (.str "compared"))) ay)))
  (aV (Y (aY (ab (vE (U 1)) (ab (vE (aB (mT Tb ψ) (U 0) "take" (aA (Y (vC (.str "number"))) ay))) af))))))
theorem gm(n:Nat):Ph (n+2) "FactReader.read_amount"=bp 1 2 (dz (Ph (n+1))):=by kernel_rfl
def bR (ψ:Str->GF):ES:=(ah (aO 1 (aB (mT Tb ψ) (U 0) "take" (aA (Y (vC (.str "name"))) ay)))
  (ah (aR (aB (mT Tb ψ) (U 0) "take" (aA (Y (vC (.str "to"))) ay)))
  (ah (aO 2 (aB (mT Tb ψ) (U 0) "take" (aA (Y (vC (.str "name"))) ay)))
  (ah (aO 3 (Y (qA (bV (aI eB (aB (mT Tb ψ) (U 0) "next_kind" ay) (Y (vC (.str "name"))))) (vE (aB (mT Tb ψ) (U 0) "take" (aA (Y (vC (.str "name"))) ay))) (vC (.str "")))))
  (aR (aB (mT Tb ψ) (U 0) "keep_part" (aA (Y (aH aD (aY (ab (vC (.str "letters")) (ab (vE (U 1)) (ab (vE (U 2)) (ab (vE (U 3)) af))))) (vE (aB (mT Tb ψ) (U 0) "read_amount" ay)))) ay)))))))
theorem fW(n:Nat):Ph (n+2) "FactReader.read_letters"=bp 1 4 (bR (Ph (n+1))):=by kernel_rfl
def db (ψ:Str->GF):ES:=(ah (aR (aB (mT Tb ψ) (U 0) "take" (aA (Y (vC (.str "knows"))) ay)))
  (ah (aR (aB (mT Tb ψ) (U 0) "take" (aA (Y (vC (.str "["))) ay)))
  (aR (cv (bc (aT Att) (U 0) "marks") (Y (aY (ab (vE (U 1)) (ab (vE (U 2)) af))))))))
theorem fX(n:Nat):Ph (n+2) "FactReader.open_knowing"=bp 3 3 (db (Ph (n+1))):=by kernel_rfl
def bo (ψ:Str->GF):ES:=(ah (aO 2 (aB (mT Tb ψ) (U 0) "take" (aA (Y (vC (.str "name"))) ay)))
  (ah (bI (f6 (bV (aI eB (U 1) (Y (vC (.str "some"))))) (bV (aI eB (aB (mT Tb ψ) (U 0) "next_kind" ay) (Y (vC (.str "knows")))))) (ah (aR (aB (mT Tb ψ) (U 0) "open_knowing" (aA (Y (vC (.str "some knows"))) (aA (U 2) ay))))
  (aV (Y (vC .non)))) cM)
  (ah (aO 3 (Y (qA (bT (aB (mT Tb ψ) (U 0) "taken" (aA (Y (vC (.str "at"))) ay))) (vE (aB (mT Tb ψ) (U 0) "take" (aA (Y (vC (.str "name"))) ay))) (vC (.str "")))))
  (ah (aO 4 (Y (qA (bV (aI eB (aB (mT Tb ψ) (U 0) "next_kind" ay) (Y (vC (.str "when"))))) (vE (aB (mT Tb ψ) (U 0) "take" (aA (Y (vC (.str "when"))) ay))) (aY (ab (vC (.str "true")) af)))))
  (ah (aO 5 (Y (qA (bV (aI eB (U 1) (Y (vC (.str "many"))))) (vE (aB (mT Tb ψ) (U 0) "read_amount" ay)) (aY af))))
  (aR (aB (mT Tb ψ) (U 0) "keep_part" (aA (Y (aH aD (aY (ab (vE (U 1)) (ab (vE (U 2)) (ab (vE (U 3)) (ab (vE (U 4)) af))))) (vE (U 5)))) ay))))))))
theorem cR(n:Nat):Ph (n+2) "FactReader.read_hand_part"=bp 2 6 (bo (Ph (n+1))):=by kernel_rfl
def aZ (ψ:Str->GF):ES:=(bI (bV (aI bb (aB (mT Tb ψ) (U 0) "next_kind" ay) (Y (aY (ab (vC (.str "not")) (ab (vC (.str "[")) af)))))) (ah (aR (cv (bc (aT Att) (U 0) "marks") (Y (aY (ab (vE (aB (mT Tb ψ) (U 0) "next_kind" ay)) (ab (vC (.str "")) af))))))
  (kO (aT Att) (U 0) "spot" (vC (.int 1)))) (bI (bT (aB (mT Tb ψ) (U 0) "taken" (aA (Y (vC (.str "dry"))) ay))) (aR (aB (mT Tb ψ) (U 0) "keep_part" (aA (Y (aY (ab (vC (.str "dry")) af))) ay))) (bI (bT (aB (mT Tb ψ) (U 0) "taken" (aA (Y (vC (.str "letters"))) ay))) (aR (aB (mT Tb ψ) (U 0) "read_letters" ay)) (bI (bT (aB (mT Tb ψ) (U 0) "taken" (aA (Y (vC (.str "each"))) ay))) (aR (aB (mT Tb ψ) (U 0) "open_knowing" (aA (Y (vC (.str "each knows"))) (aA (aB (mT Tb ψ) (U 0) "take" (aA (Y (vC (.str "name"))) ay)) ay)))) (bI (bV (aI bb (aB (mT Tb ψ) (U 0) "next_kind" ay) (Y (vC (.tup [.str "some",.str "all",.str "many"]))))) (aR (aB (mT Tb ψ) (U 0) "read_hand_part" (aA (aB (mT Tb ψ) (U 0) "take" (aA (aB (mT Tb ψ) (U 0) "next_kind" ay) ay)) ay))) (ah (aR (aB (mT Tb ψ) (U 0) "take" (aA (Y (vC (.str "true"))) ay)))
  (aR (aB (mT Tb ψ) (U 0) "keep_part" (aA (Y (aY (ab (vC (.str "true")) af))) ay)))))))))
theorem bq(n:Nat):Ph (n+2) "FactReader.read_part"=bp 1 1 (aZ (Ph (n+1))):=by kernel_rfl
def ej(ψ:Str->GF):ES:=(aV (Y (vB (f6 (bV (aH DX (vE (bc (aT Att) (U 0) "spot")) (vC (.int 0)))) (bV (aI bb (qX (bc (aT Att) (U 0) "text") (aH ug (vE (bc (aT Att) (U 0) "spot")) (vC (.int 1)))) (Y (aH aD (vC (.str "abcdefghijklmnopqrstuvwxyz")) (vC (.str "0123456789"))))))))))
theorem lm(n:Nat):Ph (n+2) "Reader.touches"=bp 1 1 (ej (Ph (n+1))):=by kernel_rfl
def gK(ψ:Str->GF):ES:=(aV (Y (aI bb (qX (qX (bc (aT Att) (U 0) "trees") (GO uh (vC (.int 1)))) (vC (.int 0))) (Y (vC (.tup [.str "number",.str "name",.str "plus",.str "minus",.str "times"]))))))
theorem ln(n:Nat):Ph (n+2) "Reader.has_sum"=bp 1 1 (gK (Ph (n+1))):=by kernel_rfl
def eR (ψ:Str->GF):ES:=(ah (aR (aB (mT Tb ψ) (U 0) "fold" (aA (Y (vC (.int 4))) ay)))
  (ah (bI (rn (bT (aB (mT Tb ψ) (U 0) "touches" ay)) (bT (aB (mT Tb ψ) (U 0) "has_sum" ay))) bH cM)
  (ah (aO 2 (aB (mT Tb ψ) (U 0) "run_of" (aA (Y (vC (.str "abcdefghijklmnopqrstuvwxyz"))) ay)))
  (ah (bI (bV (aI lA (U 2) (U 1))) bH cM)
  (ah (aR (aB (mT Tb ψ) (U 0) "fold" (aA (Y (k_ [("(",.int 0),("[",.int 0),("or",.int 1),("and",.int 2),("not",.int 3),("=",.int 4),("!=",.int 4),("<",.int 4),("<=",.int 4),(">",.int 4),(">=",.int 4),("+",.int 5),("-",.int 5),("*",.int 6)] (vE (U 1)))) ay)))
  (aR (aB (mT Tb ψ) (U 0) "push" (aA (U 1) (aA (Y (vC (.str "part"))) ay)))))))))
theorem jx(n:Nat):Ph (n+2) "Reader.read_joint"=bp 2 3 (eR (Ph (n+1))):=by kernel_rfl
def dJ (ψ:Str->GF):ES:=(ah (aR (aB (mT Tb ψ) (U 0) "fold" (aA (Y (k_ [("or",.int 1),("and",.int 2),("not",.int 3)] (vE (U 1)))) ay)))
  (ah (aR (aB (mT Tb ψ) (U 0) "take" (aA (U 1) ay)))
  (ah (aR (cv (bc (aT Att) (U 0) "marks") (Y (aY (ab (vE (U 1)) (ab (vC (.str "")) af))))))
  (en (aT Att) (U 0) "wanted" (Y (vC (.bl true)))))))
theorem gO(n:Nat):Ph (n+2) "FactReader.read_joint"=bp 2 2 (dJ (Ph (n+1))):=by kernel_rfl
def dA (ψ:Str->GF):ES:=(ah (aR (aB (mT Tb ψ) (U 0) "take" (aA (Y (vC (.str "]"))) ay)))
  (ah (tt (iF [cF 1,cF 2]) (vE (nK (bc (aT Att) (U 0) "marks"))))
  (bI (bV (aI bb (U 1) (Y (vC (.tup [.str "some knows",.str "each knows"]))))) (aR (cv (bc (aT Att) (U 0) "trees") (Y (aY (ab (vE (U 1)) (ab (vE (U 2)) (ab (vE (nK (bc (aT Att) (U 0) "trees"))) af))))))) cM)))
theorem jZ(n:Nat):Ph (n+2) "FactReader.close"=bp 1 3 (dA (Ph (n+1))):=by kernel_rfl
def aK(ψ:Str->GF):ES:=(bI (bT (bc (aT Att) (U 0) "wanted")) (aR (aB (mT Tb ψ) (U 0) "read_part" ay)) (bI (bV (aI bb (aB (mT Tb ψ) (U 0) "next_kind" ay) (Y (aY (ab (vC (.str "and")) (ab (vC (.str "or")) af)))))) (aR (aB (mT Tb ψ) (U 0) "read_joint" (aA (aB (mT Tb ψ) (U 0) "next_kind" ay) ay))) (aR (aB (mT Tb ψ) (U 0) "close" ay))))
def dL (ψ:Str->GF):ES:=(ah (en (aT Att) (U 0) "wanted" (Y (vC (.bl true))))
  (ah (dP 1000 (rn (bT (bc (aT Att) (U 0) "wanted")) (bT (aB (mT Tb ψ) (U 0) "goes_on" ay))) (aK ψ))
  (ah (aR (aB (mT Tb ψ) (U 0) "take" (aA (U 1) ay)))
  (aV (nK (bc (aT Att) (U 0) "trees"))))))
theorem gP(n:Nat):Ph (n+2) "FactReader.fact_up_to"=bp 2 2 (dL (Ph (n+1))):=by kernel_rfl
def gF(ψ:Str->GF):ES:=(tz 1 (vC (.int 1)))
def nr (ψ:Str->GF):ES:=(ah (dP 1000 (f6 (bV (aH vv (vE (U 1)) (d_ (U 0)))) (bV (aI bb (Y (aH bX (vE (U 0)) (vE (U 1)))) (U 2)))) (gF ψ))
  (aV (U 1)))
theorem vn(n:Nat):Ph (n+2) "run_end"=bp 3 3 (nr (Ph (n+1))):=by kernel_rfl
def gJ(ψ:Str->GF):ES:=(aV (Y (vB (f6 (bV (aH DX (vE (U 1)) (vC (.int 0)))) (bV (aI bb (Y (aH bX (vE (U 0)) (aH ug (vE (U 1)) (vC (.int 1))))) (Y (aH aD (vC (.str "abcdefghijklmnopqrstuvwxyz")) (vC (.str "0123456789"))))))))))
theorem pR(n:Nat):Ph (n+2) "is_pressed"=bp 2 2 (gJ (Ph (n+1))):=by kernel_rfl
def cY (ψ:Str->GF):ES:=(ah (bI (bV (aI eB (Y (aH bX (vE (U 0)) (vE (U 3)))) (Y (vC (.str "["))))) (tz 2 (vC (.int 1))) (bI (bV (aI eB (Y (aH bX (vE (U 0)) (vE (U 3)))) (Y (vC (.str "]"))))) (pk 2 (vC (.int 1))) cM))
  (bI (bV (aI eB (U 2) (Y (vC (.int 0))))) (aV (U 3)) cM))
def jp (ψ:Str->GF):ES:=(ah (aO 2 (Y (vC (.int 1))))
  (ah (tu (FV (vE (U 1)) (d_ (U 0))) (cF 3) (cY ψ))
  bH))
theorem nC(n:Nat):Ph (n+2) "bracket_end"=bp 2 4 (jp (Ph (n+1))):=by kernel_rfl
def eP(ψ:Str->GF):ES:=(kO (aT Att) (U 0) "spot" (d_ (aB (mT Tb ψ) (U 0) "run_of" (aA (Y (vC (.str " "))) ay))))
theorem i8(n:Nat):Ph (n+2) "Reader.skip_blanks"=bp 1 1 (eP (Ph (n+1))):=by kernel_rfl
def dv(ψ:Str->GF):ES:=(aV (Of (bT (bc (aT Att) (U 0) "marks")) (qX (bc (aT Att) (U 0) "marks") (GO uh (vC (.int 1)))) (Y (vC (.str "")))))
theorem fm(n:Nat):Ph (n+2) "Reader.last_mark"=bp 1 1 (dv (Ph (n+1))):=by kernel_rfl
def fF (ψ:Str->GF):ES:=(ah (aR (aB (mT Tb ψ) (U 0) "fold" (aA (Y (vC (.int 4))) ay)))
  (ah (bI (f6 (bV (aI eB (bc (aT Att) (U 0) "sought") (Y (vC (.str "part"))))) (bT (aB (mT Tb ψ) (U 0) "has_sum" ay))) bH cM)
  (ah (aR (aB (mT Tb ψ) (U 0) "fold" (aA (Y (vC (.int 1))) ay)))
  (ah (bI (bV (aI lA (aB (mT Tb ψ) (U 0) "last_mark" ay) (Y (vC (.str ""))))) bH cM)
  (aV (qX (bc (aT Att) (U 0) "trees") (vC (.int 0))))))))
theorem kE(n:Nat):Ph (n+2) "Reader.read_end"=bp 1 1 (fF (Ph (n+1))):=by kernel_rfl
def cZ (ψ:Str->GF):ES:=(ah (bI (bT (aB (mT Tb ψ) (U 0) "touches" ay)) bH cM)
  (ah (aO 1 (aB (mT Tb ψ) (U 0) "run_of" (aA (Y (vC (.str "0123456789"))) ay)))
  (ah (aO 2 (Y (qA (bV (aI eB (Y (aH bX (vE (U 1)) (vC (.int 0)))) (Y (vC (.str "0"))))) (vC (.int 1)) (au p6 (ab (d_ (U 1)) (ab (vC (.int 3)) af))))))
  (ah (bI (bV (aH vv (vE (U 2)) (d_ (U 1)))) bH cM)
  (aR (aB (mT Tb ψ) (U 0) "keep" (aA (Y (aY (ab (vC (.str "number")) (ab (au iB (ab (vE (U 1)) af)) af)))) (aA (U 2) ay))))))))
theorem i9(n:Nat):Ph (n+2) "Reader.read_number"=bp 1 3 (cZ (Ph (n+1))):=by kernel_rfl
def b_(ψ:Str->GF):ES:=(bI (bV (aI bb (U 1) (Y (vC (.str "0123456789"))))) (aR (aB (mT Tb ψ) (U 0) "read_number" ay)) (bI (bV (aI bb (U 1) (Y (vC (.str "abcdefghijklmnopqrstuvwxyz"))))) (aR (aB (mT Tb ψ) (U 0) "read_letters" ay)) (bI (bV (aI eB (U 1) (Y (vC (.str "("))))) (aR (aB (mT Tb ψ) (U 0) "push" (aA (Y (vC (.str "("))) (aA (Y (vC (.str "factor"))) ay)))) (bI (f6 (bV (aI eB (U 1) (Y (vC (.str "["))))) (bV (aI eB (bc (aT Att) (U 0) "wanted") (Y (vC (.str "part")))))) (aR (aB (mT Tb ψ) (U 0) "push" (aA (Y (vC (.str "["))) (aA (Y (vC (.str "part"))) ay)))) bH))))
theorem gN(n:Nat):Ph (n+2) "Reader.read_beginning"=bp 2 2 (b_ (Ph (n+1))):=by kernel_rfl
def fx (ψ:Str->GF):ES:=(ah (bI (mv (bT (aB (mT Tb ψ) (U 0) "has_sum" ay))) bH cM)
  (ah (aR (aB (mT Tb ψ) (U 0) "fold" (aA (Y (k_ [("(",.int 0),("[",.int 0),("or",.int 1),("and",.int 2),("not",.int 3),("=",.int 4),("!=",.int 4),("<",.int 4),("<=",.int 4),(">",.int 4),(">=",.int 4),("+",.int 5),("-",.int 5),("*",.int 6)] (vE (U 1)))) ay)))
  (aR (aB (mT Tb ψ) (U 0) "push" (aA (U 1) (aA (Y (vC (.str "factor"))) ay))))))
theorem jY(n:Nat):Ph (n+2) "Reader.read_sign"=bp 2 2 (fx (Ph (n+1))):=by kernel_rfl
def b2 (ψ:Str->GF):ES:=(ah (aR (aB (mT Tb ψ) (U 0) "fold" (aA (Y (vC (.int 5))) ay)))
  (ah (aO 2 (aB (mT Tb ψ) (U 0) "last_mark" ay))
  (ah (bI (rn (bV (aI eB (bc (aT Att) (U 0) "sought") (Y (vC (.str "factor"))))) (rn (mv (bT (aB (mT Tb ψ) (U 0) "has_sum" ay))) (rn (bV (aI eB (U 2) (Y (vC (.str "("))))) (bV (aI bb (U 2) (Y (vC (.tup [.str "=",.str "!=",.str "<",.str "<=",.str ">",.str ">="])))))))) bH cM)
  (ah (aO 3 (Y (jv (vE (bc (aT Att) (U 0) "text")) (b9 (vE (bc (aT Att) (U 0) "spot"))) (b9 (aH aD (vE (bc (aT Att) (U 0) "spot")) (vC (.int 2)))))))
  (ah (bI (bV (aI mW (U 3) (Y (vC (.tup [.str "=",.str "!=",.str "<",.str "<=",.str ">",.str ">="]))))) (aO 3 (U 1)) cM)
  (ah (bI (bV (aI mW (U 3) (Y (vC (.tup [.str "=",.str "!=",.str "<",.str "<=",.str ">",.str ">="]))))) bH cM)
  (aR (aB (mT Tb ψ) (U 0) "push" (aA (U 3) (aA (Y (vC (.str "factor"))) ay))))))))))
theorem gk(n:Nat):Ph (n+2) "Reader.read_comparison"=bp 2 4 (b2 (Ph (n+1))):=by kernel_rfl
def bQ(ψ:Str->GF):ES:=(bI (bV (aI bb (U 1) (Y (vC (.str "+-*"))))) (aR (aB (mT Tb ψ) (U 0) "read_sign" (aA (U 1) ay))) (bI (bV (aI bb (U 1) (Y (vC (.str "=!<>"))))) (aR (aB (mT Tb ψ) (U 0) "read_comparison" (aA (U 1) ay))) (bI (bV (aI bb (U 1) (Y (vC (.str "abcdefghijklmnopqrstuvwxyz"))))) (aR (aB (mT Tb ψ) (U 0) "read_joint" (aA (Y (qA (bV (aI eB (U 1) (Y (vC (.str "a"))))) (vC (.str "and")) (vC (.str "or")))) ay))) (bI (bV (aI eB (U 1) (Y (vC (.str ")"))))) (aR (aB (mT Tb ψ) (U 0) "read_round_end" ay)) (bI (bV (aI eB (U 1) (Y (vC (.str "]"))))) (aR (aB (mT Tb ψ) (U 0) "read_square_end" ay)) bH)))))
theorem cU(n:Nat):Ph (n+2) "Reader.read_behind"=bp 2 2 (bQ (Ph (n+1))):=by kernel_rfl
def bD (ψ:Str->GF):ES:=(ah (bI (bV (aI eB (bc (aT Att) (U 0) "spot") (Y (d_ (bc (aT Att) (U 0) "text"))))) bH cM)
  (ah (bI (bV (aI lA (bc (aT Att) (U 0) "wanted") (Y (vC (.str ""))))) (aR (aB (mT Tb ψ) (U 0) "read_beginning" (aA (qX (bc (aT Att) (U 0) "text") (vE (bc (aT Att) (U 0) "spot"))) ay))) (aR (aB (mT Tb ψ) (U 0) "read_behind" (aA (qX (bc (aT Att) (U 0) "text") (vE (bc (aT Att) (U 0) "spot"))) ay))))
  (aR (aB (mT Tb ψ) (U 0) "skip_blanks" ay))))
def jq (ψ:Str->GF):ES:=(ah (aR (aB (mT Tb ψ) (U 0) "skip_blanks" ay))
  (ah (dP 1000 (rn (bV (aI lA (bc (aT Att) (U 0) "wanted") (Y (vC (.str ""))))) (bV (aH vv (vE (bc (aT Att) (U 0) "spot")) (d_ (bc (aT Att) (U 0) "text"))))) (bD ψ))
  (aV (aB (mT Tb ψ) (U 0) "read_end" ay))))
theorem nD(n:Nat):Ph (n+2) "Reader.read"=bp 1 1 (jq (Ph (n+1))):=by kernel_rfl
def jt (ψ:Str->GF):ES:=(ah (en (aT Att) (U 0) "text" (U 1))
  (ah (en (aT Att) (U 0) "spot" (Y (vC (.int 0))))
  (ah (en (aT Att) (U 0) "sought" (U 2))
  (ah (en (aT Att) (U 0) "wanted" (U 2))
  (ah (en (aT Att) (U 0) "trees" (pT ay))
  (en (aT Att) (U 0) "marks" (pT ay)))))))
theorem nI(n:Nat):Ph (n+2) "Reader.__init__"=bp 3 3 (jt (Ph (n+1))):=by kernel_rfl
def gG(ψ h:Str->GF):ES:=(aV (aB (mT Tb ψ) (vq (h "Reader.__init__") "Reader" (aA (U 0) (aA (Y (vC (.str "part"))) ay))) "read" ay))
theorem ll(n:Nat):Ph (n+2) "read_condition"=bp 1 1 (gG (Ph (n+1)) (Ph n)):=by kernel_rfl
def iJ (ψ:Str->GF):ES:=(ah (aO 2 (Y (au (pureOf (ψ "run_end")) (ab (vE (U 0)) (ab (vE (U 1)) (ab (vC (.str " ")) af))))))
  (ah (bI (bV (aI lA (Y (jv (vE (U 0)) (b9 (vE (U 2))) (b9 (aH aD (vE (U 2)) (vC (.int 1)))))) (Y (vC (.str "["))))) bH cM)
  (ah (aO 3 (Y (au (pureOf (ψ "bracket_end")) (ab (vE (U 0)) (ab (aH aD (vE (U 2)) (vC (.int 1))) af)))))
  (ah (aO 5 (Y (au (pureOf (ψ "read_condition")) (ab (jv (vE (U 0)) (b9 (aH aD (vE (U 2)) (vC (.int 1)))) (b9 (vE (U 3)))) af))))
  (aV (Y (aY (ab (vC (.str "when")) (ab (vE (U 5)) (ab (aH aD (vE (U 3)) (vC (.int 1))) af))))))))))
theorem mZ(n:Nat):Ph (n+2) "condition_at"=bp 2 6 (iJ (Ph (n+1))):=by kernel_rfl
def gH (ψ:Str->GF):ES:=(ah (aO 2 (Y (au (pureOf (ψ "run_end")) (ab (vE (U 0)) (ab (vE (U 1)) (ab (vC (.str "abcdefghijklmnopqrstuvwxyz")) af))))))
  (ah (aO 3 (Y (jv (vE (U 0)) (b9 (vE (U 1))) (b9 (vE (U 2))))))
  (ah (bI (rn (bT (Y (au (pureOf (ψ "is_pressed")) (ab (vE (U 0)) (ab (vE (U 1)) af))))) (bV (aH DX (d_ (U 3)) (vC (.int 10))))) bH cM)
  (ah (bI (bV (aI eB (U 3) (Y (vC (.str "when"))))) (aV (Y (au (pureOf (ψ "condition_at")) (ab (vE (U 0)) (ab (vE (U 2)) af))))) cM)
  (aV (Y (aY (ab (qA (bV (aI bb (U 3) (Y (vC (.tup [.str "or",.str "and",.str "not",.str "true",.str "dry",.str "some",.str "all",.str "each",.str "many",.str "at",.str "when",.str "letters",.str "to",.str "knows",.str "never",.str "always",.str "ahead",.str "of",.str "last",.str "whenever",.str "can"]))))) (vE (U 3)) (vC (.str "name"))) (ab (vE (U 3)) (ab (vE (U 2)) af))))))))))
theorem jX(n:Nat):Ph (n+2) "letters_at"=bp 2 4 (gH (Ph (n+1))):=by kernel_rfl
def j9(ψ:Str->GF):ES:=(aV (Y (au p7 (ab (qB (DV (vE (U 0))) [] 1 (cF 2) Gx (aI bb (U 2) (U 1))) af))))
theorem pS(n:Nat):Ph (n+2) "is_made_of"=bp 2 2 (j9 (Ph (n+1))):=by kernel_rfl
def fh (ψ:Str->GF):ES:=(ah (bI (mv (f6 (bV (mO Oj Oj (vC (.int 1)) (d_ (U 0)) (vC (.int 3)))) (bT (Y (au (pureOf (ψ "is_made_of")) (ab (vE (U 0)) (ab (vC (.str "0123456789")) af))))))) (aV (Y (vC (.bl false)))) cM)
  (aV (Y (vB (rn (bV (aI eB (U 0) (Y (vC (.str "0"))))) (bV (aI lA (Y (aH bX (vE (U 0)) (vC (.int 0)))) (Y (vC (.str "0"))))))))))
theorem qu(n:Nat):Ph (n+2) "is_number"=bp 1 1 (fh (Ph (n+1))):=by kernel_rfl
def kZ (ψ:Str->GF):ES:=(ah (aO 2 (Y (au (pureOf (ψ "run_end")) (ab (vE (U 0)) (ab (vE (U 1)) (ab (vC (.str "0123456789")) af))))))
  (ah (bI (rn (bT (Y (au (pureOf (ψ "is_pressed")) (ab (vE (U 0)) (ab (vE (U 1)) af))))) (mv (bT (Y (au (pureOf (ψ "is_number")) (ab (jv (vE (U 0)) (b9 (vE (U 1))) (b9 (vE (U 2)))) af)))))) bH cM)
  (aV (Y (aY (ab (vC (.str "number")) (ab (au iB (ab (jv (vE (U 0)) (b9 (vE (U 1))) (b9 (vE (U 2)))) af)) (ab (vE (U 2)) af))))))))
theorem qt(n:Nat):Ph (n+2) "number_at"=bp 2 3 (kZ (Ph (n+1))):=by kernel_rfl
def fA(ψ:Str->GF):ES:=(bI (bV (aI bb (U 3) (Y (vC (.tup [.str "=",.str "!=",.str "<",.str "<=",.str ">",.str ">="]))))) (aV (Y (aY (ab (vC (.str "compared")) (ab (vE (U 3)) (ab (aH aD (vE (U 1)) (d_ (U 3))) af)))))) cM)
def cX (ψ:Str->GF):ES:=(ah (aO 2 (Y (aH bX (vE (U 0)) (vE (U 1)))))
  (ah (bI (bV (aI bb (U 2) (Y (vC (.str "abcdefghijklmnopqrstuvwxyz"))))) (aV (Y (au (pureOf (ψ "letters_at")) (ab (vE (U 0)) (ab (vE (U 1)) af))))) cM)
  (ah (bI (bV (aI bb (U 2) (Y (vC (.str "0123456789"))))) (aV (Y (au (pureOf (ψ "number_at")) (ab (vE (U 0)) (ab (vE (U 1)) af))))) cM)
  (ah (bI (bV (aI bb (U 2) (Y (vC (.str "[]"))))) (aV (Y (aY (ab (vE (U 2)) (ab (vE (U 2)) (ab (aH aD (vE (U 1)) (vC (.int 1))) af)))))) cM)
  (ah (tu (DV (aY (ab (jv (vE (U 0)) (b9 (vE (U 1))) (b9 (aH aD (vE (U 1)) (vC (.int 2))))) (ab (vE (U 2)) af)))) (cF 3) (fA ψ))
  bH)))))
theorem eL(n:Nat):Ph (n+2) "piece_at"=bp 2 4 (cX (Ph (n+1))):=by kernel_rfl
def bx (ψ:Str->GF):ES:=(bI (bV (aI eB (Y (aH bX (vE (U 0)) (vE (U 2)))) (Y (vC (.str " "))))) (tz 2 (vC (.int 1))) (ah (tt (iF [cF 3,cF 4,cF 5]) (au (pureOf (ψ "piece_at")) (ab (vE (U 0)) (ab (vE (U 2)) af))))
  (ah (aR (cv (U 1) (Y (aY (ab (vE (U 3)) (ab (vE (U 4)) (ab (vE (U 2)) af)))))))
  (aO 2 (U 5)))))
def kY (ψ:Str->GF):ES:=(ah (aO 1 (zL af))
  (ah (aO 2 (Y (vC (.int 0))))
  (ah (dP 1000 (bV (aH vv (vE (U 2)) (d_ (U 0)))) (bx ψ))
  (ah (aR (cv (U 1) (Y (aY (ab (vC (.str "end")) (ab (vC (.str "")) (ab (d_ (U 0)) af)))))))
  (aV (U 1))))))
theorem qr(n:Nat):Ph (n+2) "pieces_of"=bp 1 6 (kY (Ph (n+1))):=by kernel_rfl
def fH (ψ:Str->GF):ES:=(ah (en (aT Att) (U 0) "pieces" (Y (au (pureOf (ψ "pieces_of")) (ab (vE (U 1)) af))))
  (ah (en (aT Att) (U 0) "spot" (Y (vC (.int 0))))
  (ah (en (aT Att) (U 0) "trees" (pT ay))
  (ah (en (aT Att) (U 0) "marks" (pT ay))
  (en (aT Att) (U 0) "wanted" (Y (vC (.bl true))))))))
theorem kG(n:Nat):Ph (n+2) "FactReader.__init__"=bp 2 2 (fH (Ph (n+1))):=by kernel_rfl
def kX(ψ h:Str->GF):ES:=(aV (aB (mT Tb ψ) (vq (h "FactReader.__init__") "FactReader" (aA (U 0) ay)) "fact_up_to" (aA (Y (vC (.str "end"))) ay)))
theorem qq(n:Nat):Ph (n+2) "read_fact"=bp 1 1 (kX (Ph (n+1)) (Ph n)):=by kernel_rfl
def jl(ψ:Str->GF):ES:=(bI (mv (bT (Y (au (pureOf (ψ "_law_same")) (ab (au (pureOf (ψ "read_fact")) (ab (vE (U 5)) af)) (ab (vE (U 2)) af)))))) (aV (Y (vC (.bl false)))) cM)
noncomputable def O(g:List Nat):Str:=⟨g.toArray⟩
@[simp] theorem cS(g:List Nat):(O g).length=g.length:=by simp[O,kg]
@[simp] theorem dh(g:List Nat):(O g).cps.toList=g:=by simp[O]
theorem bM(a b:List Nat):O a++O b=O (a++b):=by apply rK;simp[O,kh]
theorem EM(h:O a=O b):a=b:=by simpa using cc (λx:Str=>x.cps.toList) h
noncomputable def oM(c:Nat)(y:Str):Bool:=!(lH y ⟨#[c]⟩ 0 y.length 1).isEmpty
inductive Mk where
 |lb|rb|or|no|eq|ne|lt|le|gt|ge|pl|mi|ti
 deriving DecidableEq
noncomputable def Mk.lw:Mk->Nat
 | .lb | .rb=>0
 | .or=>1
 | .no=>3
 | .pl | .mi=>5
 | .ti=>6
 |_=>4
noncomputable def Mk.tx:Mk->List Nat
 | .lb=>[91]
 | .rb=>[93]
 | .or=>[111,114]
 | .no=>[110,111,116]
 | .eq=>[61]
 | .ne=>[33,61]
 | .lt=>[60]
 | .le=>[60,61]
 | .gt=>[62]
 | .ge=>[62,61]
 | .pl=>[43]
 | .mi=>[45]
 | .ti=>[42]
def Mk.sg(m:Mk):Str:=O m.tx
noncomputable def Mk.wd:Mk->Bool
 | .or | .no=>true
 |_=>false
def m_(c:Nat):Prop:=97≤c/\c≤122
def vQ(c:Nat):Prop:=48≤c/\c≤57
def An(c:Nat):Prop:=m_ c\/vQ c
noncomputable instance(c:Nat):Decidable (An c):=by unfold An m_ vQ;infer_instance
structure Num(n:Nat)(c:List Nat):Prop where
 ne:c≠[]
 le:c.length≤3
 al:∀x ∈ c,vQ x
 z:c[0]? = some 48->c.length=1
 v:iB [.str (O c)]=some (.int (n:Int))
structure Wrd(c:List Nat):Prop where
 ne:c≠[]
 le:c.length≤10
 al:∀x ∈ c,m_ x
inductive Tk where
 |w (c:List Nat)|n (k:Nat) (c:List Nat)|s (m:Mk)
noncomputable def Tk.tx:Tk->List Nat
 | .w c=>c
 | .n _ c=>c
 | .s m=>m.tx
def Tk.ok:Tk->Prop
 | .w c=>Wrd c
 | .n k c=>Num k c
 | .s m=>m.wd=false
noncomputable def Tk.an:Tk->Bool
 | .s _=>false
 |_=>true
def NA(t:List Nat):Prop:=∀c r,t=c::r->¬An c
theorem mS:NA []:=λ_ _ z=>nomatch z
variable{c:Nat}
theorem pD(h:¬An c):NA (c::r):=λ_ _ z=>by cases z;exact h
inductive Sp:List Tk->List Nat->Prop
 |nil:Sp [] []
 |bl {ts t:_}:Sp ts t->Sp ts (32::t)
 |tk {k ts t:_}:k.ok->Sp ts t->(k.an=true->NA t)->Sp (k::ts) (k.tx++t)
variable{k:Tk}
theorem Tk.ne(h:k.ok):k.tx≠[]:=by
 cases k with
 |w c=>exact h.ne
 |n k c=>exact h.ne
 |s m=>cases m<;>exact λz=>nomatch z
variable{m:Mk}
theorem CA(h:m.wd=false):∀c ∈ m.tx,c < 128/\c≠32/\¬An c:=by cases m<;>first|exact absurd h (by decide)|decide
theorem Tk.ch(h:k.ok):(∀c ∈ k.tx,c < 128/\c≠32)/\(k.an=true->∀c ∈ k.tx,An c)/\(k.an=false->∀c ∈ k.tx,¬An c):=by
 cases k with
 |w c=>exact⟨λx a=>by have:=h.al x a;unfold m_ at this;lia,λ_ x a=>.inl (h.al x a),λz=>nomatch z⟩
 |n k c=>exact⟨λx a=>by have:=h.al x a;unfold vQ at this;lia,λ_ x a=>.inr (h.al x a),λz=>nomatch z⟩
 |s m=>exact⟨λc z=>⟨(CA h c z).1,(CA h c z).2.1⟩,λz=>(nomatch z),λ_ c z=>(CA h c z).2.2⟩
variable{u:List Tk}{x:List Nat}
theorem Sp.ch(h:Sp u x):∀c ∈ x,c < 128:=by
 induction h with
 |nil=>exact λ_ z=>nomatch z
 |bl _ i=>exact λc z=>(aU.mp z).elim (λe=>by lia) (i c)
 |tk hk _ _ i=>exact λc z=>(dD.mp z).elim (λe=>((Tk.ch hk).1 c e).1) (i c)
variable{y:List Nat}
theorem Sp.app(s:NA y)(h:Sp a x)(e:Sp b y):Sp (a++b) (x++y):=by
 induction h with
 |nil=>exact e
 |bl _ i=>exact .bl i
 | @tk k u t hk _ n i=>
  rw[eZ];refine .tk hk i λz=>?_;cases t with
  |nil=>exact s
  |cons c r=>exact pD (n z c r rfl)
theorem Sp.appB(h:Sp a x)(e:Sp b y):Sp (a++b) (x++32::y):=h.app (pD (by decide)) (.bl e)
theorem Sp.one(h:k.ok):Sp [k] k.tx:=by have:=Sp.tk h .nil λ_=>mS;rwa [cg]at this
theorem Sp.sg(m:Mk)(h:m.wd=false)(a:Sp u x):Sp (.s m::u) (m.tx++x):=.tk h a λz=>nomatch z
theorem Sp.bls(h:Sp u x):∀j,Sp u (List.replicate j 32++x)
 |0=>h
 |j+1=>.bl (h.bls j)
theorem Sp.dbl(h:Sp u x):Sp u (nT 32 x):=by
 induction h with
 |nil=>exact .nil
 |bl _ i=>exact .bl (.bl i)
 | @tk k u t hk _ n i=>
  rw[StrLaws.dbl_append,StrLaws.dbl_free 32 k.tx λz=>((Tk.ch hk).1 32 z).2 rfl];refine .tk hk i λz=>?_;cases t with
  |nil=>exact mS
  |cons c r=>unfold nT;split<;>exact pD (n z c r rfl)
theorem Sp.nob(h:Sp u (32::x)):Sp u x:=by
 generalize e:32::x=y at h;cases h with
 |nil=>cases e
 |bl h=>cases e;exact h
 | @tk k u t hk h n=>
  cases s:k.tx with
  |nil=>exact absurd s (Tk.ne hk)
  |cons a r=>rw[s]at e;cases e;exact absurd rfl ((Tk.ch hk).1 32 (by rw[s];exact aM)).2
inductive Del(c:Nat):List Nat->List Nat->Prop
 |nil:Del c [] []
 |sk (a:Nat) {x y:_}:Del c x y->Del c (a::x) (a::y)
 |l {x y:_}:Del c x y->Del c (32::c::x) (c::y)
 |r {x y:_}:Del c x y->Del c (c::32::x) (c::y)
theorem Del.rfl:∀x:List Nat,Del c x x
 | []=>.nil
 |a::x=>.sk a (Del.rfl x)
theorem Del.app(h:Del c x y):∀a:List Nat,Del c (a++x) (a++y)
 | []=>h
 |b::a=>.sk b (h.app a)
theorem Del.cnt(h:Del c x y):y.count 32≤x.count 32/\y.length≤x.length:=by
 induction h with
 |nil=>exact⟨aq _,aq _⟩
 |sk a _ i=>simp only[g_,ak];lia
 |l _ i=>simp only[g_,ak];lia
 |r _ i=>simp only[g_,ak];lia
theorem Del.pre(d:c≠32):∀(k t y:List Nat),Del c (k++t) y->(∀a ∈ k,a≠32)->∃s,y=k++s/\(Del c t s\/∃n,t=32::n/\Del c n s/\c ∈ k)
 | [],t,y,h,_=>⟨y,Eq.refl _,.inl h⟩
 |a::k,t,y,h,hk=>by
  have v:=hk a aM;generalize e:(a::k)++t=z at h;cases h with
  |nil=>cases e
  |sk b h=>
   cases e;obtain⟨s,rfl,q⟩:=Del.pre d k t _ h λx w=>hk x (aW _ w)
   exact⟨s,Eq.refl _,q.imp id λu=>by obtain⟨n,f,m,p⟩:=u;exact⟨n,f,m,aW _ p⟩⟩
  |l h=>exact absurd (List.cons.inj e).1 v
  | @r x y h=>
   cases k with
   |nil=>cases e;exact⟨_,Eq.refl _,.inr ⟨_,Eq.refl _,h,aM⟩⟩
   |cons b k=>cases e;exact absurd (Eq.refl _) (hk 32 (aW _ aM))
theorem Del.na(x:¬An c)(h:Del c t y)(n:NA t):NA y:=by
 cases h with
 |nil=>exact n
 |sk a h=>exact pD (n _ _ (Eq.refl _))
 |l h=>exact pD x
 |r h=>exact pD x
theorem Sp.del(s:c≠32)(e:¬An c)(h:Sp u x):∀y,Del c x y->Sp u y:=by
 induction h with
 |nil=>intro y d;cases d;exact .nil
 |bl h i=>
  intro y d;cases d with
  |sk a d=>exact .bl (i _ d)
  |l d=>exact i _ (.sk c d)
  |r d=>exact absurd rfl s
 | @tk k u t hk h n i=>
  intro y d;obtain⟨f,rfl,q⟩:=Del.pre s k.tx t y d λa z=>((Tk.ch hk).1 a z).2
  rcases q with q|⟨b,rfl,q,m⟩
  .exact .tk hk (i _ q) λz=>q.na e (n z)
  .exact .tk hk (i _ (.sk 32 q)).nob λz=>absurd ((Tk.ch hk).2.1 z c m) e
theorem Sp.view(h:Sp (k::u) x):∃j y,x=List.replicate j 32++(k.tx++y)/\k.ok/\Sp u y/\(k.an=true->NA y):=by
 generalize e:k::u=s at h;induction h with
 |nil=>cases e
 |bl _ i=>obtain⟨j,y,rfl,q⟩:=i e;exact⟨j+1,y,rfl,q⟩
 |tk hk h n=>cases e;exact⟨0,_,rfl,hk,h,n⟩
theorem Sp.end'(h:Sp [] x):x=List.replicate x.length 32:=by
 generalize e:([]:List Tk)=u at h;induction h with
 |nil=>rfl
 |bl _ i=>rw[ak,b4,<- i e]
 |tk=>cases e
theorem Sp.split:∀{a b:List Tk}{x:List Nat},Sp (a++b) x->∃y z,x=y++z/\Sp a y/\Sp b z
 | [],b,x,h=>⟨[],x,rfl,.nil,h⟩
 |k::a,b,x,h=>by
  obtain⟨j,y,rfl,hk,h,n⟩:=h.view;obtain⟨u,v,rfl,e,s⟩:=h.split;exact⟨List.replicate j 32++(k.tx++u),v,by simp,(Sp.tk hk e fun z=>by
   cases u with
   |nil=>exact mS
   |cons c r=>exact pD (n z c _ rfl)).bls j,s⟩
theorem EY{x:Str}{a c:Nat}(h:c≤x.length)(e:a≤c):x.cps.toList.drop a=(nY x a c).cps.toList++x.cps.toList.drop c:=by
 rw[xu];have:x.cps.toList.drop c=(x.cps.toList.drop a).drop (c-a):=by rw[yg];congr 1;lia
 rw[this,yx]
theorem re{x y z:Str}{c:Nat}(s:∀u v,Del c u v->Del c (y.cps.toList++u) (z.cps.toList++v)):∀(t:List Nat)(a f:Nat),StrLaws.ChainTo x y x.length a t f->Del c (x.cps.toList.drop a) (Str.join z (xt x y.length a t)).cps.toList
 | [],a,_,_=>by show Del c _ (nY x a x.length).cps.toList;rw[xu,ow (by simp[kg])];exact .rfl _
 |d::r,a,f,h=>by
  obtain⟨p,q,e⟩:=StrLaws.partsFrom_ne x y.length (d+y.length) r;have i:=re s r (d+y.length) f h.2.2;show Del c _ (Str.join z (nY x a d::xt x y.length (d+y.length) r)).cps.toList;rw[e]at i ⊢;show Del c _ (nY x a d++z++Str.join z (p::q)).cps.toList;have b:=h.2.1.1;rw[EY (c:=d) (by lia) h.1];have n:x.cps.toList.drop d=y.cps.toList++x.cps.toList.drop (d+y.length):=by have:=h.2.1.2;rw[StrLaws.subAt_eq]at this;rw[<- yg,<- eq_of_beq this,yx]
  rw[n,kh,kh,lV,lV,eZ];exact(s _ _ i).app _
theorem zd{x y z:Str}{c:Nat}(a:∀u v,Del c u v->Del c (y.cps.toList++u) (z.cps.toList++v)):Del c x.cps.toList (Txt.replace x y z).cps.toList:=by
 unfold Txt.replace;split
 .exact .rfl _
 .obtain⟨f,h⟩:=StrLaws.occ_chain x y (x.length+1);rw[rH,StrLaws.partsBetween_eq];exact re a _ 0 f h
noncomputable def RK:LS:=["text","spot","sought","wanted","trees","marks"]
def St(g:List Nat)(i:Nat)(w:Str)(u:List P)(H:LS):aP:=
 [.ins "Reader" RK [.p (.str (O g)),.p (.int (i:Int)),.p (.str "part"),.p (.str w),.ref 1,.ref 2],.lst (u.map .p),.lst (H.map λm=>.p (.str m))]
section
variable(a b c d e f:D)(y:D)(ψ:Str->GF)
@[simp] theorem RY:eQ "text" RK [a,b,c,d,e,f]=some a/\eQ "spot" RK [a,b,c,d,e,f]=some b/\eQ "sought" RK [a,b,c,d,e,f]=some c/\eQ "wanted" RK [a,b,c,d,e,f]=some d/\eQ "trees" RK [a,b,c,d,e,f]=some e/\eQ "marks" RK [a,b,c,d,e,f]=some f:=by
 (repeat' apply And.intro)<;>kernel_rfl
@[simp] theorem RW:Ev.putK "spot" RK=RK/\Ev.putK "wanted" RK=RK:=by constructor<;>kernel_rfl
@[simp] theorem RV:gM "spot" y RK [a,b,c,d,e,f]=[a,y,c,d,e,f]/\gM "wanted" y RK [a,b,c,d,e,f]=[a,b,c,y,e,f]:=by
 (repeat' apply And.intro)<;>kernel_rfl
@[simp] theorem RT:RK.length=6:=rfl
@[simp] theorem Sj:aT Att "Reader" "text"=true/\aT Att "Reader" "spot"=true/\aT Att "Reader" "sought"=true/\aT Att "Reader" "wanted"=true/\aT Att "Reader" "trees"=true/\aT Att "Reader" "marks"=true:=by
 (repeat' apply And.intro)<;>kernel_rfl
@[simp] theorem RX:mT Tb ψ "Reader" "run_of"=some (ψ "Reader.run_of")/\mT Tb ψ "Reader" "skip_blanks"=some (ψ "Reader.skip_blanks")/\mT Tb ψ "Reader" "fold"=some (ψ "Reader.fold")/\mT Tb ψ "Reader" "has_sum"=some (ψ "Reader.has_sum")/\mT Tb ψ "Reader" "last_mark"=some (ψ "Reader.last_mark")
  /\ mT Tb ψ "Reader" "read_end"=some (ψ "Reader.read_end")/\mT Tb ψ "Reader" "touches"=some (ψ "Reader.touches")/\mT Tb ψ "Reader" "keep"=some (ψ "Reader.keep")/\mT Tb ψ "Reader" "read_number"=some (ψ "Reader.read_number")/\mT Tb ψ "Reader" "push"=some (ψ "Reader.push"):=by
 (repeat' apply And.intro)<;>kernel_rfl
@[simp] theorem Rh:mT Tb ψ "Reader" "read_letters"=some (ψ "Reader.read_letters")/\mT Tb ψ "Reader" "read_beginning"=some (ψ "Reader.read_beginning")/\mT Tb ψ "Reader" "read_sign"=some (ψ "Reader.read_sign")/\mT Tb ψ "Reader" "read_behind"=some (ψ "Reader.read_behind")/\mT Tb ψ "Reader" "read"=some (ψ "Reader.read")
  /\ mT Tb ψ "Reader" "read_comparison"=some (ψ "Reader.read_comparison")/\mT Tb ψ "Reader" "read_joint"=some (ψ "Reader.read_joint"):=by
 (repeat' apply And.intro)<;>kernel_rfl
@[simp] theorem RU:(("run_of":Str) ∈ RK↔False)/\(("skip_blanks":Str) ∈ RK↔False)/\(("fold":Str) ∈ RK↔False)/\(("has_sum":Str) ∈ RK↔False)/\(("last_mark":Str) ∈ RK↔False)/\(("read_end":Str) ∈ RK↔False)/\(("touches":Str) ∈ RK↔False)/\(("keep":Str) ∈ RK↔False)/\(("read_number":Str) ∈ RK↔False):=by simp only[oe];decide +kernel
@[simp] theorem Rc:(("push":Str) ∈ RK↔False)/\(("read_letters":Str) ∈ RK↔False)/\(("read_beginning":Str) ∈ RK↔False)/\(("read_sign":Str) ∈ RK↔False)/\(("read_behind":Str) ∈ RK↔False)/\(("read":Str) ∈ RK↔False)/\(("read_comparison":Str) ∈ RK↔False)/\(("read_joint":Str) ∈ RK↔False):=by simp only[oe];decide +kernel
end
@[simp] theorem ND(s:List r)(x:r):L2.atI (s++[x]) (-1)=some x:=by
 have h:L2.Hi (s++[x]).length (-1)=some s.length:=by unfold L2.Hi;rw[ae (by decide)];rw[aL,yv,ac (by lia)];congr 1;lia
 unfold L2.atI;rw[h];simp
variable{w:Str}{g:List Nat}{i:Nat}{u:List P}{H:LS}
theorem oD(e:2≤n)(m h:Str)(a:H.length≤1000)(l:m.length≤1000000):Ph n "Reader.push" [.ref 0,.p (.str m),.p (.str h)] (St g i w u H)=some (.p .non,St g (i+m.length) h u (H++[m])):=by
 obtain⟨n,rfl⟩:=eK (n:=n) (by first|assumption|lia);have x:H.length≤1000000:=by lia
 rw[nG];simp[bp,jr,St,fk,x,b8,cE,l]
theorem zy(x:2≤n)(t:P)(k:Nat)(m:u.length≤1000):Ph n "Reader.keep" [.ref 0,.p t,.p (.int (k:Int))] (St g i w u H)=some (.p .non,St g (i+k) "" (u++[t]) H):=by
 obtain⟨n,rfl⟩:=eK (n:=n) (by first|assumption|lia);have h:u.length≤1000000:=by lia
 rw[nH];simp[bp,js,St,fk,h]
theorem uY(h:2≤n):Ph n "Reader.last_mark" [.ref 0] (St g i w u [])=some (.p (.str ""),St g i w u []):=by obtain⟨n,rfl⟩:=eK (n:=n) (by first|assumption|lia);rw[fm];simp[bp,dv,St,lW]
theorem Ar(h:2≤n)(m:Str):Ph n "Reader.last_mark" [.ref 0] (St g i w u (H++[m]))=some (.p (.str m),St g i w u (H++[m])):=by obtain⟨n,rfl⟩:=eK (n:=n) (by first|assumption|lia);rw[fm];simp[bp,dv,St,lW]
noncomputable def Mk.kd:Mk->Str
 | .or=>"or"
 | .no=>"not"
 | .pl=>"plus"
 | .mi=>"minus"
 | .ti=>"times"
 | .lb | .rb=>""
 |_=>"is"
def Mk.fo(m:Mk)(e o:P):P:=if m.lw=4 then .tup [.str "is",.str m.sg,e,o] else .tup [.str m.kd,e,o]
inductive Fo(l:Nat):List Mk->List P->List Mk->List P->Prop
 |st {ms:List Mk}{ts:List P}:(∀m r,ms=m::r->1≤m.lw/\m.lw < l)->Fo l ms ts ms ts
 |no {ms ms':List Mk}{o:P}{ts ts':List P}:l≤3->Fo l ms (.tup [.str "not",o]::ts) ms' ts'->Fo l (.no::ms) (o::ts) ms' ts'
 |tw {m:Mk}{ms ms':List Mk}{o e:P}{ts ts':List P}:1≤m.lw->l≤m.lw->m.lw≠3->Fo l ms (m.fo e o::ts) ms' ts'->Fo l (m::ms) (o::e::ts) ms' ts'
variable{l:Nat}{H:List Mk}{p:List Mk}{A:List P}
theorem Fo.len(h:Fo l H u p A):p.length≤H.length/\A.length≤u.length:=by
 induction h with
 |st=>exact⟨aq _,aq _⟩
 |no _ _ i=>simp only[ak]at i ⊢;lia
 |tw _ _ _ _ i=>simp only[ak]at i ⊢;lia
def Sr(g:List Nat)(i:Nat)(w:Str)(H:List Mk)(u:List P):aP:=St g i w u.reverse (H.reverse.map Mk.sg)
theorem MR(h:1≤m.lw):bz m.sg [(("(":Str),P.int 0),("[",.int 0),("or",.int 1),("and",.int 2),("not",.int 3),("=",.int 4),("!=",.int 4),("<",.int 4),("<=",.int 4),(">",.int 4),(">=",.int 4),("+",.int 5),("-",.int 5),("*",.int 6)]=some (.int (m.lw:Int)):=by cases m<;>first|exact absurd h (by decide)|kernel_rfl
theorem Ri(h:1≤m.lw)(x:m.lw≠3)(a:m.lw≠4):bz m.sg [(("or":Str),P.str "or"),("and",.str "and"),("+",.str "plus"),("-",.str "minus"),("*",.str "times")]=some (.str m.kd):=by cases m<;>first|exact absurd rfl a|exact absurd rfl x|exact absurd h (by decide)|kernel_rfl
theorem Jb(h:m.lw≠3):¬m.sg=("not":Str):=by cases m<;>first|exact absurd rfl h|decide +kernel
theorem Cz(m:Mk)(S:aP):bb (.p (.str m.sg)) (.p (.tup [.str "=",.str "!=",.str "<",.str "<=",.str ">",.str ">="])) S=some (.bl (decide (m.lw=4))):=by cases m<;>kernel_rfl
theorem F7(ψ:Str->GF)(h:Fo l H u p A):∀(f:Nat)(d j b:Option D),H.length < f->u.length≤1000 ->
  ∃q s n,bh (f6 (bT (bc (aT Att) (U 0) "marks")) (bV (aH Hq (k_ [("(",.int 0),("[",.int 0),("or",.int 1),("and",.int 2),("not",.int 3),("=",.int 4),("!=",.int 4),("<",.int 4),("<=",.int 4),(">",.int 4),(">=",.int 4),("+",.int 5),("-",.int 5),("*",.int 6)] (vE (qX (bc (aT Att) (U 0) "marks") (GO uh (vC (.int 1)))))) (vE (U 1))))) (b3 ψ) f
   [some (.ref 0),some (.p (.int (l:Int))),d,j,b] (Sr g i w H u)=some (.nx,[some (.ref 0),some (.p (.int (l:Int))),q,s,n],Sr g i w p A):=by
 induction h with
 | @st H u G=>
  intro f d j b y _;obtain⟨f,rfl⟩:∃k,f=k+1:=⟨f-1,by lia⟩;refine⟨d,j,b,df ?_⟩;cases H with
  |nil=>simp[Sr,St,lW]
  |cons m r=>
   have v:=MR (G m r rfl).1;have x:¬(l:Int)≤(m.lw:Int):=by have:=(G m r rfl).2;lia
   have a:¬l≤m.lw:=by lia
   simp[Sr,St,lW,v,x,a]
 | @no H p o u A P _ B=>
  intro f d j b y z;obtain⟨f,rfl⟩:∃k,f=k+1:=⟨f-1,by lia⟩;simp only[ak]at y z;obtain⟨q,s,n,K⟩:=B f (some (.p (.str Mk.no.sg))) (some (.p o)) b (by lia) (by simpa using z);refine⟨q,s,n,?_⟩;rw[<- K];have t:u.length≤1000000:=by lia
  have v:=MR (m:=.no) (by decide);have S:Mk.no.sg=("not":Str):=by decide +kernel
  have x:(l:Int)≤(Mk.no.lw:Int):=by show(l:Int)≤3;lia
  have a:l≤Mk.no.lw:=P;refine wC (h:=Sr g i w (.no::H) (o::u)) ?_ ?_
  .simp [Sr,St,lW,v,x,a]
  .simp [b3,Sr,St,fk,S,t]
 | @tw m H p o e u A C P E _ B=>
  intro f d j b y z;obtain⟨f,rfl⟩:∃k,f=k+1:=⟨f-1,by lia⟩;simp only[ak]at y z;obtain⟨q,s,n,K⟩:=B f (some (.p (.str m.sg))) (some (.p o)) (some (.p e)) (by lia) (by simp;lia);refine⟨q,s,n,?_⟩;rw[<- K];have t:u.length≤1000000:=by lia
  have v:=MR C;have x:(l:Int)≤(m.lw:Int):=by lia
  have S:=Jb E;have F:=Cz m;refine bY (h:=Sr g i w (m::H) (o::e::u)) ?_ ?_
  .simp [Sr,St,lW,v,x,P]
  .by_cases c:m.lw=4
   .simp only[c,decide_true]at F;simp[b3,Sr,St,fk,S,F,t,Mk.fo,c]
   .simp only[c,rY]at F;have I:=Ri C E c;simp[b3,Sr,St,fk,I,S,F,t,Mk.fo,c]
theorem kz(x:2≤n)(h:Fo l H u p A)(m:H.length < 1000)(t:u.length≤1000):Ph n "Reader.fold" [.ref 0,.p (.int (l:Int))] (Sr g i w H u)=some (.p .non,Sr g i w p A):=by obtain⟨n,rfl⟩:=eK (n:=n) (by first|assumption|lia);obtain⟨q,a,s,e⟩:=F7 (g:=g) (i:=i) (w:=w) (Ph (n+1)) h 1000 none none none m t;rw[nJ];unfold bp ju dP;simp only[ak,a',a6,gZ,iP,cI,yc,List.replicate,yb,fM];rw[e];rfl
variable{w:Str}{g:List Nat}{i:Nat}{u:List P}{H:LS}
noncomputable instance(c:Nat):Decidable (m_ c):=by unfold m_;infer_instance
noncomputable instance(c:Nat):Decidable (vQ c):=by unfold vQ;infer_instance
theorem inT:∀c < 128,oM c "abcdefghijklmnopqrstuvwxyz"=decide (m_ c)/\oM c "0123456789"=decide (vQ c)/\oM c ("abcdefghijklmnopqrstuvwxyz"++"0123456789")=decide (An c)/\oM c " "=decide (c=32):=by decide +kernel
theorem jo(c:Nat)(y:Str)(S:aP):bb (.p (.str ⟨#[c]⟩)) (.p (.str y)) S=some (.bl (oM c y)):=rfl
theorem cL(p:List h)(c:h)(r:List h):L2.atI (p++c::r) (p.length:Int)=some c:=dZ (by lia) (by simp)
theorem bN{k:Int}(x:g.length≤1000000)(h:L2.atI g k=some c):bX (.str (O g)) (.int k)=some (.str ⟨#[c]⟩):=by simp only[bX,cS,dh,h];rw[ac (by rw[mq];exact x)];rfl
def No(y:Str)(p:List Nat):Prop:=∀c r,p=c::r->oM c y=false
theorem JH(h:L[0]? = some (some (.ref 0))):bc (aT Att) (U 0) "spot" L (St g i w u H)=some (.p (.int (i:Int)),St g i w u H):=by simp[h,St]
theorem JG(h:L[0]? = some (some (.ref 0))):bc (aT Att) (U 0) "text" L (St g i w u H)=some (.p (.str (O g)),St g i w u H):=by simp[h,St]
theorem BS(ψ:Str->GF)(y:Str)(a:g.length≤1000000):∀(run p o:List Nat)(f:Nat),g=p++(run++o)->(∀c ∈ run,oM c y=true)->No y o->run.length < f ->
  bh (f6 (bV (aH vv (vE (U 2)) (d_ (bc (aT Att) (U 0) "text")))) (bV (aI bb (qX (bc (aT Att) (U 0) "text") (vE (U 2))) (U 1)))) (du ψ) f
   [some (.ref 0),some (.p (.str y)),some (.p (.int (p.length:Int)))] (St g i w u H)=some (.nx,[some (.ref 0),some (.p (.str y)),some (.p (.int ((p.length+run.length:Nat):Int)))],St g i w u H)
 |run,p,o,0,_,_,_,h=>by lia
 | [],p,o,f+1,s,_,m,_=>by
  refine df ?_;cases o with
  |nil=>
   have k:g.length=p.length:=by rw[s];simp
   have n:p.length≤1000000:=by lia
   simp[St,b8,cE,a,k,n]
  |cons c r=>
   have k:p.length < g.length:=by rw[s];simp
   have l:(p.length:Int) < (g.length:Int):=by lia
   have d:=bN a (show L2.atI g (p.length:Int)=some c by rw[s];exact cL p c r);have b:=m c r rfl;simp[St,b8,cE,a,k,l,d,jo,b]
 |c::run,p,o,f+1,s,t,m,q=>by
  have e:=BS ψ y a run (p++[c]) o f (by rw[s];simp) (λx v=>t x (aW _ v)) m (by simp at q;lia);have k:p.length < g.length:=by rw[s];simp
  have l:(p.length:Int) < (g.length:Int):=by lia
  have d:=bN a (show L2.atI g (p.length:Int)=some c by rw[s];exact cL p c _);have b:=t c aM;rw[bY (h:=St g i w u H) (L2:=[some (.ref 0),some (.p (.str y)),some (.p (.int ((p++[c]).length:Int)))]) (x:=St g i w u H) (by simp[St,b8,cE,a,k,l,d,jo,b]) (by simp[du])];rw[e];simp;lia
theorem z9(p run o:List Nat):Txt.slice (O (p++(run++o))) (some (p.length:Int)) (some ((p.length+run.length:Nat):Int))=O run:=by
 have h:=DY (x:=O (p++(run++o))) (i:=(p.length:Int)) (j:=((p.length+run.length:Nat):Int)) ⟨by lia,by lia,by simp;lia⟩;have e:Txt.slice (O (p++(run++o))) (some (p.length:Int)) (some ((p.length+run.length:Nat):Int))=nU (O (p++(run++o))) (some (p.length:Int)) (some ((p.length+run.length:Nat):Int)):=rfl;rw[e,h];have a:((p.length:Int)).toNat=p.length:=by lia
 have s:(((p.length+run.length:Nat):Int)-(p.length:Int)).toNat=run.length:=by lia
 rw[a,s];simp[O]
theorem hV{p run o:List Nat}(h:(p++(run++o)).length≤1000000):pV (.str (O (p++(run++o)))) (some (p.length:Int)) (some ((p.length+run.length:Nat):Int))=some (.str (O run)):=by simp only[pV,cS];rw[ac (by rw[mq];exact h),z9]
theorem pq{n:Nat}(m:2≤n)(y:Str)(r run s:List Nat)(h:(r++(run++s)).length≤1000000)(b:∀c ∈ run,oM c y=true)(k:No y s)(f:run.length < 1000) :
  Ph n "Reader.run_of" [.ref 0,.p (.str y)] (St (r++(run++s)) r.length w u H)=some (.p (.str (O run)),St (r++(run++s)) r.length w u H):=by
 obtain⟨n,rfl⟩:=eK (n:=n) (by first|assumption|lia);have e:=BS (w:=w) (i:=r.length) (u:=u) (H:=H) (Ph (n+1)) y h run r s 1000 rfl b k f;have d:=hV h;rw[ml];generalize r++(run++s)=g at *
 generalize r.length+run.length=j at *
 generalize r.length=p at *
 have x:=λo=>JH (g:=g) (i:=p) (w:=w) (u:=u) (H:=H) (L:=[some (.ref 0),some (.p (.str y)),o]) rfl;have a:=λo=>JG (g:=g) (i:=p) (w:=w) (u:=u) (H:=H) (L:=[some (.ref 0),some (.p (.str y)),o]) rfl;simp[bp,h_,dP,-bc,x,e,a,d]
theorem y_(f:3≤n)(r p:List Nat)(k:Nat)(h:(r++(List.replicate k 32++p)).length≤1000000)(s:No " " p)(hk:k < 1000) :
  Ph n "Reader.skip_blanks" [.ref 0] (St (r++(List.replicate k 32++p)) r.length w u H)=some (.p .non,St (r++(List.replicate k 32++p)) (r.length+k) w u H):=by
 obtain⟨n,rfl⟩:=eK (n:=n) (by first|assumption|lia);have e:=pq (w:=w) (u:=u) (H:=H) (n:=n+1) (by lia) " " r (List.replicate k 32) p h (λc a=>by rw[(ou.mp a).2];decide +kernel) s (by simpa using hk);rw[i8];have x:k≤1000000:=by lia
 generalize r++(List.replicate k 32++p)=g at *
 simp only[St]at e;simp[bp,eP,St,e,b8,cE,x]
def my(b:Bool)(t:P):Prop:=∃k r,t=.tup (.str k::r)/\∀S,bb (.p (.str k)) (.p (.tup [.str "number",.str "name",.str "plus",.str "minus",.str "times"])) S=some (.bl b)
theorem BJ(x:5≤m.lw)(a b:P):my true (m.fo a b):=by
 have h:¬m.lw=4:=by lia
 exact⟨m.kd,[a,b],by simp[Mk.fo,h],λS=>by cases m<;>first|exact absurd x (by decide)|kernel_rfl⟩
theorem y9(S:Str)(b:Bool)(r:List P)(h:bb (.p (.str S)) (.p (.tup [.str "number",.str "name",.str "plus",.str "minus",.str "times"])) []=some (.bl b)):my b (.tup (.str S::r)):=⟨_,_,rfl,λ_=>h⟩
theorem ub(x:2≤n)(H:List Mk)(t:P)(u:List P)(h:my b t):Ph n "Reader.has_sum" [.ref 0] (Sr g i w H (t::u))=some (.p (.bl b),Sr g i w H (t::u)):=by obtain⟨n,rfl⟩:=eK (n:=n) (by first|assumption|lia);obtain⟨k,r,rfl,hk⟩:=h;rw[ln];simp[bp,gK,Sr,St,hk]
def j'(g:List Nat)(i:Nat):Prop:=i=0\/∃c,L2.atI g ((i:Int)-1)=some c/\oM c ("abcdefghijklmnopqrstuvwxyz"++"0123456789")=false
theorem uF(m:2≤n)(a:g.length≤1000000)(h:j' g i) :
  Ph n "Reader.touches" [.ref 0] (St g i w u H)=some (.p (.bl false),St g i w u H):=by
 obtain⟨n,rfl⟩:=eK (n:=n) (by first|assumption|lia);rw[lm];by_cases x:i=0
 .subst x;simp[bp,ej,St]
 .rcases h with h|⟨c,s,k⟩
  .exact absurd h x
  .have d:=bN a s;have b:(0:Int) < (i:Int):=by lia
   have p:0 < i:=by lia
   have f:aD (.str ("abcdefghijklmnopqrstuvwxyz":Str)) (.str ("0123456789":Str))=some (.str ("abcdefghijklmnopqrstuvwxyz"++"0123456789")):=by kernel_rfl
   have e:=λS=>jo c ("abcdefghijklmnopqrstuvwxyz"++"0123456789":Str) S;rw[k]at e;simp[bp,ej,St,d,b,p,-bi,f,e]
variable{w:Str}{g:List Nat}{i:Nat}{u:List P}{H:List Mk}
theorem IX(E:3≤n)(k:Nat)(p run o:List Nat)(N:Num k run)(q:∀c ∈ run,oM c "0123456789"=true)(h:(p++(run++o)).length≤1000000)(C:No "0123456789" o)(D:u.length≤1000)(r:j' (p++(run++o)) p.length) :
  Ph n "Reader.read_number" [.ref 0] (Sr (p++(run++o)) p.length w H u)=some (.p .non,Sr (p++(run++o)) (p.length+run.length) "" H (.tup [.str "number",.int (k:Int)]::u)):=by
 obtain⟨n,rfl⟩:=eK (n:=n) (by first|assumption|lia);have A:=N.le;have s:=uF (w:=w) (n:=n+1) (by lia) (u:=u.reverse) (H:=H.reverse.map Mk.sg) h r;have f:=pq (w:=w) (n:=n+1) (by lia) (u:=u.reverse) (H:=H.reverse.map Mk.sg) "0123456789" p run o h q C (by lia);have e:=zy (w:=w) (g:=p++(run++o)) (i:=p.length) (n:=n+1) (by lia) (u:=u.reverse) (H:=H.reverse.map Mk.sg) (.tup [.str "number",.int (k:Int)]) run.length (by simpa using D);have F:=N.v;rw[i9];obtain⟨m,y⟩:∃a,run[0]? = some a:=by
  cases run with
  |nil=>exact absurd rfl N.ne
  |cons a b=>exact⟨a,rfl⟩
 have S:bX (.str (O run)) (.int 0)=some (.str ⟨#[m]⟩):=bN (by lia) (dZ (by decide) y);have B:p6 [.int (run.length:Int),.int 3]=some (.int (run.length:Int)):=by
  simp only[p6];first
   |(rw[ac (by lia)])
   |(rw[ae (by lia)])
   |(congr 2;lia)
 have l:run.length≤1000000:=by lia
 have j:=N.z;generalize P:p++(run++o)=g at *
 rw[show Sr g (p.length+run.length) "" H (.tup [.str "number",.int (k:Int)]::u)=St g (p.length+run.length) "" (u.reverse++[.tup [.str "number",.int (k:Int)]]) (H.reverse.map Mk.sg) by simp[Sr]];unfold Sr;generalize u.reverse=I at *
 generalize H.reverse.map Mk.sg=G at *
 have t:(O run).length=run.length:=cS run;generalize O run=tr at *
 by_cases z:(⟨#[m]⟩:Str)="0"
 .have v:m=48:=by
   have:=cc (λx:Str=>x.cps.toList) z;have K:(("0":Str)).cps.toList=[48]:=by decide +kernel
   rw[K]at this;simpa using this
  have d:run.length=1:=j (by rw[y,v]);rw[d]at e t ⊢;simp only[St]at s f e ⊢;simp at e;simp[bp,cZ,s,f,S,z,b8,cE,t,F,e]
 .simp only[St]at s f e ⊢;simp at e;simp[bp,cZ,s,f,S,z,b8,cE,t,l,B,F,e]
def NJ(c:List Nat):Prop:=bb (.p (.str (O c))) (.p (.tup [.str "or",.str "and",.str "not",.str "true"])) []=some (.bl false)
theorem I_{c:List Nat}(h:NJ c):¬O c=("true":Str)/\¬O c=("not":Str):=by constructor<;>(intro e;unfold NJ at h;rw[e,show bb _ _ _=some (.bl true) by kernel_rfl]at h;simp at h)
theorem Ji{n:Nat}(z:3≤n)(r run p:List Nat)(d:run.length≤10)(m:NJ run)(a:∀c ∈ run,oM c "abcdefghijklmnopqrstuvwxyz"=true)(h:(r++(run++p)).length≤1000000)(j:No "abcdefghijklmnopqrstuvwxyz" p)(y:u.length≤1000) :
  Ph n "Reader.read_letters" [.ref 0] (Sr (r++(run++p)) r.length w H u)=some (.p .non,Sr (r++(run++p)) (r.length+run.length) "" H (.tup [.str "name",.str (O run)]::u)):=by
 obtain⟨n,rfl⟩:=eK (n:=n) (by first|assumption|lia);have b:=pq (w:=w) (n:=n+1) (by lia) (u:=u.reverse) (H:=H.reverse.map Mk.sg) "abcdefghijklmnopqrstuvwxyz" r run p h a j (by lia);have e:=zy (w:=w) (g:=r++(run++p)) (i:=r.length) (n:=n+1) (by lia) (u:=u.reverse) (H:=H.reverse.map Mk.sg) (.tup [.str "name",.str (O run)]) run.length (by simpa using y);have f:∀S,bb (.p (.str (O run))) (.p (.tup [.str "or",.str "and",.str "not",.str "true"])) S=some (.bl false):=λ_=>m;obtain⟨t,s⟩:=I_ m;rw[et];have l:run.length≤1000000:=by lia
 have v:¬(10:Int) < (run.length:Int):=by lia
 have x:¬10 < run.length:=by lia
 generalize q:r++(run++p)=g at *
 rw[show Sr g (r.length+run.length) "" H (.tup [.str "name",.str (O run)]::u)=St g (r.length+run.length) "" (u.reverse++[.tup [.str "name",.str (O run)]]) (H.reverse.map Mk.sg) by simp[Sr]];unfold Sr;generalize u.reverse=F at *
 generalize H.reverse.map Mk.sg=o at *
 have k:(O run).length=run.length:=cS run;generalize O run=tr at *
 simp only[St]at b e ⊢;simp at e;simp[bp,cO,b,b8,cE,k,l,v,x,t,s,f,e]
theorem G2:O [110,111,116]=("not":Str):=by decide +kernel
theorem IZ(k:3≤n)(r p:List Nat)(h:(r++([110,111,116]++p)).length≤1000000)(a:No "abcdefghijklmnopqrstuvwxyz" p)(m:H.length≤1000) :
  Ph n "Reader.read_letters" [.ref 0] (Sr (r++([110,111,116]++p)) r.length "part" H u)=some (.p .non,Sr (r++([110,111,116]++p)) (r.length+3) "part" (.no::H) u):=by
 obtain⟨n,rfl⟩:=eK (n:=n) (by first|assumption|lia);have x:=pq (w:="part") (n:=n+1) (by lia) (u:=u.reverse) (H:=H.reverse.map Mk.sg) "abcdefghijklmnopqrstuvwxyz" r [110,111,116] p h (by decide +kernel) a (by decide);rw[G2]at x;have e:=oD (w:="part") (g:=r++([110,111,116]++p)) (i:=r.length) (n:=n+1) (by lia) (u:=u.reverse) (H:=H.reverse.map Mk.sg) "not" "part" (by simpa using m) (by decide +kernel);have t:("not":Str).length=3:=by decide +kernel
 have s:Mk.no.sg=("not":Str):=G2;rw[t]at e;rw[et];generalize c:r++([110,111,116]++p)=g at *
 rw[show Sr g (r.length+3) "part" (.no::H) u=St g (r.length+3) "part" u.reverse (H.reverse.map Mk.sg++[("not":Str)]) by simp[Sr,s]];unfold Sr;generalize u.reverse=b at *
 generalize H.reverse.map Mk.sg=f at *
 simp only[St]at x e ⊢;simp at e;simp[bp,cO,x,b8,cE,t,e]
theorem xm(r:2≤n)(m:oM c "0123456789"=b)(x:b=false->oM c "abcdefghijklmnopqrstuvwxyz"=true)(f:∃k d,S[0]? = some (.ins "Reader" k d)/\k=RK)(h:Ph (n-1) (if b=true then "Reader.read_number" else "Reader.read_letters") [.ref 0] S=some (.p .non,s)) :
  Ph n "Reader.read_beginning" [.ref 0,.p (.str ⟨#[c]⟩)] S=some (.p .non,s):=by
 obtain⟨n,rfl⟩:=eK (n:=n) (by first|assumption|lia);obtain⟨k,d,e,rfl⟩:=f;have a:=λS=>jo c "0123456789" S;rw[m]at a;have g:=λS=>jo c "abcdefghijklmnopqrstuvwxyz" S;rw[show n+2-1=n+1 by lia]at h;rw[gN];cases b with
 |true=>rw[ac rfl]at h;simp[bp,b_,a,e,h]
 |false=>rw[x rfl]at g;rw[ae aX]at h;simp[bp,b_,a,g,e,h]
def Mk.ch(m:Mk):Nat:=m.tx.headD 0
theorem PZ(h:5≤m.lw):(⟨#[m.ch]⟩:Str)=m.sg:=by cases m<;>first|exact absurd h (by decide)|rfl
theorem Mb(h:5≤m.lw)(S:aP):bb (.p (.str m.sg)) (.p (.str "+-*")) S=some (.bl true):=by cases m<;>first|exact absurd h (by decide)|kernel_rfl
theorem tL(m:Mk):m.sg.length=m.tx.length:=cS _
theorem Hd(m:Mk):m.sg.length≤1000000:=by rw[tL];cases m<;>decide
theorem s0(m:Mk)(i:Nat)(w:Str):Sr g i w (m::H) u=St g i w u.reverse (H.reverse.map Mk.sg++[m.sg]):=by simp[Sr]
variable{t:P}
theorem J1(d:4≤n)(k:5≤m.lw)(h:my true t)(f:Fo m.lw H (t::u) p A)(s:H.length < 1000)(b:(t::u).length≤1000) :
  Ph n "Reader.read_behind" [.ref 0,.p (.str ⟨#[m.ch]⟩)] (Sr g i w H (t::u))=some (.p .non,Sr g (i+m.tx.length) "factor" (m::p) A):=by
 obtain⟨n,rfl⟩:=AS (n:=n) (by first|assumption|lia);have x:=ub (g:=g) (i:=i) (w:=w) (n:=n+1) (by lia) H t u h;have a:=kz (g:=g) (i:=i) (w:=w) (n:=n+1) (by lia) f s b;have e:=oD (g:=g) (i:=i) (w:=w) (u:=A.reverse) (H:=p.reverse.map Mk.sg) (n:=n+1) (by lia) m.sg "factor" (by have:=f.len.1;simp;lia) (Hd m);rw[tL]at e;have c:=MR (m:=m) (by lia);have r:=Mb k;rw[s0,PZ k,cU];unfold Sr at x a ⊢;generalize A.reverse=v at *
 generalize p.reverse.map Mk.sg=q at *
 generalize (t::u).reverse=l at *
 generalize H.reverse.map Mk.sg=j at *
 simp only[St]at x a e ⊢;simp at e;simp[bp,bQ,r];rw[jY];simp[bp,fx,x,c,a,e]
def CH:List Mk->Str
 | []=>""
 |m::_=>m.sg
theorem FS(h:2≤n)(H:List Mk)(u:List P):Ph n "Reader.last_mark" [.ref 0] (Sr g i w H u)=some (.p (.str (CH H)),Sr g i w H u):=by
 cases H with
 |nil=>exact uY h
 |cons m H=>rw[s0];exact Ar h m.sg
theorem FT(h:∀m r,H=m::r->1≤m.lw/\m.lw < 4):¬CH H=("(":Str)/\∀S,bb (.p (.str (CH H))) (.p (.tup [.str "=",.str "!=",.str "<",.str "<=",.str ">",.str ">="])) S=some (.bl false):=by
 cases H with
 |nil=>exact⟨by decide +kernel,λS=>by kernel_rfl⟩
 |cons m r=>
  have x:=h m r rfl;refine⟨?_,λS=>?_⟩
  .show ¬m.sg=("(":Str);cases m<;>decide +kernel
  .have:=Cz m S;rw[a7 (by lia)]at this;exact this
def cB(c:List Nat):Option Bool:=vV (.str (O c)) (.tup [.str "=",.str "!=",.str "<",.str "<=",.str ">",.str ">="])
theorem JX:∀d < 128,d≠61->cB [61,d]=some false/\cB [60,d]=some false/\cB [62,d]=some false:=by decide +kernel
theorem Nv{c:List Nat}{b:Bool}(h:cB c=some b)(S:aP):bb (.p (.str (O c))) (.p (.tup [.str "=",.str "!=",.str "<",.str "<=",.str ">",.str ">="])) S=some (.bl b):=by show(vV (.str (O c)) (.tup [.str "=",.str "!=",.str "<",.str "<=",.str ">",.str ">="])).map P.bl=some (.bl b);unfold cB at h;rw[h];rfl
theorem Nr(h:m.lw=4)(S:aP):bb (.p (.str ⟨#[m.ch]⟩)) (.p (.str "+-*")) S=some (.bl false)/\bb (.p (.str ⟨#[m.ch]⟩)) (.p (.str "=!<>")) S=some (.bl true):=by cases m<;>first|exact absurd h (by decide)|exact⟨by kernel_rfl,by kernel_rfl⟩
theorem zR(h:m.lw=4)(p:List Nat)(s:∃d r,p=d::r/\d < 128/\d≠61):∃x q,m.tx++p=x++q/\x.length=2/\((x=m.tx)\/(cB x=some false/\(⟨#[m.ch]⟩:Str)=m.sg)):=by obtain⟨d,r,rfl,e,a⟩:=s;have c:=JX d e a;cases m<;>first|exact absurd h (by decide)|exact⟨_,d::r,rfl,rfl,.inl rfl⟩|exact⟨[61,d],r,rfl,rfl,.inr ⟨c.1,rfl⟩⟩|exact⟨[60,d],r,rfl,rfl,.inr ⟨c.2.1,rfl⟩⟩|exact⟨[62,d],r,rfl,rfl,.inr ⟨c.2.2,rfl⟩⟩
theorem Mx{c:List Nat}{b:Bool}(h:cB c=some b)(S:aP):mW (.p (.str (O c))) (.p (.tup [.str "=",.str "!=",.str "<",.str "<=",.str ">",.str ">="])) S=some (.bl (!b)):=by show(vV (.str (O c)) (.tup [.str "=",.str "!=",.str "<",.str "<=",.str ">",.str ">="])).map (λb=>P.bl (!b))=some (.bl (!b));unfold cB at h;rw[h];rfl
theorem Nu(h:m.lw=4):cB m.tx=some true:=by cases m<;>first|exact absurd h (by decide)|kernel_rfl
theorem J2{n:Nat}(W:4≤n){m:Mk}(v:m.lw=4)(e o:List Nat)(c:(e++(m.tx++o)).length≤1000000)(N:∃d r,o=d::r/\d < 128/\d≠61)(j:H.length < 1000)(R:u.length≤1000)
  {p:List Mk}{t:P}{A:List P} (z:Fo 5 H u p (t::A)) (Q:my true t) (M:∀m r,p=m::r->1≤m.lw/\m.lw < 4) :
  Ph n "Reader.read_behind" [.ref 0,.p (.str ⟨#[m.ch]⟩)] (Sr (e++(m.tx++o)) e.length w H u)=some (.p .non,Sr (e++(m.tx++o)) (e.length+m.tx.length) "factor" (m::p) (t::A)):=by
 obtain⟨n,rfl⟩:=AS (n:=n) (by first|assumption|lia);have a:=kz (g:=e++(m.tx++o)) (i:=e.length) (w:=w) (n:=n+1) (by lia) z j R;have L:=z.len.1;have k:=FS (g:=e++(m.tx++o)) (i:=e.length) (w:=w) (n:=n+1) (by lia) p (t::A);have f:=ub (g:=e++(m.tx++o)) (i:=e.length) (w:=w) (n:=n+1) (by lia) p t A Q;have s:=oD (g:=e++(m.tx++o)) (i:=e.length) (w:=w) (u:=(t::A).reverse) (H:=p.reverse.map Mk.sg) (n:=n+1) (by lia) m.sg "factor" (by simp;lia) (Hd m);rw[tL]at s;obtain⟨B,C⟩:=FT M;obtain⟨x,q,K,l,y⟩:=zR v o N;have b:=hV (p:=e) (run:=x) (o:=q) (by rw[<- K];exact c);rw[<- K,l,show(((e.length+2:Nat)):Int)=(e.length:Int)+2 by lia]at b;have h:=λS=>Mx (Nu v) S;rw[show O m.tx=m.sg from rfl]at h;simp only[sG]at h;obtain⟨D,E⟩:(∀S,bb (.p (.str ⟨#[m.ch]⟩)) (.p (.str "+-*")) S=some (.bl false))/\∀S,bb (.p (.str ⟨#[m.ch]⟩)) (.p (.str "=!<>")) S=some (.bl true):=⟨λS=>(Nr v S).1,λS=>(Nr v S).2⟩;rw[s0,cU];generalize e++(m.tx++o)=g at *
 unfold Sr at a k f ⊢;generalize (t::A).reverse=V at *
 generalize p.reverse.map Mk.sg=T at *
 generalize u.reverse=Z at *
 generalize H.reverse.map Mk.sg=X at *
 rw[show((5:Nat):Int)=5 from rfl]at a;simp only[St]at a k f s ⊢;simp at s;simp[bp,bQ,D,E];rw[gk];rcases y with rfl|⟨G,I⟩
 .rw [show O m.tx=m.sg from rfl]at b;simp[bp,b2,a,k,f,B,C,b9,b,h,s]
 .have F:=λS=>Mx G S;simp only[yA]at F;simp[bp,b2,a,k,f,B,C,b9,b,F,I,h,s]
theorem E4:Mk.or.sg=("or":Str):=by decide +kernel
theorem J0(N:4≤n)(r o:List Nat)(h:(r++([111,114]++o)).length≤1000000)(F:No "abcdefghijklmnopqrstuvwxyz" o)(e:j' (r++([111,114]++o)) r.length)(c:H.length < 1000)(P:u.length≤1000)(j:Fo 4 H u p (t::A))(K:my false t)(f:Fo 1 p (t::A) q v) :
  Ph n "Reader.read_behind" [.ref 0,.p (.str ⟨#[111]⟩)] (Sr (r++([111,114]++o)) r.length w H u)=some (.p .non,Sr (r++([111,114]++o)) (r.length+2) "part" (.or::q) v):=by
 obtain⟨n,rfl⟩:=AS (n:=n) (by first|assumption|lia);have z:=j.len;have y:=f.len;have x:=kz (g:=r++([111,114]++o)) (i:=r.length) (w:=w) (n:=n+1) (by lia) j c P;have d:=uF (w:=w) (n:=n+1) (by lia) (u:=(t::A).reverse) (H:=p.reverse.map Mk.sg) h e;have k:=ub (g:=r++([111,114]++o)) (i:=r.length) (w:=w) (n:=n+1) (by lia) p t A K;have b:=pq (w:=w) (n:=n+1) (by lia) (u:=(t::A).reverse) (H:=p.reverse.map Mk.sg) "abcdefghijklmnopqrstuvwxyz" r [111,114] o h (by decide +kernel) F (by decide);rw[show O [111,114]=("or":Str) from E4]at b;have a:=kz (g:=r++([111,114]++o)) (i:=r.length) (w:=w) (n:=n+1) (by lia) f (by lia) (by lia);have s:=oD (g:=r++([111,114]++o)) (i:=r.length) (w:=w) (u:=v.reverse) (H:=q.reverse.map Mk.sg) (n:=n+1) (by lia) "or" "part" (by simp;lia) (by decide +kernel);rw[show("or":Str).length=2 by decide +kernel]at s;obtain⟨B,C,D⟩:(∀S,bb (.p (.str ⟨#[111]⟩)) (.p (.str "+-*")) S=some (.bl false))/\(∀S,bb (.p (.str ⟨#[111]⟩)) (.p (.str "=!<>")) S=some (.bl false))/\∀S,bb (.p (.str ⟨#[111]⟩)) (.p (.str "abcdefghijklmnopqrstuvwxyz")) S=some (.bl true):=⟨λS=>by kernel_rfl,λS=>by kernel_rfl,λS=>by kernel_rfl⟩;have E:¬(⟨#[111]⟩:Str)="a":=by decide +kernel
 have l:=MR (m:=.or) (by decide);rw[E4]at l;rw[s0,E4,cU];generalize r++([111,114]++o)=g at *
 unfold Sr at x k a ⊢;generalize (t::A).reverse=L at *
 generalize p.reverse.map Mk.sg=G at *
 generalize u.reverse=R at *
 generalize H.reverse.map Mk.sg=Q at *
 generalize v.reverse=M at *
 generalize q.reverse.map Mk.sg=I at *
 rw[show((4:Nat):Int)=4 from rfl]at x;rw[show((1:Nat):Int)=1 from rfl]at a;simp only[St]at x d k b a s ⊢;simp at s;simp[bp,bQ,B,C,D,E];rw[jx];simp[bp,eR,x,d,k,b,l,Mk.lw,a,s]
theorem JJ(v:3≤n)(m:H.length < 1000)(r:u.length≤1000)(b:Fo 4 H u s (t::h))(c:my false t)(f:Fo 1 s (t::h) [] [z]) :
  Ph n "Reader.read_end" [.ref 0] (Sr g i w H u)=some (.p z,Sr g i w [] [z]):=by
 obtain⟨n,rfl⟩:=eK (n:=n) (by first|assumption|lia);have l:=b.len;have e:=kz (g:=g) (i:=i) (w:=w) (n:=n+1) (by lia) b m r;have a:=ub (g:=g) (i:=i) (w:=w) (n:=n+1) (by lia) s t h c;have x:=kz (g:=g) (i:=i) (w:=w) (n:=n+1) (by lia) f (by lia) (by lia);have k:=uY (g:=g) (i:=i) (w:=w) (u:=[z]) (n:=n+1) (by lia);rw[kE];unfold Sr at e a x ⊢;generalize (t::h).reverse=q at *
 generalize s.reverse.map Mk.sg=p at *
 generalize u.reverse=j at *
 generalize H.reverse.map Mk.sg=d at *
 rw[show((4:Nat):Int)=4 from rfl]at e;rw[show((1:Nat):Int)=1 from rfl]at x;simp only[St,yp,List.reverse_nil,cI,a6,gZ]at e k a x ⊢;simp[bp,fF,e,a,x,k]
variable{g:List Nat}{i:Nat}
inductive W where
 |fac|par|done
 deriving DecidableEq
noncomputable def wS:W->Str
 | .fac=>"factor"
 | .par=>"part"
 | .done=>""
noncomputable def l7(k:Nat):P:=.tup [.str "number",.int (k:Int)]
def jQ(c:List Nat):P:=.tup [.str "name",.str (O c)]
inductive Sq:Tk->W->List Mk->List P->W->List Mk->List P->Prop
 |num {k c w ms ts:_}:w≠.done->Sq (.n k c) w ms ts .done ms (l7 k::ts)
 |nam {c w ms ts:_}:w≠.done->NJ c->Sq (.w c) w ms ts .done ms (jQ c::ts)
 |no {ms ts:_}:Sq (.w [110,111,116]) .par ms ts .par (.no::ms) ts
 |op {m ms t ts ms' ts':_}:5≤m.lw->my true t->Fo m.lw ms (t::ts) ms' ts'->Sq (.s m) .done ms (t::ts) .fac (m::ms') ts'
 |cm {m ms ts ms' t ts':_}:m.lw=4->Fo 5 ms ts ms' (t::ts')->my true t->(∀m r,ms'=m::r->1≤m.lw/\m.lw < 4)->Sq (.s m) .done ms ts .fac (m::ms') (t::ts')
 |or {ms ts ms' t ts' m2 t2:_}:Fo 4 ms ts ms' (t::ts')->my false t->Fo 1 ms' (t::ts') m2 t2->Sq (.w [111,114]) .done ms ts .par (.or::m2) t2
inductive Rn:List Tk->W->List Mk->List P->W->List Mk->List P->Prop
 |nil {w ms ts:_}:Rn [] w ms ts w ms ts
 |cons {k r w ms ts w1 m1 t1 w' ms' ts':_}:Sq k w ms ts w1 m1 t1->Rn r w1 m1 t1 w' ms' ts'->Rn (k::r) w ms ts w' ms' ts'
theorem Rn.app{x y:List Tk}{w s n:W}{H m a:List Mk}{u t e:List P}(h:Rn x w H u s m t)(g:Rn y s m t n a e):Rn (x++y) w H u n a e:=by
 induction h with
 |nil=>exact g
 |cons k _ i=>exact .cons k (i g)
theorem Sq.len{k:Tk}{w x:W}{H p:List Mk}{u A:List P}(h:Sq k w H u x p A):p.length≤H.length+1/\A.length≤u.length+1:=by
 cases h with
 |num=>simp
 |nam=>simp
 |no=>simp
 |op _ _ f=>have:=f.len;simp only[ak]at this ⊢;lia
 |cm _ f=>have:=f.len;simp only[ak]at this ⊢;lia
 |or f _ g=>have:=f.len;have:=g.len;simp only[ak] at *;lia
theorem Sp.lead(h:Sp r y):∃j z,y=List.replicate j 32++z/\Sp r z/\No " " z/\(r=[]->z=[])/\∀k x,r=k::x->∃s,z=k.tx++s/\k.ok/\Sp x s/\(k.an=true->NA s):=by
 cases r with
 |nil=>exact⟨y.length,[],by rw[cg];exact h.end',.nil,λ_ _ z=>(nomatch z),λ_=>rfl,λ_ _ z=>nomatch z⟩
 |cons k r=>
  obtain⟨j,z,rfl,hk,h,n⟩:=h.view;refine⟨j,k.tx++z,rfl,.tk hk h n,λc q e=>?_,λz=>(nomatch z),λf x e=>by cases e;exact⟨z,rfl,hk,h,n⟩⟩;cases t:k.tx with
  |nil=>exact absurd t (Tk.ne hk)
  |cons a b=>
   rw[t]at e;cases e;have:=(Tk.ch hk).1 c (by rw[t];exact aM)
   rw[(inT c this.1).2.2.2];exact a7 this.2
theorem pz(p:List Nat)(z:List Nat)(h:oM c ("abcdefghijklmnopqrstuvwxyz"++"0123456789")=false):j' (p++(c::z)) (p.length+1):=
 .inr ⟨c,by rw[show(((p.length+1:Nat):Int)-1)=(p.length:Int) by lia];exact cL p c z,h⟩
def Jn(g:List Nat)(i:Nat)(x:List Nat):Prop:=j' g i\/NA x
theorem zz(r:List Nat)(hk:k.ok)(n:k.an=true->NA (List.replicate j 32++z)):Jn (r++(k.tx++(List.replicate j 32++z))) (r.length+k.tx.length+j) z:=by
 cases j with
 |succ j=>have:=pz (r++(k.tx++List.replicate j 32)) z (c:=32) (by decide +kernel);refine .inl ?_;rw[sD];simp only[aL,iR,eZ,iP,cI]at this ⊢;rwa [show r.length+k.tx.length+(j+1)=r.length+(k.tx.length+j)+1 by lia]
 |zero=>
  cases a:k.an with
  |true=>exact .inr (by simpa using n a)
  |false=>
   obtain⟨p,c,e⟩:∃p c,k.tx=p++[c]:=⟨_,_,(List.dropLast_concat_getLast (Tk.ne hk)).symm⟩;have m:c ∈ k.tx:=by rw[e];simp
   have h:=(inT c ((Tk.ch hk).1 c m).1).2.2.1;rw[a7 ((Tk.ch hk).2.2 a c m)]at h;have:=pz (r++p) z h
   refine .inl ?_;rw[e];simp only[aL,eZ,iP,cI,ak,a',sC]at this ⊢;exact this
theorem tR(h:Jn g i x)(e:x=c::r)(a:An c):j' g i:=h.elim id λq=>absurd a (q c r e)
theorem zp{y:Str}{z:List Nat}(a:∀c ∈ z,c < 128)(h:NA z)(x:∀c < 128,¬An c->oM c y=false):No y z:=λc r e=>x c (a c (by rw[e];exact aM)) (h c r e)
theorem zm(h:c < 128)(a:¬An c):oM c "abcdefghijklmnopqrstuvwxyz"=false:=by rw[(inT c h).1];exact a7 λz=>a (.inl z)
theorem zn(h:c < 128)(a:¬An c):oM c "0123456789"=false:=by rw[(inT c h).2.1];exact a7 λz=>a (.inr z)
theorem pJ(a:m_ c):oM c "abcdefghijklmnopqrstuvwxyz"=true/\oM c "0123456789"=false:=by
 have h:c < 128:=by unfold m_ at a;lia
 rw[(inT c h).1,(inT c h).2.1];exact⟨eY a,a7 (by unfold m_ at a;unfold vQ;lia)⟩
theorem pK(a:vQ c):oM c "0123456789"=true:=by
 have h:c < 128:=by unfold vQ at a;lia
 rw[(inT c h).2.1];exact eY a
theorem Bs(w:W)(S:aP):lA (.p (.str (wS w))) (.p (.str "")) S=some (.bl (decide (w≠.done))):=by cases w<;>kernel_rfl
theorem kA(w:W)(H:List Mk)(u:List P)(p:i < g.length)(a:g.length≤1000000)(b:L2.atI g (i:Int)=some c)
  (h:Ph n (if w≠.done then "Reader.read_beginning" else "Reader.read_behind") [.ref 0,.p (.str ⟨#[c]⟩)] (Sr g i (wS w) H u)=some (.p .non,Sr g j z r q))
  (s:Ph n "Reader.skip_blanks" [.ref 0] (Sr g j z r q)=some (.p .non,v)) :
  bD (Ph n) [some (.ref 0)] (Sr g i (wS w) H u)=some (.nx,[some (.ref 0)],v):=by
 have f:=bN a b;have k:=Bs w;have x:¬i=g.length:=by lia
 have e:¬(i:Int)=(g.length:Int):=by lia
 unfold Sr at h s ⊢;generalize u.reverse=y at *
 generalize H.reverse.map Mk.sg=l at *
 generalize q.reverse=t at *
 generalize r.reverse.map Mk.sg=m at *
 simp only[St]at h s ⊢;by_cases d:w=.done
 .subst d;simp only[ne_eq,not_true_eq_false,fN,rY]at h k;simp[bD,b8,cE,a,x,e,k,f,h,s]
 .rw [ac d]at h;rw[show decide (w≠.done)=true from eY d]at k;simp[bD,b8,cE,a,x,e,k,f,h,s]
theorem Pq(g:List Nat)(i:Nat)(w:Str)(H:List Mk)(u:List P):∃k d,(Sr g i w H u)[0]? = some (.ins "Reader" k d)/\k=RK:=⟨_,_,rfl,rfl⟩
theorem HX{n:Nat}(hn:6≤n)(t:Tk)(hk:t.ok)(s z:List Nat)(j:Nat){w w':W}{H p:List Mk}{u A:List P}(hs:Sq t w H u w' p A)(hm:H.length < 900)(ht:u.length≤900)
  (f:(s++(t.tx++(List.replicate j 32++z))).length≤1000000) (hj:j < 1000) (hb:No " " z) (hz:∀c ∈ z,c < 128) (M:t.an=true->NA (List.replicate j 32++z))
  (T:∀m,t=.s m->m.lw=4->∃d r,List.replicate j 32++z=d::r/\d < 128/\d≠61) (Q:Jn (s++(t.tx++(List.replicate j 32++z))) s.length (t.tx++(List.replicate j 32++z))) :
  bD (Ph n) [some (.ref 0)] (Sr (s++(t.tx++(List.replicate j 32++z))) s.length (wS w) H u) =
   some (.nx,[some (.ref 0)],Sr (s++(t.tx++(List.replicate j 32++z))) (s.length+t.tx.length+j) (wS w') p A):=by
 obtain⟨v,cr,B⟩:∃a b,t.tx=a::b:=by
  cases e:t.tx with
  |nil=>exact absurd e (Tk.ne hk)
  |cons a b=>exact⟨a,b,rfl⟩
 have K:v ∈ t.tx:=by rw[B];exact aM
 have D:L2.atI (s++(t.tx++(List.replicate j 32++z))) (s.length:Int)=some v:=by rw[B];exact cL s v _
 have l:s.length < (s++(t.tx++(List.replicate j 32++z))).length:=by rw[B];simp
 have q:∀(R:Str)(S:List Mk)(F:List P),Ph n "Reader.skip_blanks" [.ref 0] (Sr (s++(t.tx++(List.replicate j 32++z))) (s.length+t.tx.length) R S F) =
   some (.p .non,Sr (s++(t.tx++(List.replicate j 32++z))) (s.length+t.tx.length+j) R S F):=λR S F=>by
  have h:=y_ (w:=R) (u:=F.reverse) (H:=S.reverse.map Mk.sg) (n:=n) (by lia) (s++t.tx) z j (by simpa using f) hb hj;rw[eZ,aL]at h;exact h
 have o:t.an=true->No "abcdefghijklmnopqrstuvwxyz" (List.replicate j 32++z):=λG=>zp (λc h=>(dD.mp h).elim (λh=>by rw[(ou.mp h).2];decide) (hz c)) (M G) λc=>zm;have L:t.an=true->No "0123456789" (List.replicate j 32++z):=λG=>zp (λc h=>(dD.mp h).elim (λh=>by rw[(ou.mp h).2];decide) (hz c)) (M G) λc=>zn;have hP:An v->j' (s++(t.tx++(List.replicate j 32++z))) s.length:=λG=>tR Q (by rw[B];rfl) G;cases hs with
 | @num k c _ _ _ Z=>have N:Num k c:=hk;have e:=IX (w:=wS w) (n:=n-1) (by lia) (H:=H) (u:=u) k s c (List.replicate j 32++z) N (λx hx=>pK (N.al x hx)) f (L rfl) (by lia) (hP (.inr (N.al v K)));have y:=xm (n:=n) (b:=true) (by lia) (pK (N.al v K)) (λz=>nomatch z) (Pq ..) (by rw[ac rfl];exact e);exact kA w H u l f D (by rw[ac Z];exact y) (q "" _ _)
 | @nam c _ _ _ Z X=>have N:Wrd c:=hk;have e:=Ji (w:=wS w) (n:=n-1) (by lia) (H:=H) (u:=u) s c (List.replicate j 32++z) N.le X (λx hx=>(pJ (N.al x hx)).1) f (o rfl) (by lia);have y:=xm (n:=n) (b:=false) (by lia) (pJ (N.al v K)).2 (λ_=>(pJ (N.al v K)).1) (Pq ..) (by rw[ae aX];exact e);exact kA w H u l f D (by rw[ac Z];exact y) (q "" _ _)
 |no=>cases B;have e:=IZ (n:=n-1) (by lia) (H:=H) (u:=u) s (List.replicate j 32++z) f (o rfl) (by lia);have y:=xm (n:=n) (c:=110) (b:=false) (by lia) (by decide +kernel) (λ_=>by decide +kernel) (Pq ..) (by rw[ae aX];exact e);exact kA .par H u l f D (by rw[ac (by decide)];exact y) (q "part" _ _)
 | @op m _ t0 u _ _ h5 E I=>
  have C:v=m.ch:=by show _=m.tx.headD 0;rw[show m.tx=v::cr from B];rfl
  have y:=J1 (g:=s++((Tk.s m).tx++(List.replicate j 32++z))) (i:=s.length) (w:=wS .done) (n:=n) (by lia) h5 E I (by lia) (by lia);exact kA .done H (t0::u) l f D (by rw[ae (by decide),C];exact y) (q "factor" _ _)
 | @cm m _ _ S t1 F h4 I E hl=>
  have C:v=m.ch:=by show _=m.tx.headD 0;rw[show m.tx=v::cr from B];rfl
  have y:=J2 (w:=wS .done) (n:=n) (by lia) h4 s (List.replicate j 32++z) f (T m rfl h4) (by lia) (by lia) I E hl;exact kA .done H u l f D (by rw[ae (by decide),C];exact y) (q "factor" _ _)
 |or I E V=>cases B;have y:=J0 (w:=wS .done) (n:=n) (by lia) s (List.replicate j 32++z) f (o rfl) (hP (by decide)) (by lia) (by lia) I E V;exact kA .done H u l f D (by rw[ae (by decide)];exact y) (q "part" _ _)
end My
namespace My
open PySem L2 Ev
variable{s:List Nat}{i:Nat}
variable{ms:List Mk}{ts:List P}{u:List P}
theorem Dk(s:Rn r .fac ms ts .done g u)(f:Sp r y):∃d q,y=d::q/\d < 128/\d≠61:=by
 cases s with
 | @cons k r _ _ _ _ _ _ _ _ _ n _=>
  obtain⟨j,z,rfl,hk,_,_⟩:=f.view;cases j with
  |succ j=>exact⟨32,_,rfl,by decide,by decide⟩
  |zero=>
   cases e:k.tx with
   |nil=>exact absurd e (Tk.ne hk)
   |cons a b=>
    have m:a ∈ k.tx:=by rw[e];exact aM
    have x:k.an=true:=by cases n<;>rfl
    have h:=(Tk.ch hk).2.1 x a m;exact⟨a,b++z,rfl,((Tk.ch hk).1 a m).1,by unfold An m_ vQ at h;lia⟩
variable{n:Nat}
theorem zu(N:6≤n)(c:s.length < 1000):∀(r:List Tk)(p x:List Nat)(f:Nat){w:W}{ms g:List Mk}{ts u:List P},s=p++x->Sp r x->No " " x->(r=[]->x=[])->Jn s p.length x->Rn r w ms ts .done g u ->
  ms.length+r.length < 900->ts.length+r.length≤900->r.length < f ->
  bh (rn (bV (aI lA (bc (aT Att) (U 0) "wanted") (Y (vC (.str ""))))) (bV (aH vv (vE (bc (aT Att) (U 0) "spot")) (d_ (bc (aT Att) (U 0) "text"))))) (bD (Ph n)) f [some (.ref 0)] (Sr s p.length (wS w) ms ts) =
   some (.nx,[some (.ref 0)],Sr s s.length "" g u)/\g.length < 900/\u.length≤900
 |r,p,x,0,w,ms,g,ts,u,_,_,_,_,_,_,_,_,M=>by lia
 | [],p,x,f+1,w,ms,g,ts,u,a,_,_,hx,_,t,A,C,_=>by
  cases t;have Z:p.length=s.length:=by rw[a,hx rfl];simp
  refine⟨?_,by simpa using A,by simpa using C⟩;have D:∀S,lA (.p (.str (wS .done))) (.p (.str "")) S=some (.bl false):=λS=>Bs .done S;have h:s.length≤1000000:=by lia
  rw[Z];refine df ?_;unfold Sr;generalize ts.reverse=rt at *
  generalize ms.reverse.map Mk.sg=rm at *
  simp[St,D,b8,cE,h];rfl
 |k::r,p,x,f+1,w,ms,g,ts,u,a,hs,X,_,V,t,A,C,M=>by
  cases t with
  | @cons _ _ _ _ _ w1 m1 t1 _ _ _ B t=>
   obtain⟨I,z0,o,_,_,_,l5⟩:=hs.lead;have:I=0:=by
    cases I with
    |zero=>rfl
    |succ I=>rw[b4,iP]at o;exact absurd (X 32 _ o) (by decide +kernel)
   subst this;rw[sC,cI]at o;subst o;obtain⟨y,rfl,hk,Q,i⟩:=l5 k r rfl;obtain⟨j,z,T,R,v,E,_⟩:=Q.lead;have G:=R.ch;have F:∀m,k=.s m->m.lw=4->∃d r,y=d::r/\d < 128/\d≠61:=λm e h4=>by
    subst e;cases B with
    |op h5=>lia
    |cm=>exact Dk t Q
   subst T;have hle:=B.len;simp only[ak]at A C M;have H:j < 1000:=by rw[a]at c;simp at c;lia
   have h:s.length≤1000000:=by lia
   have b:=HX N k hk p z j B (by lia) (by lia) (by rw[<- a];exact h) H v G i F (by rw[<- a];exact V);have q:=zz p hk (j:=j) (z:=z) i;rw[<- a]at b q;have L:(p++(k.tx++List.replicate j 32)).length=p.length+k.tx.length+j:=by simp[iN]
   obtain⟨e,q2,q3⟩:=zu N c r (p++(k.tx++List.replicate j 32)) z f (by rw[a];simp) R v E (by rw[L];exact q) t (by lia) (by lia) (by lia);rw[L]at e;refine⟨(bY (h:=Sr s p.length (wS w) ms ts) ?_ b).trans e,q2,q3⟩;have K:p.length < s.length:=by
    rw[a];have:=yq.mpr (Tk.ne hk)
    simp;lia
   have D:=Bs w;have l:(p.length:Int) < (s.length:Int):=by lia
   unfold Sr;generalize ts.reverse=rt at *
   generalize ms.reverse.map Mk.sg=rm at *
   cases w<;>simp[St,D,b8,cE,h,K,l]
@[simp] theorem Nc(a:AW)(L:Lc)(S:aP):pT a L S=bA (a L S) λx h=>if few x=true then some (.ref h.length,h++[.lst x]) else none:=rfl
section
variable(y a b c d e:D)
@[simp] theorem Sa:Ev.putK "text" []=(["text"]:LS)/\Ev.putK "spot" ["text"]=(["text","spot"]:LS)/\Ev.putK "sought" ["text","spot"]=(["text","spot","sought"]:LS)/\Ev.putK "wanted" ["text","spot","sought"]=(["text","spot","sought","wanted"]:LS)
  /\ Ev.putK "trees" ["text","spot","sought","wanted"]=(["text","spot","sought","wanted","trees"]:LS)/\Ev.putK "marks" ["text","spot","sought","wanted","trees"]=RK:=by (repeat' apply And.intro)<;>kernel_rfl
@[simp] theorem R':gM "text" y [] []=[y]:=rfl
@[simp] theorem R_:gM "spot" y ["text"] [a]=[a,y]:=by kernel_rfl
@[simp] theorem R9:gM "sought" y ["text","spot"] [a,b]=[a,b,y]:=by kernel_rfl
@[simp] theorem R8:gM "wanted" y ["text","spot","sought"] [a,b,c]=[a,b,c,y]:=by kernel_rfl
@[simp] theorem R7:gM "trees" y ["text","spot","sought","wanted"] [a,b,c,d]=[a,b,c,d,y]:=by kernel_rfl
@[simp] theorem R6:gM "marks" y ["text","spot","sought","wanted","trees"] [a,b,c,d,e]=[a,b,c,d,e,y]:=by kernel_rfl
end
theorem FZ(h:2≤n):Ph n "Reader.__init__" [.ref 0,.p (.str (O s)),.p (.str "part")] [.ins "Reader" [] []]=some (.p .non,Sr s 0 "part" [] []):=by obtain⟨n,rfl⟩:=eK (n:=n) (by first|assumption|lia);rw[nI];simp[bp,jt,Sr,St,few]
def Fin(ms:List Mk)(ts:List P)(z:P):Prop:=∃m t s,Fo 4 ms ts m (t::s)/\my false t/\Fo 1 m (t::s) [] [z]
theorem AE(L:10≤n)(r:List Tk)(A:Sp r x)(K:Rn r .par [] [] .done g u)(F:Fin g u z)(I:r.length < 890)(h:x.length < 1000):pureOf (Ph n "read_condition") [.str (O x)]=some z:=by
 obtain⟨n,rfl⟩:=N_ (n:=n) (by first|assumption|lia);obtain⟨C,t,D,o,H,S⟩:=F;obtain⟨b,y,rfl,B,m,k,_⟩:=A.lead;have l:b < 1000:=by simp at h;lia
 have a:(List.replicate b 32++y).length≤1000000:=by lia
 have d:=y_ (w:="part") (u:=[]) (H:=[]) (n:=n+2) (by lia) [] y b a m l;have p:Jn (List.replicate b 32++y) (List.replicate b 32).length y:=by
  cases b with
  |zero=>exact .inl (.inl rfl)
  |succ b=>
   refine .inl ?_;have:=pz (List.replicate b 32) y (c:=32) (by decide +kernel)
   rw[sD];simpa using this
 obtain⟨f,E,G⟩:=zu (s:=List.replicate b 32++y) (n:=n+2) (by lia) h r (List.replicate b 32) y 1000 (w:=.par) rfl B m k p K (by simp;lia) (by simp;lia) (by lia);have j:=JJ (g:=List.replicate b 32++y) (i:=(List.replicate b 32++y).length) (w:="") (n:=n+2) (by lia) (by lia) (by lia) o H S;rw[iR]at f;have e:Ph (n+2) "Reader.skip_blanks" [.ref 0] (Sr (List.replicate b 32++y) 0 "part" [] [])=some (.p .non,Sr (List.replicate b 32++y) b (wS .par) [] []):=by have:=d;simp only[cI,a',ya]at this;exact this
 have v:=FZ (s:=List.replicate b 32++y) (n:=n+2) (by lia);rw[ll,ao];generalize List.replicate b 32++y=s at *
 have q:=λ(i:Nat)(w:Str)(ms:List Mk)(ts:List P)=>(show(Sr s i w ms ts)[0]? = some (.ins "Reader" RK [.p (.str (O s)),.p (.int (i:Int)),.p (.str "part"),.p (.str w),.ref 1,.ref 2]) from rfl);have R:Ph (n+3) "Reader.read" [.ref 0] (Sr s 0 "part" [] [])=some (.p z,Sr s s.length "" [] [z]):=by rw[nD];simp[bp,jq,dP,q,e,f,j]
 simp[gG,v,q,R]
noncomputable def dg(n:Nat):List Nat:=(Nat.toDigits 10 n).map Char.toNat
def QP(n:Nat):Bool:=!(dg n).isEmpty && decide ((dg n).length≤3) && (dg n).all (λc=>decide (48≤c) && decide (c≤57)) && decide ((dg n)[0]? = some 48->(dg n).length=1)
theorem Gk:∀n < 1000,QP n=true:=by decide +kernel
theorem wL(n:Nat):Str.ofString (toString (n:Int))=O (dg n):=by apply rK;apply Array.toList_inj.mp;simpa[dg,O] using PySem.W.KIN.signs_num n
theorem jO(h:n < 1000):Num n (dg n):=by
 have c:=Gk n h;simp only[QP,aE,gY,bj,lU]at c;obtain⟨⟨⟨x,a⟩,e⟩,s⟩:=c;have v:=PySem.W.KIN.num_reads (n:=(n:Int)) (by lia) (by lia);rw[wL]at v;refine⟨λz=>?_,a,e,s,?_⟩
 .rw [z]at x;cases x
 .simp only[iB,cS];rw[ac (by lia),v];rfl
theorem mu{q:Nat}(h:q < 1000):iI [.int (q:Int)]=some (.str (O (dg q))):=by
 rw [<- wL];simp only [iI];rw [ac (eY (by
  have:((q:Int)).natAbs=q:=by lia
  rw[this];by_cases x:q=0
  .subst x;decide
  .exact be ((og x).mpr (show q < 2 ^ 60 by lia)) (by decide)))]
theorem vt(h:q < 1000):(dg q).length≤3:=(jO h).le
noncomputable def FW:D:=.p (.tup [.str "or",.str "and",.str "not",.str "true",.str "dry",.str "some",.str "all",.str "each",.str "many",.str "at",.str "when",.str "letters",.str "to",.str "knows",.str "never",.str "always",.str "ahead",.str "of",.str "last",.str "whenever",.str "can"])
structure Nmd(c:List Nat):Prop where
 w:Wrd c
 nw:NJ c
 f:bb (.p (.str (O c))) FW []=some (.bl false)
inductive Lf where
 |num (k:Nat)|nam (c:List Nat)
def Lf.pp:Lf->P
 | .num k=>l7 k
 | .nam c=>jQ c
def Lf.tx:Lf->List Nat
 | .num k=>dg k
 | .nam c=>c
def Lf.tk:Lf->Tk
 | .num k=>.n k (dg k)
 | .nam c=>.w c
def Lf.ok:Lf->Prop
 | .num k=>k < 1000
 | .nam c=>Nmd c
inductive Sm where
 |lf (a:Lf)|bin (m:Mk) (a b:Lf)
def Sm.pp:Sm->P
 | .lf a=>a.pp
 | .bin m a b=>m.fo a.pp b.pp
noncomputable def Sm.tx:Sm->List Nat
 | .lf a=>a.tx
 | .bin m a b=>a.tx++32::(m.tx++32::b.tx)
noncomputable def Sm.tk:Sm->List Tk
 | .lf a=>[a.tk]
 | .bin m a b=>[a.tk,.s m,b.tk]
def Sm.ok:Sm->Prop
 | .lf a=>a.ok
 | .bin m a b=>5≤m.lw/\a.ok/\b.ok
def nj(m:Mk)(a b:Sm):P:=.tup [.str "is",.str m.sg,a.pp,b.pp]
def qe(m:Mk)(a b:Sm):List Nat:=a.tx++32::(m.tx++32::b.tx)
def AR(m:Mk)(a b:Sm):List Tk:=a.tk++.s m::b.tk
inductive C where
 |is (m:Mk) (a b:Sm)|no (m:Mk) (a b:Sm)|or (m:Mk) (a b c:Sm)
def C.pp:C->P
 | .is m a b=>nj m a b
 | .no m a b=>.tup [.str "not",nj m a b]
 | .or m a b c=>.tup [.str "or",nj m a b,nj .eq c (.lf (.num 7))]
def C.tx:C->List Nat
 | .is m a b=>qe m a b
 | .no m a b=>[110,111,116]++32::qe m a b
 | .or m a b c=>qe m a b++32::([111,114]++32::qe .eq c (.lf (.num 7)))
def C.tk:C->List Tk
 | .is m a b=>AR m a b
 | .no m a b=>.w [110,111,116]::AR m a b
 | .or m a b c=>AR m a b++.w [111,114]::AR .eq c (.lf (.num 7))
def C.ok:C->Prop
 | .is m a b=>m.lw=4/\a.ok/\b.ok
 | .no m a b=>m.lw=4/\a.ok/\b.ok
 | .or m a b c=>m.lw=4/\a.ok/\b.ok/\c.ok
variable{m:Mk}
theorem wZ(h:4≤m.lw):m.wd=false:=by cases m<;>first|rfl|exact absurd h (by decide)
theorem Lf.tko{a:Lf}(h:a.ok):a.tk.ok:=by
 cases a with
 |num k=>exact jO h
 |nam c=>exact h.w
theorem Lf.tkx(a:Lf):a.tk.tx=a.tx:=by cases a<;>rfl
theorem Lf.sp{a:Lf}(h:a.ok):Sp [a.tk] a.tx:=by rw[<- a.tkx];exact .one (a.tko h)
theorem BM{x y:List Tk}{s t:List Nat}(m:Mk)(h:4≤m.lw)(a:Sp x s)(e:Sp y t):Sp (x++.s m::y) (s++32::(m.tx++32::t)):=a.appB (.sg m (wZ h) (.bl e))
variable{a:Sm}
theorem Sm.sp(h:a.ok):Sp a.tk a.tx:=by
 cases a with
 |lf a=>exact a.sp h
 |bin m a b=>exact BM m (by have:=h.1;lia) (a.sp h.2.1) (b.sp h.2.2)
theorem Bp:Wrd [110,111,116]:=⟨by decide,by decide,by unfold m_;decide⟩
theorem Bo:Wrd [111,114]:=⟨by decide,by decide,by unfold m_;decide⟩
theorem kx{c:List Nat}(h:Wrd c){ts:List Tk}{x:List Nat}(a:Sp ts x):Sp (.w c::ts) (c++32::x):=.tk h (.bl a) λ_=>pD (by decide)
variable{b:Sm}
theorem tY(h:m.lw=4)(x:a.ok)(e:b.ok):Sp (AR m a b) (qe m a b):=BM m (by lia) (a.sp x) (b.sp e)
theorem jJ:Sm.ok (.lf (.num 7)):=show 7 < 1000 by decide
theorem C.sp{c:C}(h:c.ok):Sp c.tk c.tx:=by
 cases c with
 |is m a b=>exact tY h.1 h.2.1 h.2.2
 |no m a b=>exact kx Bp (tY h.1 h.2.1 h.2.2)
 |or m a b c=>exact(tY h.1 h.2.1 h.2.2.1).appB (kx Bo (tY rfl h.2.2.2 jJ))
theorem Lf.sq{a:Lf}(h:a.ok)(x:w≠.done)(ms:List Mk)(ts:List P):Sq a.tk w ms ts .done ms (a.pp::ts):=by
 cases a with
 |num k=>exact .num x
 |nam c=>exact .nam x h.nw
theorem Lf.sum(a:Lf):my true a.pp:=by cases a<;>exact y9 _ _ _ (by kernel_rfl)
theorem Sm.sum(h:a.ok):my true a.pp:=by
 cases a with
 |lf a=>exact a.sum
 |bin m a b=>exact BJ h.1 _ _
def Pd(h:Nat)(ms:List Mk)(t:P)(ts:List P)(m:List Mk)(s:List P):Prop:=∀l≤h,∀g u,Fo l ms (t::ts) g u->Fo l m s g u
theorem Sm.run(h:a.ok)(x:w≠.done)(d:∀m r,ms=m::r->1≤m.lw/\m.lw < 5):∃s t,Rn a.tk w ms ts .done s t/\Pd 5 ms a.pp ts s t:=by
 cases a with
 |lf a=>exact⟨ms,_,.cons (a.sq h x ms ts) .nil,λ_ _ _ _ z=>z⟩
 |bin m a b=>have n:=h.1;refine⟨m::ms,b.pp::a.pp::ts,.cons (a.sq h.2.1 x ms ts) (.cons (.op n a.sum (.st λq r e=>by have:=d q r e;lia)) (.cons (b.sq h.2.2 (by decide) _ _) .nil)),λl k _ _ z=>.tw (by lia) (by lia) (by lia) z⟩
theorem tX(h:m.lw=4)(x:a.ok)(n:b.ok)(d:∀m r,ms=m::r->1≤m.lw/\m.lw < 4):∃s t,Rn (AR m a b) .par ms ts .done s t/\Pd 4 ms (nj m a b) ts s t:=by obtain⟨y,o,c,p⟩:=a.run x (w:=.par) (by decide) (ms:=ms) (ts:=ts) (λq r e=>by have:=d q r e;lia);obtain⟨k,i,v,f⟩:=b.run n (w:=.fac) (by decide) (ms:=m::ms) (ts:=a.pp::ts) (λq r e=>by cases e;lia);refine⟨k,i,c.app (.cons (.cm h (p 5 (by lia) _ _ (.st λq r e=>by have:=d q r e;lia)) (a.sum x) d) v),λl j g u z=>f l (by lia) _ _ (.tw (by lia) (by lia) (by lia) ?_)⟩;unfold Mk.fo;rw[ac h];exact z
theorem N6(m:Mk)(a b:Sm):my false (nj m a b):=y9 _ _ _ (by kernel_rfl)
variable{l:Nat}
theorem mX:Fo l [] ts [] ts:=.st λ_ _ z=>nomatch z
theorem C.run{c:C}(h:c.ok):∃ms ts,Rn c.tk .par [] [] .done ms ts/\Fin ms ts c.pp:=by
 cases c with
 |is m a b=>obtain⟨x,t,r,p⟩:=tX (ms:=[]) (ts:=[]) h.1 h.2.1 h.2.2 (λ_ _ z=>nomatch z);exact⟨x,t,r,_,_,_,p 4 (by lia) _ _ mX,N6 m a b,mX⟩
 |no m a b=>obtain⟨x,t,r,p⟩:=tX (ms:=[.no]) (ts:=[]) h.1 h.2.1 h.2.2 (λ_ _ z=>by cases z;decide);exact⟨x,t,.cons .no r,_,_,_,p 4 (by lia) _ _ (.st λ_ _ z=>by cases z;decide),N6 m a b,.no (by decide) mX⟩
 |or m a b c=>obtain⟨x,t,r,p⟩:=tX (ms:=[]) (ts:=[]) h.1 h.2.1 h.2.2.1 (λ_ _ z=>nomatch z);obtain⟨e,k,n,s⟩:=tX (m:=.eq) (ms:=[.or]) (ts:=[nj m a b]) rfl h.2.2.2 jJ (λ_ _ z=>by cases z;decide);exact⟨e,k,r.app (.cons (.or (p 4 (by lia) _ _ mX) (N6 m a b) mX) n),_,_,_,s 4 (by lia) _ _ (.st λ_ _ z=>by cases z;decide),N6 _ _ _,.tw (by decide) (by decide) (by decide) mX⟩
theorem Sm.tl(a:Sm):a.tk.length≤3:=by cases a<;>simp[Sm.tk]
theorem C.tl(c:C):c.tk.length≤16:=by
 cases c with
 |is m a b=>have:=a.tl;have:=b.tl;simp[C.tk,AR];lia
 |no m a b=>have:=a.tl;have:=b.tl;simp[C.tk,AR];lia
 |or m a b c=>have:=a.tl;have:=b.tl;have:=c.tl;have:=(Sm.lf (.num 7)).tl;simp[C.tk,AR];lia
theorem C.read{c:C}(h:c.ok)(a:10≤n)(e:Sp c.tk x)(l:x.length < 1000):pureOf (Ph n "read_condition") [.str (O x)]=some c.pp:=by obtain⟨ms,ts,r,f⟩:=c.run h;exact AE a c.tk e r f (by have:=c.tl;lia) l
variable{s:List Nat}{i:Nat}
theorem ze(ψ:Str->GF)(y:Str)(a:s.length≤1000000):∀(run p o:List Nat)(f:Nat),s=p++(run++o)->(∀c ∈ run,oM c y=true)->No y o->run.length < f ->
  bh (f6 (bV (aH vv (vE (U 1)) (d_ (U 0)))) (bV (aI bb (Y (aH bX (vE (U 0)) (vE (U 1)))) (U 2)))) (gF ψ) f
   [some (.p (.str (O s))),some (.p (.int (p.length:Int))),some (.p (.str y))] []=some (.nx,[some (.p (.str (O s))),some (.p (.int ((p.length+run.length:Nat):Int))),some (.p (.str y))],[])
 |run,p,o,0,_,_,_,h=>by lia
 | [],p,o,f+1,n,_,t,_=>by
  refine df ?_;cases o with
  |nil=>
   have b:s.length=p.length:=by rw[n];simp
   have k:p.length≤1000000:=by lia
   simp[b8,cE,a,b,k]
  |cons c r=>
   have b:p.length < s.length:=by rw[n];simp
   have l:(p.length:Int) < (s.length:Int):=by lia
   have d:=bN a (show L2.atI s (p.length:Int)=some c by rw[n];exact cL p c r);have m:=t c r rfl;simp[b8,cE,a,b,l,d,jo,m]
 |c::run,p,o,f+1,n,q,t,v=>by
  have e:=ze ψ y a run (p++[c]) o f (by rw[n];simp) (λx w=>q x (aW _ w)) t (by simp at v;lia);have b:p.length < s.length:=by rw[n];simp
  have l:(p.length:Int) < (s.length:Int):=by lia
  have d:=bN a (show L2.atI s (p.length:Int)=some c by rw[n];exact cL p c _);have m:=q c aM;rw[bY (h:=[]) (L2:=[some (.p (.str (O s))),some (.p (.int ((p++[c]).length:Int))),some (.p (.str y))]) (x:=[]) (by simp[b8,cE,a,b,l,d,jo,m]) (by simp[gF])];rw[e];simp;lia
theorem oB(s:2≤n)(y:Str)(r run o:List Nat)(h:(r++(run++o)).length≤1000000)(a:∀c ∈ run,oM c y=true)(x:No y o)(f:run.length < 1000) :
  pureOf (Ph n "run_end") [.str (O (r++(run++o))),.int (r.length:Int),.str y]=some (.int ((r.length+run.length:Nat):Int)):=by
 obtain⟨n,rfl⟩:=eK (n:=n) (by first|assumption|lia);have e:=ze (Ph (n+1)) y h run r o 1000 rfl a x f;rw[vn,ao];generalize r.length+run.length=j at *
 generalize r.length=p at *
 simp[nr,dP,e]
theorem lh(m:2≤n)(a:s.length≤1000000)(h:j' s i):pureOf (Ph n "is_pressed") [.str (O s),.int (i:Int)]=some (.bl false):=by
 obtain⟨n,rfl⟩:=eK (n:=n) (by first|assumption|lia);rw[pR,ao];by_cases x:i=0
 .subst x;simp[gJ]
 .rcases h with h|⟨c,e,k⟩
  .exact absurd h x
  .have d:=bN a e;have b:(0:Int) < (i:Int):=by lia
   have p:0 < i:=by lia
   have f:aD (.str ("abcdefghijklmnopqrstuvwxyz":Str)) (.str ("0123456789":Str))=some (.str ("abcdefghijklmnopqrstuvwxyz"++"0123456789")):=by kernel_rfl
   have g:=λS=>jo c ("abcdefghijklmnopqrstuvwxyz"++"0123456789":Str) S;rw[k]at g;simp[gJ,d,b,p,-bi,f,g]
theorem ints_cons(lo:Int)(n:Nat):Ev.intsFrom lo (n+1)=.int lo::Ev.intsFrom (lo+1) n:=by unfold Ev.intsFrom;rw[List.range_succ_eq_map,a6,oi];simp only[kf,xQ,Int.add_zero,true_and];exact List.map_congr_left λk _=>by simp only[Function.comp];congr 1;lia
theorem Gw(ψ:Str->GF)(h:s.length≤1000000)(o:Option D)(t x:List Nat):∀(p:List Nat)(m:Nat),s=p++(x++93::t)->(∀c ∈ x,c≠91/\c≠93)->x.length < m->∀q,
  ∃L,dI (cF 3) (cY ψ) (Ev.intsFrom (p.length:Int) m) [some (.p (.str (O s))),o,some (.p (.int 1)),q] []=some (.rt (.p (.int ((p.length+x.length:Nat):Int))),L,[]):=by
 have l:(⟨#[93]⟩:Str)="]":=rfl;have g:¬("]":Str)="[":=by decide +kernel
 induction x with
 |nil=>intro p m f r b q;obtain⟨m,rfl⟩:∃k,m=k+1:=⟨m-1,by simp at b;lia⟩;have d:=bN h (show L2.atI s (p.length:Int)=some 93 by rw[f];exact cL p 93 t);rw[l]at d;refine⟨[some (.p (.str (O s))),o,some (.p (.int 0)),some (.p (.int (p.length:Int)))],?_⟩;rw[ints_cons];refine De (h:=[some (.p (.str (O s))),o,some (.p (.int 1)),some (.p (.int (p.length:Int)))]) rfl ?_;simp[cY,pk,d]
 |cons c x i=>
  intro p m f r b q;obtain⟨m,rfl⟩:∃k,m=k+1:=⟨m-1,by simp at b;lia⟩;have n:=r c aM;have d:=bN h (show L2.atI s (p.length:Int)=some c by rw[f];exact cL p c _);have w:¬(⟨#[c]⟩:Str)="[":=λe=>n.1 (by have:=cc (λx:Str=>x.cps.toList) e;rw[show(("[":Str)).cps.toList=[91] by decide +kernel]at this;simpa using this)
  have u:¬(⟨#[c]⟩:Str)="]":=λe=>n.2 (by have:=cc (λx:Str=>x.cps.toList) e;rw[show(("]":Str)).cps.toList=[93] by decide +kernel]at this;simpa using this)
  obtain⟨L,e⟩:=i (p++[c]) m (by rw[f];simp) (λa v=>r a (aW _ v)) (by simp at b;lia) (some (.p (.int (p.length:Int))));refine⟨L,?_⟩;rw[ints_cons,jT (h:=[some (.p (.str (O s))),o,some (.p (.int 1)),some (.p (.int (p.length:Int)))]) (L2:=[some (.p (.str (O s))),o,some (.p (.int 1)),some (.p (.int (p.length:Int)))]) (x:=[]) rfl (by simp[cY,pk,d,w,u])];rw[show((p.length:Int)+1)=((p++[c]).length:Int) by simp,e];simp;lia
theorem Gu(q:2≤n)(r x o:List Nat)(h:(r++(x++93::o)).length < 1000000)(t:∀c ∈ x,c≠91/\c≠93) :
  pureOf (Ph n "bracket_end") [.str (O (r++(x++93::o))),.int (r.length:Int)]=some (.int ((r.length+x.length:Nat):Int)):=by
 obtain⟨n,rfl⟩:=eK (n:=n) (by first|assumption|lia);obtain⟨L,e⟩:=Gw (Ph (n+1)) (lL h) (some (.p (.int (r.length:Int)))) o x r ((r++(x++93::o)).length-r.length) rfl t (by simp) none;have a:(r.length:Int).natAbs < 1000000:=by simp at h;lia
 have k:((r++(x++93::o)).length:Int).natAbs < 1000000:=by lia
 rw[nC,ao];generalize r.length+x.length=j at *
 generalize r++(x++93::o)=s at *
 generalize r.length=p at *
 have f:s.length≤1000000:=by lia
 have b:p < 1000000:=by lia
 have m:s.length < 1000000:=by lia
 simp[jp,FV,b8,cE,a,k,f,b,m,e]
theorem MH:∀m:Mk,m≠.lb->m≠.rb->∀c ∈ m.tx,c≠91/\c≠93:=by intro m;cases m<;>decide
theorem LH{ts:List Tk}{x:List Nat}(h:Sp ts x)(f:∀k ∈ ts,k≠.s .lb/\k≠.s .rb):∀c ∈ x,c≠91/\c≠93:=by
 induction h with
 |nil=>exact λ_ z=>nomatch z
 |bl _ i=>exact λc z=>(aU.mp z).elim (λe=>by lia) (i f c)
 | @tk k ts t hk _ _ i=>
  intro c z;rcases dD.mp z with z|z
  .have b:=f k aM;cases k with
   |w q=>have:=hk.al c z;unfold m_ at this;lia
   |n a q=>have:=hk.al c z;unfold vQ at this;lia
   |s m=>exact MH m (λe=>b.1 (by rw[e])) (λe=>b.2 (by rw[e])) c z
  .exact i (λq r=>f q (aW _ r)) c z
variable{s:List Nat}{i:Nat}
structure FWd(c:List Nat):Prop where
 w:Wrd c
 f:bb (.p (.str (O c))) FW []=some (.bl true)
 n:¬O c=("when":Str)
inductive It:Tk->Str->P->Prop
 |fw {c:_}:FWd c->It (.w c) (O c) (.str (O c))
 |nm {c:_}:Nmd c->It (.w c) "name" (.str (O c))
 |nu {k:_}:k < 1000->It (.n k (dg k)) "number" (.int (k:Int))
 |br {m:_}:m.lw=0->It (.s m) m.sg (.str m.sg)
 |cm {m:_}:m.lw=4->It (.s m) "compared" (.str m.sg)
noncomputable def pc(k:Str)(v:P)(s:Int):P:=.tup [.str k,v,.int s]
theorem FM{c:List Nat}(h:Nmd c):¬O c=("when":Str):=λe=>by have:=h.f;rw[e,show bb _ _ _=some (.bl true) by kernel_rfl]at this;simp at this
theorem zt(y:Str)(a:Option D):∀(c:List Nat)(o:Option D),(∀x ∈ c,oM x y=true)->∃s,iz (cF 2) Gx (aI bb (U 2) (U 1)) (c.map λk=>P.str ⟨#[k]⟩) [a,some (.p (.str y)),o] []=some (s,[])/\p7 [.lst s]=some (.bl true)
 | [],_,_=>⟨[],rfl,rfl⟩
 |k::c,o,h=>by obtain⟨s,e,q⟩:=zt y a c (some (.p (.str ⟨#[k]⟩))) λx n=>h x (aW _ n);have hk:=jo k y;rw[h k aM]at hk;refine⟨.bl true::s,by simp[iz,hk,e],?_⟩;simp only[p7,vL,fK]at q ⊢;obtain⟨b,f,m⟩:=q;exact⟨true::b,⟨b,f,rfl⟩,by simpa using m⟩
theorem CS(S:4≤n)(h:k < 1000):pureOf (Ph n "is_number") [.str (O (dg k))]=some (.bl true):=by
 obtain⟨n,rfl⟩:=AS (n:=n) (by first|assumption|lia);have N:=jO h;have y:=N.le;have o:=N.z;obtain⟨a,r,p⟩:∃a r,dg k=a::r:=by
  cases e:dg k with
  |nil=>exact absurd e N.ne
  |cons a r=>exact⟨a,r,rfl⟩
 have m:pureOf (Ph (n+2) "is_made_of") [.str (O (dg k)),.str "0123456789"]=some (.bl true):=by
  obtain⟨H,e,q⟩:=zt "0123456789" (some (.p (.str (O (dg k))))) (dg k) none λx g=>pK (N.al x g);have u:(O (dg k)).cps.all (· < 128)=true:=by simp only[O,su,bj,gY];exact λx g=>by have:=N.al x g;unfold vQ at this;lia
  have z:signs (O (dg k))=(dg k).map λk=>P.str ⟨#[k]⟩:=by unfold signs;rw[dh]
  have b:(dg k).length≤1000000:=by lia
  rw[pS,ao];generalize O (dg k)=t at *
  simp[j9,qB,wD,u,z,e,q,b]
 have j:bX (.str (O (dg k))) (.int 0)=some (.str ⟨#[a]⟩):=bN (by lia) (by rw[p];exact vN a r);have b:=cS (dg k);have v:(1:Int)≤((dg k).length:Int):=by rw[p,ak];lia
 have d:((dg k).length:Int)≤3:=by lia
 have w:(dg k).length≤1000000:=by lia
 have c:O (dg k)=("0":Str)\/¬(⟨#[a]⟩:Str)="0":=by
  by_cases e:(⟨#[a]⟩:Str)="0"
  .have:=cc (λx:Str=>x.cps.toList) e;rw[show(("0":Str)).cps.toList=[48] by decide +kernel]at this;have u:a=48:=by simpa using this
   subst u;have:=o (by rw[p];rfl)
   rw[p]at this ⊢;cases r with
   |nil=>exact .inl e
   |cons _ _=>simp at this
  .exact .inr e
 rw[qu,ao];generalize O (dg k)=t at *
 generalize (dg k).length=l at *
 have s:1≤l:=by lia
 have f:l≤3:=by lia
 rcases c with c|c
 .rw [c]at m b ⊢;simp[fh,m,b8,cE,b,v,d,w,s,f]
 .by_cases i:t=("0":Str)
  .rw [i]at m b ⊢;simp[fh,m,b8,cE,b,v,d,w,s,f]
  .simp [fh,m,b8,cE,b,v,d,w,s,f,j,c,i]
theorem Qn(h:m.lw=0)(S:aP):(⟨#[m.ch]⟩:Str)=m.sg/\bb (.p (.str ⟨#[m.ch]⟩)) (.p (.str "abcdefghijklmnopqrstuvwxyz")) S=some (.bl false)/\bb (.p (.str ⟨#[m.ch]⟩)) (.p (.str "0123456789")) S=some (.bl false)/\bb (.p (.str ⟨#[m.ch]⟩)) (.p (.str "[]")) S=some (.bl true):=by cases m<;>first|exact absurd h (by decide)|exact⟨rfl,by kernel_rfl,by kernel_rfl,by kernel_rfl⟩
theorem Nq(h:m.lw=4)(S:aP):bb (.p (.str ⟨#[m.ch]⟩)) (.p (.str "abcdefghijklmnopqrstuvwxyz")) S=some (.bl false)/\bb (.p (.str ⟨#[m.ch]⟩)) (.p (.str "0123456789")) S=some (.bl false)/\bb (.p (.str ⟨#[m.ch]⟩)) (.p (.str "[]")) S=some (.bl false):=by cases m<;>first|exact absurd h (by decide)|exact⟨by kernel_rfl,by kernel_rfl,by kernel_rfl⟩
theorem Jj{n:Nat}(z:4≤n)(r c o:List Nat)(a:Wrd c){b:Bool}(w:bb (.p (.str (O c))) FW []=some (.bl b))(i:¬O c=("when":Str))
  (h:(r++(c++o)).length≤1000000) (g:No "abcdefghijklmnopqrstuvwxyz" o) (e:j' (r++(c++o)) r.length):pureOf (Ph n "letters_at") [.str (O (r++(c++o))),.int (r.length:Int)]=some (pc (if b=true then O c else "name") (.str (O c)) ((r.length+c.length:Nat):Int)):=by
 obtain⟨n,rfl⟩:=eK (n:=n) (by first|assumption|lia);have k:=oB (n:=n+1) (by lia) "abcdefghijklmnopqrstuvwxyz" r c o h (λx y=>(pJ (a.al x y)).1) g (by have:=a.le;lia);have m:=lh (n:=n+1) (by lia) h e;have d:=hV h;have f:∀S,bb (.p (.str (O c))) (.p (.tup [.str "or",.str "and",.str "not",.str "true",.str "dry",.str "some",.str "all",.str "each",.str "many",.str "at",.str "when",.str "letters",.str "to",.str "knows",.str "never",.str "always",.str "ahead",.str "of",.str "last",.str "whenever",.str "can"])) S=some (.bl b):=λ_=>w;have l:=cS c;have u:=a.le;rw[jX,ao];generalize r.length+c.length=j at *
 generalize r++(c++o)=s at *
 generalize r.length=p at *
 have t:¬(10:Int) < (c.length:Int):=by lia
 have q:c.length≤1000000:=by lia
 have v:¬10 < c.length:=by lia
 generalize O c=H at *
 cases b<;>simp[gH,k,m,d,b8,cE,l,t,q,v,i,f,pc]
theorem IY(t:6≤n)(hk:k < 1000)(r o:List Nat)
  (h:(r++(dg k++o)).length≤1000000) (c:No "0123456789" o) (e:j' (r++(dg k++o)) r.length):pureOf (Ph n "number_at") [.str (O (r++(dg k++o))),.int (r.length:Int)]=some (pc "number" (.int (k:Int)) ((r.length+(dg k).length:Nat):Int)):=by
 obtain⟨n,rfl⟩:=eK (n:=n) (by first|assumption|lia);have N:=jO hk;have a:=oB (n:=n+1) (by lia) "0123456789" r (dg k) o h (λx m=>pK (N.al x m)) c (by have:=N.le;lia);have f:=lh (n:=n+1) (by lia) h e;have b:=CS (n:=n+1) (by lia) hk;have d:=hV h;have v:=N.v;rw[qt,ao];generalize r.length+(dg k).length=j at *
 generalize r++(dg k++o)=s at *
 generalize r.length=p at *
 generalize O (dg k)=q at *
 simp[kZ,a,f,b,d,v,pc]
theorem B7{n:Nat}(hn:7≤n)(f y:List Nat){k:Tk}{kd:Str}{v:P}(h:It k kd v)(t:(f++(k.tx++y)).length≤1000000)(E:k.an=true->NA y)(W:∀c ∈ y,c < 128)(l:Jn (f++(k.tx++y)) f.length (k.tx++y))
  (Q:∀m,k=.s m->m.lw=4->∃d r,y=d::r/\d < 128/\d≠61):pureOf (Ph n "piece_at") [.str (O (f++(k.tx++y))),.int (f.length:Int)]=some (pc kd v ((f.length+k.tx.length:Nat):Int)):=by
 obtain⟨n,rfl⟩:=eK (n:=n) (by first|assumption|lia);have u:∀c b,k=.w c->Wrd c->(bb (.p (.str (O c))) FW []=some (.bl b))->¬O c=("when":Str) ->
   pureOf (Ph (n+2) "piece_at") [.str (O (f++(k.tx++y))),.int (f.length:Int)]=some (pc (if b=true then O c else "name") (.str (O c)) ((f.length+c.length:Nat):Int)):=λc b e B X Z=>by
  subst e;obtain⟨a,r,rfl⟩:∃a r,c=a::r:=by
   cases c with
   |nil=>exact absurd rfl B.ne
   |cons a r=>exact⟨a,r,rfl⟩
  have z:=B.al a aM;have e:=Jj (n:=n+1) (by lia) f (a::r) y B X Z t (zp W (E rfl) λc=>zm) (tR l rfl (.inl z));have g:=bN t (cL f a (r++y));have H:=λS=>jo a "abcdefghijklmnopqrstuvwxyz" S;rw[(pJ z).1]at H;rw[eL,ao];show _=some (pc (if b=true then O (a::r) else "name") (.str (O (a::r))) ((f.length+(a::r).length:Nat):Int));generalize f.length+(a::r).length=j at *
  rw[show(Tk.w (a::r)).tx=a::r from rfl] at *
  rw[iP] at *
  generalize f++a::(r++y)=s at *
  generalize f.length=p at *
  simp[cX,g,H,e]
 cases h with
 | @fw c h=>exact(u c true rfl h.w h.f h.n).trans (by rw[ac rfl];rfl)
 | @nm c h=>exact(u c false rfl h.w h.f (FM h)).trans (by rw[ae aX];rfl)
 | @nu k hk=>
  have T:=jO hk;obtain⟨a,r,L⟩:∃a r,dg k=a::r:=by
   cases e:dg k with
   |nil=>exact absurd e T.ne
   |cons a r=>exact⟨a,r,rfl⟩
  have z:=T.al a (by rw[L];exact aM);have e:=IY (n:=n+1) (by lia) hk f y t (zp W (E rfl) λc=>zn) (tR (c:=a) (r:=r++y) l (by show dg k++y=_;rw[L];rfl) (.inr z));have g:=bN t (show L2.atI (f++(dg k++y)) (f.length:Int)=some a by rw[L];exact cL f a _);have H:=λS=>jo a "0123456789" S;rw[pK z]at H;have C:=λS=>jo a "abcdefghijklmnopqrstuvwxyz" S;rw[show oM a "abcdefghijklmnopqrstuvwxyz"=false by rw[(inT a (by unfold vQ at z;lia)).1];exact a7 (by unfold vQ at z;unfold m_;lia)]at C;rw[eL,ao];rw[show(Tk.n k (dg k)).tx=dg k from rfl] at *
  generalize f.length+(dg k).length=j at *
  generalize f++(dg k++y)=s at *
  generalize f.length=p at *
  simp[cX,g,H,C,e]
 | @br m F=>
  obtain⟨a,A⟩:∃a,m.tx=[a]:=by cases m<;>first|exact absurd F (by decide)|exact⟨_,rfl⟩
  have g:=bN t (show L2.atI (f++((Tk.s m).tx++y)) (f.length:Int)=some a by rw[show(Tk.s m).tx=[a] from A];exact cL f a _);have w:=λS=>Qn F S;have o:m.ch=a:=by show m.tx.headD 0=a;rw[A];rfl
  rw[o]at w;have M:=(w []).1;rw[M]at w g;have I:(Tk.s m).tx.length=1:=by rw[show(Tk.s m).tx=[a] from A];rfl
  rw[I,eL,ao];generalize f++((Tk.s m).tx++y)=s at *
  generalize f.length=p at *
  generalize m.sg=ms at *
  simp[cX,g,λS=>(w S).2.1,λS=>(w S).2.2.1,λS=>(w S).2.2.2,pc]
 | @cm m F=>
  obtain⟨a,r,A⟩:∃a r,m.tx=a::r:=by cases m<;>exact⟨_,_,rfl⟩
  have g:=bN t (show L2.atI (f++((Tk.s m).tx++y)) (f.length:Int)=some a by rw[show(Tk.s m).tx=a::r from A];exact cL f a _);have w:=λS=>Nq F S;have o:m.ch=a:=by show m.tx.headD 0=a;rw[A];rfl
  obtain⟨x,q,V,R,G⟩:=zR F y (Q m rfl F);rw[o]at w G;have i:=hV (p:=f) (run:=x) (o:=q) (by rw[<- V];exact t);rw[<- V,R,show(((f.length+2:Nat)):Int)=(f.length:Int)+2 by lia]at i;have K:=λS=>Nv (Nu F) S;rw[show O m.tx=m.sg from rfl]at K;have I:=tL m;have D:m.tx.length≤1000000:=by cases m<;>decide
  rw[show(Tk.s m).tx=m.tx from rfl] at *
  rw[eL,ao];generalize f++(m.tx++y)=s at *
  generalize f.length=p at *
  rcases G with rfl|⟨N,B⟩
  .rw [show O m.tx=m.sg from rfl]at i;generalize m.sg=ms at *
   simp[cX,fA,dI,b8,cE,g,i,λS=>(w S).1,λS=>(w S).2.1,λS=>(w S).2.2,K,I,D,pc]
  .have H:=λS=>Nv N S;rw[B]at w g;generalize m.sg=ms at *
   simp[cX,fA,dI,b8,cE,g,i,λS=>(w S).1,λS=>(w S).2.1,λS=>(w S).2.2,H,K,I,D,pc]
variable{s:List Nat}{i:Nat}
noncomputable def bW:List Nat:=[119,104,101,110]
theorem jI:Wrd bW:=⟨by decide,by decide,by unfold m_;decide⟩
theorem EF{n:Nat}(hn:14≤n)(h x y:List Nat)(j:Nat){c:C}(I:c.ok)(Q:Sp c.tk x)(l:x.length < 1000)(g:∀a ∈ x,a≠91/\a≠93)(N:j < 1000)(hy:∀c ∈ y,c < 128)
  (f:(h++(bW++(List.replicate j 32++(91::(x++93::y))))).length < 1000000) (m:j' (h++(bW++(List.replicate j 32++(91::(x++93::y))))) h.length) :
  pureOf (Ph n "piece_at") [.str (O (h++(bW++(List.replicate j 32++(91::(x++93::y)))))),.int (h.length:Int)]=some (pc "when" c.pp ((h.length+4+j+x.length+2:Nat):Int)):=by
 obtain⟨n,rfl⟩:=N_ (n:=n) (by first | assumption | lia);have k:=lL f;have o:=oB (n:=n+2) (by lia) "abcdefghijklmnopqrstuvwxyz" h bW _ k (by decide +kernel) (fun a r e=>by
  cases j with
  |zero=>cases e;decide +kernel
  |succ j=>cases e;decide +kernel) (by decide)
 have B:=lh (n:=n+2) (by lia) k m;have w:=hV k;have D:=C.read I (n:=n+1) (by lia) Q l;have T:O bW=("when":Str):=by decide +kernel
 have M:∀S,bb (.p (.str ⟨#[119]⟩)) (.p (.str "abcdefghijklmnopqrstuvwxyz")) S=some (.bl true):=λS=>by kernel_rfl
 have u:bX (.str (O (h++(bW++(List.replicate j 32++(91::(x++93::y))))))) (.int (h.length:Int))=some (.str ⟨#[119]⟩):=bN k (cL h 119 _);have i:h++(bW++(List.replicate j 32++(91::(x++93::y))))=(h++bW)++(List.replicate j 32++(91::(x++93::y))):=by simp
 have z:h++(bW++(List.replicate j 32++(91::(x++93::y))))=(h++(bW++List.replicate j 32))++([91]++(x++93::y)):=by simp
 have v:h++(bW++(List.replicate j 32++(91::(x++93::y))))=(h++(bW++(List.replicate j 32++[91])))++(x++93::y):=by simp
 have d:=oB (n:=n+1) (by lia) " " (h++bW) (List.replicate j 32) (91::(x++93::y)) (by rw[<- i];exact k) (λa G=>by rw[(ou.mp G).2];decide +kernel) (λa r e=>by cases e;decide +kernel) (by simpa using N);have b:=hV (p:=h++(bW++List.replicate j 32)) (run:=[91]) (o:=x++93::y) (by rw[<- z];exact k);have t:=Gu (n:=n+1) (by lia) (h++(bW++(List.replicate j 32++[91]))) x y (by rw[<- v];exact f) g;have q:=hV (p:=h++(bW++(List.replicate j 32++[91]))) (run:=x) (o:=93::y) (by rw[<- v];exact k);rw[<- i]at d;rw[<- z]at b;rw[<- v]at t q;have W:bW.length=4:=rfl;simp only[aL,iR,ak,a',W]at o w d b t q;have F:((h.length+(4+j):Nat):Int)=((h.length+4+j:Nat):Int):=by lia
 have K:((h.length+(4+j)+(0+1):Nat):Int)=((h.length+4+j:Nat):Int)+1:=by lia
 have P:((h.length+(4+(j+(0+1))):Nat):Int)=((h.length+4+j:Nat):Int)+1:=by lia
 have A:((h.length+4+j+x.length+2:Nat):Int)=((h.length+(4+(j+(0+1)))+x.length:Nat):Int)+1:=by lia
 rw[F,K]at b;rw[P]at t q;rw[A];have V:O [91]=("[":Str):=by decide +kernel
 rw[V]at b;rw[T]at w;have Z:(⟨#[119]⟩:Str)=O [119]:=rfl;have X:("when":Str).length=4:=by decide +kernel
 rw[eL,ao];generalize h++(bW++(List.replicate j 32++(91::(x++93::y))))=s at *
 generalize h.length+(4+(j+(0+1)))+x.length=H at *
 generalize h.length+4+j=q2 at *
 generalize h.length+4=R at *
 generalize h.length=p at *
 generalize O x=tx at *
 have E:pureOf (Ph (n+2) "condition_at") [.str (O s),.int (R:Int)]=some (pc "when" c.pp ((H:Int)+1)):=by rw[mZ,ao];simp[iJ,d,b,t,q,D,pc]
 have L:pureOf (Ph (n+3) "letters_at") [.str (O s),.int (p:Int)]=some (pc "when" c.pp ((H:Int)+1)):=by rw[jX,ao];simp[gH,o,B,w,b8,cE,X,E]
 simp[cX,u,M,L]
inductive Pc:List Tk->List (Str×P)->Prop
 |nil:Pc [] []
 |one {k kd v ts qs:_}:It k kd v->(∀m,k=.s m->m.lw=4->∃a r,ts=a::r/\a.an=true)->Pc ts qs->Pc (k::ts) ((kd,v)::qs)
 |wh {c ts qs:_}:C.ok c->Pc ts qs->Pc (.w bW::.s .lb::(c.tk++.s .rb::ts)) (("when",c.pp)::qs)
inductive Mt:List (Str×P)->List P->Prop
 |nil:Mt [] []
 |cons {k v qs ps:_} (s:Int):Mt qs ps->Mt ((k,v)::qs) (pc k v s::ps)
abbrev Kr:EB:=bV (aH vv (vE (U 2)) (d_ (U 0)))
theorem oQ(ψ:Str->GF)(h:s.length≤1000000)(S:aP)(o x a n:Option D):∀(j:Nat)(p z:List Nat)(f:Nat),s=p++(List.replicate j 32++z) ->
  bh Kr (bx ψ) (f+j) [some (.p (.str (O s))),o,some (.p (.int (p.length:Int))),x,a,n] S=bh Kr (bx ψ) f [some (.p (.str (O s))),o,some (.p (.int ((p.length+j:Nat):Int))),x,a,n] S
 |0,p,z,f,_=>rfl
 |j+1,p,z,f,c=>by
  have e:=oQ ψ h S o x a n j (p++[32]) z f (by rw[c,b4];simp);have k:p.length < s.length:=by rw[c];simp;lia
  have l:(p.length:Int) < (s.length:Int):=by lia
  have d:=bN h (show L2.atI s (p.length:Int)=some 32 by rw[c];exact cL p 32 _);rw[show(⟨#[32]⟩:Str)=" " from rfl]at d;rw[show f+(j+1)=f+j+1 by lia];rw[bY (h:=S) (L2:=[some (.p (.str (O s))),o,some (.p (.int ((p++[32]).length:Int))),x,a,n]) (x:=S) (by simp[b8,cE,h,k,l]) (by simp[bx,d])];rw[e];simp only[aL,ak,a'];rw[show p.length+(0+1)+j=p.length+(j+1) by lia]
theorem zj{n:Nat}(h:s.length≤1000000){kd:Str}{v:P}{e:Nat}{c:Nat}{r:List Nat}(p:List Nat)(q:s=p++(c::r))(k:c≠32)(u:pureOf (Ph n "piece_at") [.str (O s),.int (p.length:Int)]=some (pc kd v (e:Int)))
  (a:List P) (z:a.length≤10000) (i j y:Option D) (f:Nat):∃o m t,
  bh Kr (bx (Ph n)) (f+1) [some (.p (.str (O s))),some (.ref 0),some (.p (.int (p.length:Int))),i,j,y] [.lst (a.map .p)] =
   bh Kr (bx (Ph n)) f [some (.p (.str (O s))),some (.ref 0),some (.p (.int (e:Int))),o,m,t] [.lst ((a++[pc kd v (p.length:Int)]).map .p)]:=by
 refine⟨some (.p (.str kd)),some (.p v),some (.p (.int (e:Int))),?_⟩;have g:p.length < s.length:=by rw[q];simp
 have b:(p.length:Int) < (s.length:Int):=by lia
 have w:=bN h (show L2.atI s (p.length:Int)=some c by rw[q];exact cL p c _);have d:¬(⟨#[c]⟩:Str)=" ":=λe=>k (by have:=cc (λx:Str=>x.cps.toList) e;rw[show((" ":Str)).cps.toList=[32] by decide +kernel]at this;simpa using this)
 have l:a.length≤1000000:=by lia
 rw[bY (h:=[.lst (a.map .p)]) (L2:=[some (.p (.str (O s))),some (.ref 0),some (.p (.int (e:Int))),some (.p (.str kd)),some (.p v),some (.p (.int (e:Int)))]) (x:=[.lst ((a++[pc kd v (p.length:Int)]).map .p)]) (by simp[b8,cE,h,g,b]) (by simp[bx,w,d,u,pc,fk,l])]
variable{s:List Nat}
theorem Tk.le{k:Tk}(h:k.ok):k.tx.length≤10:=by
 cases k with
 |w c=>exact h.le
 |n a c=>have:=Num.le h;show c.length≤10;lia
 |s m=>cases m<;>decide
theorem Tk.nb{k:Tk}(h:k.ok):k.tx.count 32=0:=List.count_eq_zero.mpr λz=>((Tk.ch h).1 32 z).2 rfl
theorem Sp.le{ts:List Tk}{x:List Nat}(h:Sp ts x):x.length≤10 * ts.length+x.count 32:=by
 induction h with
 |nil=>simp
 |bl _ i=>simp only[ak,eD];lia
 |tk hk _ _ i=>simp only[aL,bE,ak];have:=Tk.le hk;lia
theorem Lf.nbr(a:Lf):a.tk≠.s .lb/\a.tk≠.s .rb:=by cases a<;>exact⟨λz=>(nomatch z),λz=>(nomatch z)⟩
theorem Cy(h:4≤m.lw):Tk.s m≠.s .lb/\Tk.s m≠.s .rb:=by constructor<;>(intro e;cases e;exact absurd h (by decide))
theorem Sm.nbr(h:a.ok):∀k ∈ a.tk,k≠.s .lb/\k≠.s .rb:=by
 cases a with
 |lf a=>intro k hk;rw[ov.mp hk];exact a.nbr
 |bin m a b=>
  intro k hk;have x:=h.1;simp only[Sm.tk,aU,ci,ce]at hk;rcases hk with rfl|rfl|rfl
  .exact a.nbr
  .exact Cy (by lia)
  .exact b.nbr
theorem oK(h:m.lw=4)(x:a.ok)(e:b.ok):∀k ∈ AR m a b,k≠.s .lb/\k≠.s .rb:=by
 intro k hk;rcases dD.mp hk with hk|hk
 .exact a.nbr x k hk
 .rcases aU.mp hk with rfl|hk
  .exact Cy (by lia)
  .exact b.nbr e k hk
theorem C.nbr{c:C}(h:c.ok):∀k ∈ c.tk,k≠.s .lb/\k≠.s .rb:=by
 have w:∀c,Tk.w c≠.s .lb/\Tk.w c≠.s .rb:=λc=>⟨λz=>(nomatch z),λz=>(nomatch z)⟩;cases c with
 |is m a b=>exact oK h.1 h.2.1 h.2.2
 |no m a b=>
  intro k hk;rcases aU.mp hk with rfl|hk
  .exact w _
  .exact oK h.1 h.2.1 h.2.2 k hk
 |or m a b c=>
  intro k hk;rcases dD.mp hk with hk|hk
  .exact oK h.1 h.2.1 h.2.2.1 k hk
  .rcases aU.mp hk with rfl|hk
   .exact w _
   .exact oK rfl h.2.2.2 jJ k hk
theorem Hh(p:List Nat){j:Nat}{z:List Nat}(h:Jn (p++(List.replicate j 32++z)) p.length (List.replicate j 32++z)):Jn (p++(List.replicate j 32++z)) (p.length+j) z:=by
 cases j with
 |zero=>exact h
 |succ j=>
  refine .inl ?_;have:=pz (p++List.replicate j 32) z (c:=32) (by decide +kernel)
  rw[sD];simpa[iN] using this
theorem GA{k:Tk}(hk:k.ok)(x:k.an=true){z:List Nat}{P:Prop}(h:∀c r,k.tx++z=c::r->An c->P):P:=by
 cases e:k.tx with
 |nil=>exact absurd e (Tk.ne hk)
 |cons a b=>exact h a (b++z) (by rw[e];rfl) ((Tk.ch hk).2.1 x a (by rw[e];exact aM))
theorem IJ{n:Nat}(hn:14≤n)(hcap:s.length < 100000){ts:List Tk}{Z:List (Str×P)}(h:Pc ts Z):∀(t x:List Nat)(d:List P)(E G I:Option D)(f:Nat),s=t++x->Sp ts x->Jn s t.length x->ts.length+x.count 32 < f->ts.length+x.count 32 < 800->d.length+ts.length≤9000 ->
  ∃o3' o4' o5' p,bh Kr (bx (Ph n)) f [some (.p (.str (O s))),some (.ref 0),some (.p (.int (t.length:Int))),E,G,I] [.lst (d.map .p)]=some (.nx,[some (.p (.str (O s))),some (.ref 0),some (.p (.int (s.length:Int))),o3',o4',o5'],[.lst ((d++p).map .p)])/\Mt Z p/\p.length≤ts.length:=by
 have q:s.length≤1000000:=by lia
 induction h with
 |nil=>
  intro t x d E G I f w R _ S _ _;have T:=R.end';rw[T]at S w;rw[ox]at S;obtain⟨g,rfl⟩:∃g,f=g+1+x.length:=⟨f-1-x.length,by simp at S;lia⟩;have hl:t.length+x.length=s.length:=by rw[w];simp
  refine⟨E,G,I,[],?_,.nil,aq _⟩;rw[oQ (Ph n) q _ _ _ _ _ x.length t [] (g+1) (by rw[w];simp),hl,df (h:=[.lst (d.map .p)]) (by simp[b8,cE,q])];simp
 | @one k kd v ts Z hi hcm _ ih=>
  intro t x d E G I f w R L S l ha;obtain⟨j,y,rfl,hk,hy,B⟩:=R.view;rw[bE,bE,ox,Tk.nb hk]at S l;simp only[ak]at S l ha;obtain⟨g,rfl⟩:∃g,f=g+1+j:=⟨f-1-j,by lia⟩;rw[w]at L;have A:=Hh t L;have i:s=(t++List.replicate j 32)++(k.tx++y):=by rw[w];simp
  have F:(t++List.replicate j 32).length=t.length+j:=by simp
  have Q:=B7 (n:=n) (by lia) (t++List.replicate j 32) y hi (by rw [<- i];exact q) B hy.ch (by rw [<- i,w,F];exact A) (fun m e h4=>by
   obtain⟨a,r,rfl,haa⟩:=hcm m e h4;obtain⟨H,z,rfl,hka,_,_⟩:=hy.view;cases H with
   |succ H=>exact⟨32,_,rfl,by decide,by decide⟩
   |zero=>exact GA hka haa (z:=z) λc r e h=>⟨c,r,e,by unfold An m_ vQ at h;lia,by unfold An m_ vQ at h;lia⟩)
  rw[<- i,F]at Q;obtain⟨c0,r0,e0⟩:∃a b,k.tx=a::b:=by
   cases e:k.tx with
   |nil=>exact absurd e (Tk.ne hk)
   |cons a b=>exact⟨a,b,rfl⟩
  have h32:=((Tk.ch hk).1 c0 (by rw[e0];exact aM)).2;obtain⟨p3,p4,p5,M⟩:=zj (n:=n) q (r:=r0++y) (t++List.replicate j 32) (by rw[i,e0];rfl) h32 (by rw[F];exact Q) d (by lia) E G I g;have K:=zz (t++List.replicate j 32) hk (j:=0) (z:=y) B;rw[sC,cI,<- i,F,Nat.add_zero]at K;have W:(t++List.replicate j 32++k.tx).length=t.length+j+k.tx.length:=by simp[iN]
  obtain⟨q3,q4,q5,p,e,m,lp⟩:=ih (t++List.replicate j 32++k.tx) y (d++[pc kd v ((t.length+j:Nat):Int)]) p3 p4 p5 g (by rw[i];simp) hy (by rw[W];exact K) (by lia) (by lia) (by simp;lia);rw[W]at e;rw[F]at M;refine⟨q3,q4,q5,pc kd v ((t.length+j:Nat):Int)::p,?_,.cons _ m,by simp;lia⟩;rw[oQ (Ph n) q _ _ _ _ _ j t (k.tx++y) (g+1) (by rw[w]),M,e];simp
 | @wh c ts Z N _ ih=>
  intro t x d E G I f w R L S l ha;obtain⟨j,y1,rfl,hk,hy1,B⟩:=R.view;obtain⟨H,y2,rfl,_,hy2,_⟩:=hy1.view;obtain⟨u,v,rfl,hu,hv⟩:=hy2.split;obtain⟨o,X,rfl,_,V,_⟩:=hv.view;have T:Sp c.tk (u++List.replicate o 32):=by have:=Sp.app (y:=List.replicate o 32) (λa r e=>by cases o<;>cases e;decide) hu (by simpa using Sp.nil.bls o);rwa [cg]at this
  simp only[Tk.tx,Mk.tx]at w L S l;have cw:bW.count 32=0:=by decide
  simp only[bE,ox,cw,ak,aL]at S l ha;rw[show List.count 32 [91]=0 by decide,show List.count 32 [93]=0 by decide]at S l;obtain⟨g,rfl⟩:∃g,f=g+1+j:=⟨f-1-j,by lia⟩;rw[w]at L;have A:=Hh t L;have i:s=(t++List.replicate j 32)++(bW++(List.replicate H 32++(91::((u++List.replicate o 32)++93::X)))):=by rw[w];simp
  have F:(t++List.replicate j 32).length=t.length+j:=by simp
  have hxl:=T.le;have hctl:=c.tl;rw[bE,ox]at hxl;have Q:=EF (n:=n) hn (t++List.replicate j 32) (u++List.replicate o 32) X H N T (by lia) (LH T (C.nbr N)) (by lia) V.ch (by rw[<- i];lia) (by rw[<- i,F,w];exact tR A rfl (by decide));rw[<- i,F]at Q;obtain⟨p3,p4,p5,M⟩:=zj (n:=n) q (c:=119) (t++List.replicate j 32) (by rw[i];rfl) (by decide) (by rw[F];exact Q) d (by lia) E G I g;have W:(t++(List.replicate j 32++(bW++(List.replicate H 32++([91]++(u++(List.replicate o 32++[93]))))))).length=t.length+j+4+H+(u++List.replicate o 32).length+2:=by simp only[aL,iR,ak,a',show bW.length=4 from rfl];lia
  have K:Jn s (t.length+j+4+H+(u++List.replicate o 32).length+2) X:=by have:=pz (t++(List.replicate j 32++(bW++(List.replicate H 32++([91]++(u++List.replicate o 32)))))) X (c:=93) (by decide +kernel);refine .inl ?_;rw[i];simp only[aL,iR,ak,a',show bW.length=4 from rfl,eZ,iP,cI]at this ⊢;rwa [show t.length+j+4+H+(u.length+o)+2=t.length+(j+(4+(H+(u.length+o+1))))+1 by lia]
  obtain⟨q3,q4,q5,p,e,m,lp⟩:=ih (t++(List.replicate j 32++(bW++(List.replicate H 32++([91]++(u++(List.replicate o 32++[93]))))))) X (d++[pc "when" c.pp ((t.length+j:Nat):Int)]) p3 p4 p5 g (by rw[i];simp) V (by rw[W];exact K) (by lia) (by lia) (by simp;lia);rw[W]at e;rw[F]at M;refine⟨q3,q4,q5,pc "when" c.pp ((t.length+j:Nat):Int)::p,?_,.cons _ m,by simp;lia⟩;rw[oQ (Ph n) q _ _ _ _ _ j t _ (g+1) (by rw[w]),M,e];simp
theorem BE(v:List P):y4 9 (.ref 0) [.lst (v.map .p)]=some (.lst v,[.fz (.lst v)]):=by show bA (w5 (y4 8) (v.map .p) [.lst (v.map .p)]) _=_;rw[zr];rfl
theorem Ag{n:Nat}(r:16≤n){ts:List Tk}{q:List (Str×P)}(h:Pc ts q){x:List Nat}(b:Sp ts x)(k:ts.length+x.count 32 < 800)(l:x.length < 100000):∃p,pureOf (Ph n "pieces_of") [.str (O x)]=some (.lst p)/\Mt (q++[(("end":Str),P.str "")]) p/\p.length < 900:=by
 obtain⟨n,rfl⟩:=eK (n:=n) (by first|assumption|lia);obtain⟨o,v,d,p,e,m,c⟩:=IJ (n:=n+1) (by lia) l h [] x [] none none none 1000 rfl b (.inl (.inl rfl)) (by lia) k (by simp;lia);refine⟨p++[pc "end" (.str "") (x.length:Int)],?_,?_,by simp;lia⟩
 .have f:p.length≤1000000:=by lia
  have a:x.length≤1000000:=by lia
  have t:=BE (p++[pc "end" (.str "") (x.length:Int)]);rw[qr,ao];simp only[a',gZ,cI]at e;simp at t;simp[kY,dP,few];rw[show((0:Nat):Int)=0 from rfl]at e;simp[Kr]at e;simp[e,fk,f,b8,cE,a,pc];simp[pc]at t;rw[t];exact⟨_,rfl⟩
 .clear e c h;induction m with
  |nil=>exact .cons _ .nil
  |cons s m i=>exact .cons s i
noncomputable def FK:LS:=["pieces","spot","trees","marks","wanted"]
inductive Fm where
 |bn (o:Bool)|no|br|kn (e:Bool) (c:List Nat)
noncomputable def lB(o:Bool):Str:=if o=true then "or" else "and"
noncomputable def qd(e:Bool):Str:=if e=true then "each knows" else "some knows"
def Fm.kd:Fm->Str
 | .bn o=>lB o
 | .no=>"not"
 | .br=>"["
 | .kn e _=>qd e
noncomputable def Fm.lw:Fm->Nat
 | .bn o=>if o=true then 1 else 2
 | .no=>3
 |_=>0
def Fm.pp:Fm->P
 | .kn e c=>.tup [.str (qd e),.str (O c)]
 |m=>.tup [.str m.kd,.str ""]
def Fs(p:List P)(i:Nat)(w:Bool)(ts:List P)(ms:List Fm):aP:=
 [.ins "FactReader" FK [.p (.lst p),.p (.int (i:Int)),.ref 1,.ref 2,.p (.bl w)],.lst (ts.reverse.map .p),.lst (ms.reverse.map λm=>.p m.pp)]
theorem ky(p:List P)(i:Nat)(w:Bool)(ts:List P)(ms:List Fm):(Fs p i w ts ms)[0]? = some (.ins "FactReader" FK [.p (.lst p),.p (.int (i:Int)),.ref 1,.ref 2,.p (.bl w)]):=rfl
section
variable(a b c d e:D)(y:D)(ψ:Str->GF)
@[simp] theorem Sf:eQ "pieces" FK [a,b,c,d,e]=some a/\eQ "spot" FK [a,b,c,d,e]=some b/\eQ "trees" FK [a,b,c,d,e]=some c/\eQ "marks" FK [a,b,c,d,e]=some d/\eQ "wanted" FK [a,b,c,d,e]=some e:=by
 (repeat' apply And.intro)<;>kernel_rfl
@[simp] theorem Sc:Ev.putK "spot" FK=FK/\Ev.putK "wanted" FK=FK:=by constructor<;>kernel_rfl
@[simp] theorem Sd:gM "spot" y FK [a,b,c,d,e]=[a,y,c,d,e]/\gM "wanted" y FK [a,b,c,d,e]=[a,b,c,d,y]:=by constructor<;>kernel_rfl
@[simp] theorem Sh:FK.length=5:=rfl
@[simp] theorem Si:aT Att "FactReader" "pieces"=true/\aT Att "FactReader" "spot"=true/\aT Att "FactReader" "trees"=true/\aT Att "FactReader" "marks"=true/\aT Att "FactReader" "wanted"=true:=by
 (repeat' apply And.intro)<;>kernel_rfl
@[simp] theorem Se:mT Tb ψ "FactReader" "take"=some (ψ "FactReader.take")/\mT Tb ψ "FactReader" "fold"=some (ψ "FactReader.fold")/\mT Tb ψ "FactReader" "next_kind"=some (ψ "FactReader.next_kind")/\mT Tb ψ "FactReader" "goes_on"=some (ψ "FactReader.goes_on")/\mT Tb ψ "FactReader" "taken"=some (ψ "FactReader.taken")
  /\ mT Tb ψ "FactReader" "keep_part"=some (ψ "FactReader.keep_part")/\mT Tb ψ "FactReader" "read_amount"=some (ψ "FactReader.read_amount"):=by
 (repeat' apply And.intro)<;>kernel_rfl
@[simp] theorem RA:mT Tb ψ "FactReader" "read_letters"=some (ψ "FactReader.read_letters")/\mT Tb ψ "FactReader" "open_knowing"=some (ψ "FactReader.open_knowing")/\mT Tb ψ "FactReader" "read_hand_part"=some (ψ "FactReader.read_hand_part")/\mT Tb ψ "FactReader" "read_part"=some (ψ "FactReader.read_part")
  /\ mT Tb ψ "FactReader" "read_joint"=some (ψ "FactReader.read_joint")/\mT Tb ψ "FactReader" "close"=some (ψ "FactReader.close")/\mT Tb ψ "FactReader" "fact_up_to"=some (ψ "FactReader.fact_up_to"):=by
 (repeat' apply And.intro)<;>kernel_rfl
@[simp] theorem Sb:(("take":Str) ∈ FK↔False)/\(("fold":Str) ∈ FK↔False)/\(("next_kind":Str) ∈ FK↔False)/\(("goes_on":Str) ∈ FK↔False)/\(("taken":Str) ∈ FK↔False)/\(("keep_part":Str) ∈ FK↔False)/\(("read_amount":Str) ∈ FK↔False):=by simp only[oe];decide +kernel
@[simp] theorem Rz:(("read_letters":Str) ∈ FK↔False)/\(("open_knowing":Str) ∈ FK↔False)/\(("read_hand_part":Str) ∈ FK↔False)/\(("read_part":Str) ∈ FK↔False)/\(("read_joint":Str) ∈ FK↔False)/\(("close":Str) ∈ FK↔False)/\(("fact_up_to":Str) ∈ FK↔False):=by simp only[oe];decide +kernel
end
def At(p:List P):Nat->List (Str×P)->Prop
 |_,[]=>True
 |i,(k,v)::r=>(∃s,L2.atI p (i:Int)=some (pc k v s))/\At p (i+1) r
theorem At.app:∀{a b:List (Str×P)}{i:Nat},At p i (a++b)->At p i a/\At p (i+a.length) b
 | [],b,i,h=>⟨trivial,h⟩
 |(k,v)::a,b,i,h=>by
  obtain⟨x,e⟩:=h;have:=At.app e
  exact⟨⟨x,this.1⟩,by rw[show i+((k,v)::a).length=i+1+a.length by simp;lia];exact this.2⟩
theorem Mt.at{q:List (Str×P)}{p:List P}(h:Mt q p):∀r:List P,At (r++p) r.length q:=by
 induction h with
 |nil=>exact λ_=>trivial
 | @cons k v q p s _ i=>
  intro r;refine⟨⟨s,cL r _ _⟩,?_⟩;have:=i (r++[pc k v s])
  simpa using this
variable{p:List P}{i:Nat}{w:Bool}{ts:List P}{ms:List Fm}{k:Str}{v:P}{n:Nat}
def Nx(p:List P)(i:Nat)(k:Str)(v:P):Prop:=∃s,L2.atI p (i:Int)=some (pc k v s)
theorem b7(x:2≤n)(h:Nx p i k v):Ph n "FactReader.next_kind" [.ref 0] (Fs p i w ts ms)=some (.p (.str k),Fs p i w ts ms):=by obtain⟨n,rfl⟩:=eK (n:=n) (by first|assumption|lia);obtain⟨s,h⟩:=h;rw[ik];simp[bp,dX,ky,h,pc]
theorem b6(x:2≤n)(h:Nx p i k v):Ph n "FactReader.take" [.ref 0,.p (.str k)] (Fs p i w ts ms)=some (.p v,Fs p (i+1) w ts ms):=by obtain⟨n,rfl⟩:=eK (n:=n) (by first|assumption|lia);obtain⟨s,h⟩:=h;rw[kF];simp[bp,fG,Fs,h,pc]
theorem lX(x:3≤n)(h:Nx p i k v):Ph n "FactReader.taken" [.ref 0,.p (.str k)] (Fs p i w ts ms)=some (.p (.bl true),Fs p (i+1) w ts ms):=by
 obtain⟨n,rfl⟩:=eK (n:=n) (by first|assumption|lia);have e:=b7 (n:=n+1) (w:=w) (ts:=ts) (ms:=ms) (by lia) h;rw[fq];simp only[Fs]at e ⊢;generalize ts.reverse.map D.p=t at *
 generalize ms.reverse.map (λm=>D.p m.pp)=r at *
 simp[bp,dw,e]
theorem dW(a:3≤n)(h:Nx p i k v)(hk:¬k=x):Ph n "FactReader.taken" [.ref 0,.p (.str x)] (Fs p i w ts ms)=some (.p (.bl false),Fs p i w ts ms):=by obtain⟨n,rfl⟩:=eK (n:=n) (by first|assumption|lia);have e:=b7 (n:=n+1) (w:=w) (ts:=ts) (ms:=ms) (by lia) h;rw[fq];simp[bp,dw,ky,e,hk]
theorem oE(x:2≤n)(t:P)(a:ts.length < 1000):Ph n "FactReader.keep_part" [.ref 0,.p t] (Fs p i w ts ms)=some (.p .non,Fs p i false (t::ts) ms):=by
 obtain⟨n,rfl⟩:=eK (n:=n) (by first|assumption|lia);have h:ts.length≤1000000:=by lia
 rw[il];simp[bp,dY,Fs,fk,h]
theorem rq(k:3≤n){a b:P}(h:Nx p i "compared" a)(s:Nx p (i+1) "number" b):Ph n "FactReader.read_amount" [.ref 0] (Fs p i w ts ms)=some (.p (.tup [a,b]),Fs p (i+2) w ts ms):=by obtain⟨n,rfl⟩:=eK (n:=n) (by first|assumption|lia);have e:=b6 (n:=n+1) (w:=w) (ts:=ts) (ms:=ms) (by lia) h;have x:=b6 (n:=n+1) (w:=w) (ts:=ts) (ms:=ms) (by lia) s;rw[gm];simp[bp,dz,ky,e,x]
theorem zk(t:3≤n)(e:Bool)(c:List Nat)(r:ms.length < 1000){a b:P}(h:Nx p i "knows" a)(m:Nx p (i+1) "[" b):Ph n "FactReader.open_knowing" [.ref 0,.p (.str (qd e)),.p (.str (O c))] (Fs p i w ts ms)=some (.p .non,Fs p (i+2) w ts (.kn e c::ms)):=by
 obtain⟨n,rfl⟩:=eK (n:=n) (by first|assumption|lia);have s:=b6 (n:=n+1) (w:=w) (ts:=ts) (ms:=ms) (by lia) h;have x:=b6 (n:=n+1) (w:=w) (ts:=ts) (ms:=ms) (by lia) m;have f:ms.length≤1000000:=by lia
 rw[fX];rw[show i+1+1=i+2 from rfl]at x;have k:(Fm.kn e c).pp=.tup [.str (qd e),.str (O c)]:=rfl;simp[Fs]at s x ⊢;simp[bp,db,s,x,fk,f,k]
inductive Ff(l:Nat):List Fm->List P->List Fm->List P->Prop
 |st {ms:List Fm}{ts:List P}:(∀m r,ms=m::r->m.lw < l)->Ff l ms ts ms ts
 |no {ms ms':List Fm}{o:P}{ts ts':List P}:l≤3->Ff l ms (.tup [.str "not",o]::ts) ms' ts'->Ff l (.no::ms) (o::ts) ms' ts'
 |tw {b:Bool}{ms ms':List Fm}{o e:P}{ts ts':List P}:l≤(Fm.bn b).lw->Ff l ms (.tup [.str (lB b),e,o]::ts) ms' ts'->Ff l (.bn b::ms) (o::e::ts) ms' ts'
variable{g:List Fm}
theorem Ff.len(h:Ff l ms ts g u):g.length≤ms.length/\u.length≤ts.length:=by
 induction h with
 |st=>exact⟨aq _,aq _⟩
 |no _ _ i=>simp only[ak]at i ⊢;lia
 |tw _ _ i=>simp only[ak]at i ⊢;lia
theorem JF(m:Fm):(bz m.kd [(("or":Str),P.int 1),("and",.int 2),("not",.int 3)]).getD (.int 0)=.int (m.lw:Int):=by
 cases m with
 |bn o=>cases o<;>kernel_rfl
 |kn e c=>cases e<;>kernel_rfl
 |_=>kernel_rfl
theorem Qf(m:Fm):∃f,m.pp=.tup [.str m.kd,f]:=by cases m<;>exact⟨_,rfl⟩
theorem Dj(ψ:Str->GF)(h:Ff l ms ts g u):∀(f:Nat)(d j:Option D),ms.length < f->ts.length≤1000 ->
  ∃q n,bh (f6 (bT (bc (aT Att) (U 0) "marks")) (bV (aH Hq (qz [("or",.int 1),("and",.int 2),("not",.int 3)] (vE (qX (qX (bc (aT Att) (U 0) "marks") (GO uh (vC (.int 1)))) (vC (.int 0)))) (vC (.int 0))) (vE (U 1))))) (bU ψ) f
   [some (.ref 0),some (.p (.int (l:Int))),d,j] (Fs p i w ts ms)=some (.nx,[some (.ref 0),some (.p (.int (l:Int))),q,n],Fs p i w u g):=by
 induction h with
 | @st ms ts P=>
  intro f d j y _;obtain⟨f,rfl⟩:∃k,f=k+1:=⟨f-1,by lia⟩;refine⟨d,j,df ?_⟩;cases ms with
  |nil=>simp[Fs,lW]
  |cons m r=>
   have c:=JF m;obtain⟨x,v⟩:=Qf m;have a:¬(l:Int)≤(m.lw:Int):=by have:=P m r rfl;lia
   have s:¬l≤m.lw:=by lia
   simp[Fs,lW,v,c,a,s]
 | @no ms g o ts u S _ K=>
  intro f d j y z;obtain⟨f,rfl⟩:∃k,f=k+1:=⟨f-1,by lia⟩;simp only[ak]at y z;obtain⟨q,n,H⟩:=K f (some (.p (.str "not"))) (some (.p o)) (by lia) (by simpa using z);refine⟨q,n,?_⟩;rw[<- H];have t:ts.length≤1000000:=by lia
  have c:=JF .no;have a:(l:Int)≤(Fm.no.lw:Int):=by show(l:Int)≤3;lia
  have s:l≤Fm.no.lw:=S;have v:Fm.no.pp=.tup [.str "not",.str ""]:=rfl;rw[show Fm.no.kd=("not":Str) from rfl]at c;refine bY (h:=Fs p i w (o::ts) (.no::ms)) ?_ ?_
  .simp [Fs,lW,v,c,a,s]
  .simp [bU,Fs,fk,v,t]
 | @tw b ms g o e ts u S _ K=>
  intro f d j y z;obtain⟨f,rfl⟩:∃k,f=k+1:=⟨f-1,by lia⟩;simp only[ak]at y z;obtain⟨q,n,H⟩:=K f (some (.p (.str (lB b)))) (some (.p o)) (by lia) (by simp;lia);refine⟨q,n,?_⟩;rw[<- H];have t:ts.length≤1000000:=by lia
  have c:=JF (.bn b);have a:(l:Int)≤((Fm.bn b).lw:Int):=by lia
  have F:¬lB b=("not":Str):=by cases b<;>decide +kernel
  rw[show(Fm.bn b).kd=lB b from rfl]at c;have v:(Fm.bn b).pp=.tup [.str (lB b),.str ""]:=rfl;refine bY (h:=Fs p i w (o::e::ts) (.bn b::ms)) ?_ ?_
  .simp [Fs,lW,v,c,a,S]
  .simp [bU,Fs,fk,v,F,t]
theorem pP(x:2≤n)(h:Ff l ms ts g u)(m:ms.length < 1000)(t:ts.length≤1000):Ph n "FactReader.fold" [.ref 0,.p (.int (l:Int))] (Fs p i w ts ms)=some (.p .non,Fs p i w u g):=by obtain⟨n,rfl⟩:=eK (n:=n) (by first|assumption|lia);obtain⟨q,a,e⟩:=Dj (p:=p) (i:=i) (w:=w) (Ph (n+1)) h 1000 none none m t;rw[kH];unfold bp fI dP;simp only[ak,a',a6,gZ,iP,cI,yc,List.replicate,yb,fM];rw[e];rfl
end My
namespace My
open PySem L2 Ev
variable{A:List P}{i:Nat}{H:List P}{s:List Fm}{k:Str}{v:P}{n:Nat}
def NB(k:Str)(b:Bool):Prop:=∀S,bb (.p (.str k)) (.p (.tup [.str "not",.str "["])) S=some (.bl b)
def AO(k:Str)(b:Bool):Prop:=∀S,bb (.p (.str k)) (.p (.tup [.str "and",.str "or"])) S=some (.bl b)
@[simp] theorem Kz(a:P)(x y:List P):aD (.tup (a::x)) (.tup y)=mo (.tup (a::x)) (.tup y):=rfl
theorem zb(f:3≤n){m:Fm}(x:m=.no\/m=.br)(h:Nx A i m.kd v)(l:s.length < 1000):Ph n "FactReader.read_part" [.ref 0] (Fs A i true H s)=some (.p .non,Fs A (i+1) true H (m::s)):=by
 obtain⟨n,rfl⟩:=eK (n:=n) (by first|assumption|lia);have e:=b7 (n:=n+1) (w:=true) (ts:=H) (ms:=s) (by lia) h;have b:NB m.kd true:=by rcases x with rfl|rfl<;>exact λS=>by kernel_rfl
 have k:m.pp=.tup [.str m.kd,.str ""]:=by rcases x with rfl|rfl<;>rfl
 have a:s.length≤1000000:=by lia
 unfold NB at b;rw[bq];generalize m.kd=mk at *
 simp[Fs]at e ⊢;simp[bp,aZ,e,b,fk,a,k]
theorem Ij(t:4≤n){b:Bool}(h:Nx A i (if b=true then "dry" else "true") v)(l:H.length < 1000):Ph n "FactReader.read_part" [.ref 0] (Fs A i true H s)=some (.p .non,Fs A (i+1) false (.tup [.str (if b=true then "dry" else "true")]::H) s):=by
 obtain⟨n,rfl⟩:=eK (n:=n) (by first|assumption|lia);have e:=b7 (n:=n+1) (w:=true) (ts:=H) (ms:=s) (by lia) h;rw[bq];cases b with
 |true=>
  rw[ac rfl]at h e ⊢;have x:NB "dry" false:=λS=>by kernel_rfl
  unfold NB at x;have a:=lX (n:=n+1) (w:=true) (ts:=H) (ms:=s) (by lia) h;have k:=oE (p:=A) (i:=i+1) (n:=n+1) (w:=true) (ms:=s) (by lia) (.tup [.str "dry"]) l;simp[bp,aZ,ky,e,x,a,k]
 |false=>
  rw[ae aX]at h e ⊢;have x:NB "true" false:=λS=>by kernel_rfl
  unfold NB at x;have r:∀S,bb (.p (.str "true")) (.p (.tup [.str "some",.str "all",.str "many"])) S=some (.bl false):=λS=>by kernel_rfl
  have a:=dW (n:=n+1) (w:=true) (ts:=H) (ms:=s) (by lia) h (x:="dry") (by decide +kernel);have f:=dW (n:=n+1) (w:=true) (ts:=H) (ms:=s) (by lia) h (x:="letters") (by decide +kernel);have c:=dW (n:=n+1) (w:=true) (ts:=H) (ms:=s) (by lia) h (x:="each") (by decide +kernel);have m:=b6 (n:=n+1) (w:=true) (ts:=H) (ms:=s) (by lia) h;have k:=oE (p:=A) (i:=i+1) (n:=n+1) (w:=true) (ms:=s) (by lia) (.tup [.str "true"]) l;simp[bp,aZ,ky,e,x,r,a,k,f,c,m]
theorem BU(E:6≤n){a b m g u:P}{o:Bool}(k:Nx A i "letters" v)(F:Nx A (i+1) "name" a){w:P}(K:Nx A (i+2) "to" w)(B:Nx A (i+3) "name" b)(p:o=true->Nx A (i+4) "name" m)(j:o=false->m=.str "")
  (q:Nx A (i+(if o=true then 5 else 4)) "compared" g) (C:Nx A (i+(if o=true then 5 else 4)+1) "number" u) (D:H.length < 1000) :
  Ph n "FactReader.read_part" [.ref 0] (Fs A i true H s)=some (.p .non,Fs A (i+(if o=true then 5 else 4)+2) false (.tup [.str "letters",a,b,m,g,u]::H) s):=by
 obtain⟨n,rfl⟩:=AS (n:=n) (by first|assumption|lia);have e:=b7 (n:=n+2) (w:=true) (ts:=H) (ms:=s) (by lia) k;have d:NB "letters" false:=λS=>by kernel_rfl
 unfold NB at d;have l:=dW (n:=n+2) (w:=true) (ts:=H) (ms:=s) (by lia) k (x:="dry") (by decide +kernel);have y:=lX (n:=n+2) (w:=true) (ts:=H) (ms:=s) (by lia) k;have c:=b6 (n:=n+1) (w:=true) (ts:=H) (ms:=s) (by lia) F;have r:=b6 (n:=n+1) (w:=true) (ts:=H) (ms:=s) (by lia) K;have t:=b6 (n:=n+1) (w:=true) (ts:=H) (ms:=s) (by lia) B;have h:=rq (n:=n+1) (w:=true) (ts:=H) (ms:=s) (by lia) q C;have f:=oE (p:=A) (i:=i+(if o=true then 5 else 4)+2) (n:=n+1) (w:=true) (ms:=s) (by lia) (.tup [.str "letters",a,b,m,g,u]) D;rw[bq];simp[bp,aZ,ky,e,d,l,y];rw[fW];cases o with
 |true=>have x:=b7 (n:=n+1) (w:=true) (ts:=H) (ms:=s) (by lia) (p rfl);have z:=b6 (n:=n+1) (w:=true) (ts:=H) (ms:=s) (by lia) (p rfl);rw[ac rfl]at h f;simp[bp,bR,ky,c,r,t,x,z,h,f,mo]
 |false=>have x:=b7 (n:=n+1) (w:=true) (ts:=H) (ms:=s) (by lia) q;rw[ae aX]at h f x;rw[j rfl]at f;rw[j rfl];simp[bp,bR,ky,c,r,t,x,h,f,mo]
theorem M8{b:Bool}(h:b=true):∀k:Str,k="some"\/k="all"\/k="many"->NB k false/\¬k=("dry":Str)/\¬k=("letters":Str)/\¬k=("each":Str)/\∀S,bb (.p (.str k)) (.p (.tup [.str "some",.str "all",.str "many"])) S=some (.bl true):=by rintro k (rfl|rfl|rfl)<;>exact⟨λS=>by kernel_rfl,by decide +kernel,by decide +kernel,by decide +kernel,λS=>by kernel_rfl⟩
theorem zc(v:4≤n)(hk:k="some"\/k="all"\/k="many")(x:Nx A i k (.str k)){S:aP}(h:Ph (n-1) "FactReader.read_hand_part" [.ref 0,.p (.str k)] (Fs A (i+1) true H s)=some (.p .non,S)) :
  Ph n "FactReader.read_part" [.ref 0] (Fs A i true H s)=some (.p .non,S):=by
 obtain⟨n,rfl⟩:=eK (n:=n) (by first|assumption|lia);obtain⟨a,r,t,p,q⟩:=M8 rfl k hk;unfold NB at a;rw[show n+2-1=n+1 by lia]at h;have e:=b7 (n:=n+1) (w:=true) (ts:=H) (ms:=s) (by lia) x;have f:=dW (n:=n+1) (w:=true) (ts:=H) (ms:=s) (by lia) x r;have b:=dW (n:=n+1) (w:=true) (ts:=H) (ms:=s) (by lia) x t;have c:=dW (n:=n+1) (w:=true) (ts:=H) (ms:=s) (by lia) x p;have m:=b6 (n:=n+1) (w:=true) (ts:=H) (ms:=s) (by lia) x;rw[bq];simp[bp,aZ,ky,e,a,q,f,b,c,m,h]
theorem LX(u:7≤n){e:Bool}{c:List Nat}(h:Nx A i (if e=true then "each" else "some") (.str (if e=true then "each" else "some")))(m:Nx A (i+1) "name" (.str (O c))){a b:P}(f:Nx A (i+2) "knows" a)(r:Nx A (i+3) "[" b)(l:s.length < 1000) :
  Ph n "FactReader.read_part" [.ref 0] (Fs A i true H s)=some (.p .non,Fs A (i+4) true H (.kn e c::s)):=by
 obtain⟨n,rfl⟩:=AS (n:=n) (by first|assumption|lia);cases e with
 |true=>
  rw[ac rfl]at h;have t:NB "each" false:=λS=>by kernel_rfl
  unfold NB at t;have e:=b7 (n:=n+2) (w:=true) (ts:=H) (ms:=s) (by lia) h;have k:=dW (n:=n+2) (w:=true) (ts:=H) (ms:=s) (by lia) h (x:="dry") (by decide +kernel);have q:=dW (n:=n+2) (w:=true) (ts:=H) (ms:=s) (by lia) h (x:="letters") (by decide +kernel);have v:=lX (n:=n+2) (w:=true) (ts:=H) (ms:=s) (by lia) h;have d:=b6 (n:=n+2) (w:=true) (ts:=H) (ms:=s) (by lia) m;have x:=zk (n:=n+2) (w:=true) (ts:=H) (ms:=s) (by lia) true c l f r;rw[show qd true=("each knows":Str) from rfl]at x;rw[bq];simp[bp,aZ,ky,e,t,k,q,v,d,x]
 |false=>rw[ae aX]at h;refine zc (by lia) (.inl rfl) h ?_;rw[show n+3-1=n+2 by lia];have p:=b6 (n:=n+1) (w:=true) (ts:=H) (ms:=s) (by lia) m;have k:=b7 (n:=n+1) (w:=true) (ts:=H) (ms:=s) (by lia) f;have x:=zk (n:=n+1) (w:=true) (ts:=H) (ms:=s) (by lia) false c l f r;rw[show qd false=("some knows":Str) from rfl]at x;rw[cR];simp[bp,bo,ky,p,k,x]
section
variable{L:Lc}(t:L[0]? = some (some (.ref 0)))
include t
theorem NC(f:3≤n){o:Bool}{r x:P}{k:Str}(h:o=true->Nx A i "at" v/\Nx A (i+1) "name" r)(m:o=false->Nx A i k x/\¬k="at"/\r=.str "") :
  qA (bT (aB (mT Tb (Ph n)) (U 0) "taken" (aA (Y (vC (.str "at"))) ay))) (vE (aB (mT Tb (Ph n)) (U 0) "take" (aA (Y (vC (.str "name"))) ay))) (vC (.str "")) L (Fs A i true H s)=some (r,Fs A (i+(if o=true then 2 else 0)) true H s):=by
 cases o with
 |true=>have e:=lX (n:=n) (w:=true) (ts:=H) (ms:=s) f (h rfl).1;have c:=b6 (n:=n) (w:=true) (ts:=H) (ms:=s) (by lia) (h rfl).2;simp[t,ky,e,c]
 |false=>obtain⟨a,b,rfl⟩:=m rfl;have e:=dW (n:=n) (w:=true) (ts:=H) (ms:=s) f a b;simp[t,ky,e]
theorem ED(m:3≤n){o:Bool}{r x:P}{k:Str}(h:o=true->Nx A i "when" r)(c:o=false->Nx A i k x/\¬k="when"/\r=.tup [.str "true"]) :
  qA (bV (aI eB (aB (mT Tb (Ph n)) (U 0) "next_kind" ay) (Y (vC (.str "when"))))) (vE (aB (mT Tb (Ph n)) (U 0) "take" (aA (Y (vC (.str "when"))) ay))) (aY (ab (vC (.str "true")) af)) L (Fs A i true H s)=some (r,Fs A (i+(if o=true then 1 else 0)) true H s):=by
 cases o with
 |true=>have e:=b7 (n:=n) (w:=true) (ts:=H) (ms:=s) (by lia) (h rfl);have f:=b6 (n:=n) (w:=true) (ts:=H) (ms:=s) (by lia) (h rfl);simp[t,ky,e,f]
 |false=>obtain⟨a,b,rfl⟩:=c rfl;have e:=b7 (n:=n) (w:=true) (ts:=H) (ms:=s) (by lia) a;simp[t,ky,e,b]
end
theorem F0(V:6≤n)(hk:k="some"\/k="all"\/k="many"){f r c R T N:P}{z S:Str}{o p:Bool}(B:Nx A i "name" f)(x:∀{k v},Nx A (i+1) k v->¬k="knows"){I:Str}{Q:P}(l:Nx A (i+1) I Q)
  (C:o=true->Nx A (i+1) "at" N/\Nx A (i+1+1) "name" r) (a:o=false->Nx A (i+1) z R/\¬z="at"/\r=.str "")
  (G:p=true->Nx A (i+1+(if o=true then 2 else 0)) "when" c) (b:p=false->Nx A (i+1+(if o=true then 2 else 0)) S T/\¬S="when"/\c=.tup [.str "true"])
  {j:Nat} (D:j=i+1+(if o=true then 2 else 0)+(if p=true then 1 else 0)) {g u:P} (y:k="many"->Nx A j "compared" g/\Nx A (j+1) "number" u) (E:H.length < 1000) :
  Ph n "FactReader.read_hand_part" [.ref 0,.p (.str k)] (Fs A i true H s)=some (.p .non,Fs A (if k="many" then j+2 else j) false (.tup (if k="many" then [.str k,f,r,c,g,u] else [.str k,f,r,c])::H) s):=by
 obtain⟨n,rfl⟩:=eK (n:=n) (by first|assumption|lia);have q:=b6 (n:=n+1) (w:=true) (ts:=H) (ms:=s) (by lia) B;have F:=b7 (n:=n+1) (w:=true) (ts:=H) (ms:=s) (by lia) l;have M:=x l;have d:=λL t=>NC (n:=n+1) (H:=H) (s:=s) (L:=L) t (by lia) C a;have h:=λL t=>ED (n:=n+1) (H:=H) (s:=s) (L:=L) t (by lia) G b;rw[<- D]at h;generalize i+1+(if o=true then 2 else 0)=W at *
 have e:=oE (p:=A) (i:=if k="many" then j+2 else j) (n:=n+1) (w:=true) (ts:=H) (ms:=s) (by lia) (.tup (if k="many" then [.str k,f,r,c,g,u] else [.str k,f,r,c])) E;rw[cR];by_cases m:k=("many":Str)
 .have K:=rq (n:=n+1) (w:=true) (ts:=H) (ms:=s) (by lia) (y m).1 (y m).2;subst m;rw[ac rfl,ac rfl]at e ⊢;simp[bp,bo,ky,-qA,q,d,h];simp[ky,K,e,mo]
 .rw [ae m,ae m]at e ⊢;simp[bp,bo,ky,-qA,q,F,M,d,h];simp[ky,m,e,mo]
end My
set_option tactic.hygienic true
namespace My
open PySem L2 Ev
variable{A:List P}{i:Nat}{H B:List P}{s j:List Fm}{v:P}{n:Nat}
abbrev fC(n:Nat):EB:=rn (bT (bc (aT Att) (U 0) "wanted")) (bT (aB (mT Tb (Ph n)) (U 0) "goes_on" ay))
noncomputable def fL:Lc:=[some (.ref 0),some (.p (.str "end"))]
def Go(n t:Nat)(S h:aP):Prop:=∀f,bh (fC n) (aK (Ph n)) (f+t) fL S=bh (fC n) (aK (Ph n)) f fL h
theorem Go.tr{s t:Nat}{S x a:aP}(h:Go n s S x)(g:Go n t x a):Go n (s+t) S a:=λf=>by rw[show f+(s+t)=f+t+s by lia,h,g]
theorem oN{S:aP}(h:Ph n "FactReader.read_part" [.ref 0] (Fs A i true H s)=some (.p .non,S)):Go n 1 (Fs A i true H s) S:=λf=>
 bY (h:=Fs A i true H s) (by simp[fL,ky]) (by simp[fL,aK,ky,h])
theorem DG(o:Bool):AO (lB o) true:=by cases o<;>exact λS=>by kernel_rfl
theorem Hu(o:Bool):bz (lB o) [(("or":Str),P.int 1),("and",.int 2),("not",.int 3)]=some (.int ((Fm.bn o).lw:Int)):=by cases o<;>kernel_rfl
theorem C7(z:4≤n){o:Bool}(h:Nx A i (lB o) v)(x:Ff (Fm.bn o).lw s H j B)(d:s.length < 1000)(u:H.length≤1000):Go n 1 (Fs A i false H s) (Fs A (i+1) true B (.bn o::j)):=λf=>by
 obtain⟨n,rfl⟩:=eK (n:=n) (by first|assumption|lia);have a:=DG o;unfold AO at a;have e:=b7 (n:=n+1) (w:=false) (ts:=H) (ms:=s) (by lia) h;have c:=b7 (n:=n+2) (w:=false) (ts:=H) (ms:=s) (by lia) h;have k:=Hu o;have g:Ph (n+2) "FactReader.goes_on" [.ref 0] (Fs A i false H s)=some (.p (.bl true),Fs A i false H s):=by rw[cV];simp[bp,bS,ky,e,a]
 have q:=x.len;have m:=pP (p:=A) (i:=i) (w:=false) (n:=n+1) (by lia) x d u;have r:=b6 (n:=n+1) (w:=false) (ts:=B) (ms:=j) (by lia) h;have p:j.length≤1000000:=by lia
 have y:(Fm.bn o).pp=.tup [.str (lB o),.str ""]:=rfl;have t:Ph (n+2) "FactReader.read_joint" [.ref 0,.p (.str (lB o))] (Fs A i false H s)=some (.p .non,Fs A (i+1) true B (.bn o::j)):=by
  rw[gO];generalize lB o=b at *
  generalize (Fm.bn o).lw=l at *
  simp[bp,dJ,ky,k,m,r];simp[Fs,fk,p,y]
 exact bY (h:=Fs A i false H s) (by simp[fL,ky,g]) (by simp[fL,aK,ky,c,a,t])
theorem vg(E:4≤n){m:Fm}(h:Nx A i "]" v)(d:Ff 1 s H (m::j) B)(C:s.length < 1000)(D:H.length≤1000){x:List P}(hk:(m=.br/\x=B)\/∃e c t r,m=.kn e c/\B=t::r/\x=.tup [.str (qd e),.str (O c),t]::r):Go n 1 (Fs A i false H s) (Fs A (i+1) false x j):=λf=>by
 obtain⟨n,rfl⟩:=eK (n:=n) (by first|assumption|lia);have a:AO "]" false:=λS=>by kernel_rfl
 unfold AO at a;have l:=d.len;have u:=b7 (n:=n+1) (w:=false) (ts:=H) (ms:=s) (by lia) h;have g:=b7 (n:=n+2) (w:=false) (ts:=B) (ms:=m::j) (by lia) h;have b:=pP (p:=A) (i:=i) (w:=false) (n:=n+1) (by lia) d C D;have q:=b6 (n:=n+1) (w:=false) (ts:=B) (ms:=m::j) (by lia) h;simp only[ak]at l;have o:j.length+1≤1000000:=by lia
 have F:B.length≤1000000:=by lia
 have z:Ph (n+2) "FactReader.goes_on" [.ref 0] (Fs A i false H s)=some (.p (.bl true),Fs A i false B (m::j)):=by rw[cV];simp at b;simp[bp,bS,ky,u,a,b];simp[Fs,b8,o]
 have y:Ph (n+2) "FactReader.close" [.ref 0] (Fs A i false B (m::j))=some (.p .non,Fs A (i+1) false x j):=by
  rw[jZ];rcases hk with ⟨rfl,rfl⟩|⟨e,c,t,r,rfl,rfl,rfl⟩
  .have k:∀S,bb (.p (.str "[")) (.p (.tup [.str "some knows",.str "each knows"])) S=some (.bl false):=λS=>by kernel_rfl
   have p:Fm.br.pp=.tup [.str "[",.str ""]:=rfl;simp[bp,dA,ky,q];simp[Fs,fk,p,k]
  .have k:∀S,bb (.p (.str (qd e))) (.p (.tup [.str "some knows",.str "each knows"])) S=some (.bl true):=by cases e<;>exact λS=>by kernel_rfl
   have p:(Fm.kn e c).pp=.tup [.str (qd e),.str (O c)]:=rfl;have K:r.length≤1000000:=by simp only[ak]at F;lia
   simp[bp,dA,ky,q];simp[Fs,fk,p,k,K]
 exact bY (h:=Fs A i false B (m::j)) (by simp[fL,ky,z]) (by simp[fL,aK,ky,g,a,y])
theorem JB(c:4≤n){t:P}(h:Nx A i "end" v)(k:Ff 1 s H [] [t])(m:s.length < 1000)(b:H.length≤1000)(f:Nat):bh (fC n) (aK (Ph n)) (f+1) fL (Fs A i false H s)=some (.nx,fL,Fs A i false [t] []):=by
 obtain⟨n,rfl⟩:=eK (n:=n) (by first|assumption|lia);have a:AO "end" false:=λS=>by kernel_rfl
 unfold AO at a;have x:=b7 (n:=n+1) (w:=false) (ts:=H) (ms:=s) (by lia) h;have e:=pP (p:=A) (i:=i) (w:=false) (n:=n+1) (by lia) k m b;have g:Ph (n+2) "FactReader.goes_on" [.ref 0] (Fs A i false H s)=some (.p (.bl false),Fs A i false [t] []):=by rw[cV];simp at e;simp[bp,bS,ky,x,a,e];simp[Fs,b8]
 exact df (by simp[fL,ky,g])
inductive F where
 |on (d:Bool)|no (f:F)|bn (o:Bool) (a b:F)|kn (e:Bool) (c:List Nat) (f:F)
 |lt (a b m:List Nat) (g:Mk) (k:Nat)
 |hp (h:Bool) (f r:List Nat) (c:Option C)
 |mn (f r:List Nat) (c:Option C) (g:Mk) (k:Nat)
noncomputable def G_(d:Bool):Str:=if d=true then "dry" else "true"
noncomputable def xa(h:Bool):Str:=if h=true then "all" else "some"
noncomputable def DW(e:Bool):Str:=if e=true then "each" else "some"
def cP:Option C->P
 |none=>.tup [.str "true"]
 |some c=>c.pp
def F.pp:F->P
 | .on d=>.tup [.str (G_ d)]
 | .no f=>.tup [.str "not",f.pp]
 | .bn o a b=>.tup [.str (lB o),a.pp,b.pp]
 | .kn e c f=>.tup [.str (qd e),.str (O c),f.pp]
 | .lt a b m g k=>.tup [.str "letters",.str (O a),.str (O b),.str (O m),.str g.sg,.int (k:Int)]
 | .hp h f r c=>.tup [.str (xa h),.str (O f),.str (O r),cP c]
 | .mn f r c g k=>.tup [.str "many",.str (O f),.str (O r),cP c,.str g.sg,.int (k:Int)]
def F.lv:F->Nat
 | .bn o _ _=>(Fm.bn o).lw
 |_=>3
noncomputable def o6(s:Str):Str×P:=(s,.str s)
def AQ(c:List Nat):Str×P:=("name",.str (O c))
def Kb(g:Mk)(k:Nat):List (Str×P):=[("compared",.str g.sg),("number",.int (k:Int))]
def N3(m:List Nat):List (Str×P):=if m=[] then [] else [AQ m]
def nz(r:List Nat):List (Str×P):=if r=[] then [] else [o6 "at",AQ r]
def ur:Option C->List (Str×P)
 |none=>[]
 |some c=>[("when",c.pp)]
def qc(v l:Nat)(x:List (Str×P)):List (Str×P):=if v < l then o6 "["::(x++[o6 "]"]) else x
def F.it:F->List (Str×P)
 | .on d=>[o6 (G_ d)]
 | .no f=>o6 "not"::qc f.lv 3 f.it
 | .bn o a b=>qc a.lv (Fm.bn o).lw a.it++o6 (lB o)::qc b.lv ((Fm.bn o).lw+1) b.it
 | .kn e c f=>[o6 (DW e),AQ c,o6 "knows",o6 "["]++(f.it++[o6 "]"])
 | .lt a b m g k=>[o6 "letters",AQ a,o6 "to",AQ b]++(N3 m++Kb g k)
 | .hp h f r c=>[o6 (xa h),AQ f]++(nz r++ur c)
 | .mn f r c g k=>[o6 "many",AQ f]++(nz r++(ur c++Kb g k))
theorem F.lv1(f:F):1≤f.lv/\f.lv≤3:=by
 cases f with
 |bn o=>cases o<;>simp[F.lv,Fm.lw]
 |_=>simp[F.lv]
def NK(k:Str):Prop:=¬k="at"/\¬k="when"/\¬k="knows"
def Pf(x:Nat)(s:List Fm)(t:P)(H:List P)(m:List Fm)(h:List P):Prop:=∀l≤x,∀j B,Ff l s (t::H) j B->Ff l m h j B
def Rd(n:Nat)(A:List P)(i:Nat)(H:List P)(s:List Fm)(j l:Nat)(t:P):Prop:=
 ∃u h m,u≤j/\Go n u (Fs A i true H s) (Fs A (i+j) false h m)/\Pf l s t H m h/\m.length≤s.length+j/\h.length≤H.length+j
theorem oC{j:Nat}(x:1≤j){t:P}(h:Ph n "FactReader.read_part" [.ref 0] (Fs A i true H s)=some (.p .non,Fs A (i+j) false (t::H) s)):Rd n A i H s j 3 t:=
 ⟨1,t::H,s,x,oN h,λ_ _ _ _ z=>z,by lia,by simp;lia⟩
end My
set_option tactic.hygienic false
namespace My
open PySem L2 Ev
variable{A:List P}{i:Nat}{H B:List P}{s j:List Fm}{k:Str}{v:P}{n:Nat}
theorem a_{a:Str×P}{r:List (Str×P)}(h:At A i (a::r)):Nx A i a.1 a.2/\At A (i+1) r:=by obtain⟨k,v⟩:=a;exact h
theorem HP:P.str (O [])=.str "":=by rw[show O []=("":Str) by decide +kernel]
theorem MN(q:6≤n){a b m:List Nat}{g:Mk}{u:Nat}(h:At A i (F.lt a b m g u).it)(v:H.length < 1000):Rd n A i H s (F.lt a b m g u).it.length 3 (F.lt a b m g u).pp:=by
 obtain⟨c,h⟩:=a_ h;obtain⟨r,h⟩:=a_ h;obtain⟨t,h⟩:=a_ h;obtain⟨p,h⟩:=a_ h;by_cases e:m=[]
 .subst e;obtain⟨x,h⟩:=a_ h;obtain⟨k,h⟩:=a_ h;exact oC (by simp[F.it]) (BU (o:=false) q c r t p (λz=>nomatch z) (λ_=>HP) x k v)
 .have f:N3 m=[AQ m]:=ae e;rw[f]at h;obtain⟨d,h⟩:=a_ h;obtain⟨x,h⟩:=a_ h;obtain⟨k,h⟩:=a_ h;have l:(F.lt a b m g u).it.length=5+2:=by simp[F.it,f,Kb]
  rw[l];exact oC (by lia) (BU (o:=true) q c r t p (λ_=>d) (λz=>nomatch z) x k v)
theorem zG(Z:8≤n)(hk:k="some"\/k="all"\/k="many"){f r:List Nat}{c:Option C}{g:Mk}{u:Nat}{t:List (Str×P)}(G:k="many"->t=Kb g u)(F:¬k="many"->t=[])(h:At A i (o6 k::AQ f::(nz r++(ur c++t)))){l:Str}{E:P}
  (p:Nx A (i+(2+(nz r).length+(ur c).length)) l E) (x:NK l) (R:H.length < 1000) :
  Rd n A i H s (2+(nz r).length+(ur c).length+t.length) 3 (.tup (if k="many" then [.str k,.str (O f),.str (O r),cP c,.str g.sg,.int (u:Int)] else [.str k,.str (O f),.str (O r),cP c])):=by
 obtain⟨M,h⟩:=a_ h;obtain⟨N,h⟩:=a_ h;obtain⟨d,h⟩:=h.app;obtain⟨o,w⟩:=h.app;refine oC (by lia) (zc (by lia) hk M ?_);have K:(nz r).length=if decide (r≠[])=true then 2 else 0:=by
  by_cases e:r=[]
  .simp [nz,e]
  .simp [nz,e]
 have T:(ur c).length=if c.isSome=true then 1 else 0:=by cases c<;>rfl
 have I:∃y L,Nx A (i+1+1) y L/\¬y="knows"/\(r=[]->¬y="at")/\(r=[]->c=none->y=l):=by
  by_cases e:r=[]
  .cases c with
   |none=>rw[show(nz r).length=0 by simp[nz,e],show(ur none).length=0 from rfl]at p;exact⟨l,E,p,x.2.2,λ_=>x.1,λ_ _=>rfl⟩
   |some c=>rw[show(nz r).length=0 by simp[nz,e]]at o;obtain⟨b,_⟩:=a_ o;exact⟨_,_,b,by show ¬("when":Str)="knows";decide +kernel,λ_=>by show ¬("when":Str)="at";decide +kernel,λ_ z=>nomatch z⟩
  .rw [show nz r=[o6 "at",AQ r] from ae e]at d;obtain⟨b,_⟩:=a_ d;exact⟨_,_,b,by show ¬("at":Str)="knows";decide +kernel,λz=>absurd z e,λz=>absurd z e⟩
 obtain⟨y,L,B,V,W,_⟩:=I;have Q:i+(2+(nz r).length+(ur c).length)=i+1+1+(if decide (r≠[])=true then 2 else 0)+(if c.isSome=true then 1 else 0):=by rw[K,T];lia
 have a:=F0 (n:=n-1) (A:=A) (i:=i+1) (H:=H) (s:=s) (k:=k) (by lia) hk (f:=.str (O f)) (r:=.str (O r)) (c:=cP c) (o:=decide (r≠[])) (p:=c.isSome) (N:=.str "at") N (fun {k v} q e=>by
  obtain⟨I,X⟩:=q;obtain⟨s2,D⟩:=B;rw[X]at D;simp[pc]at D;exact V (D.1 ▸ e)) B
  (λz=>by have e:r≠[]:=aG z;rw[show nz r=[o6 "at",AQ r] from ae e]at d;obtain⟨S,d⟩:=a_ d;exact⟨S,(a_ d).1⟩)
  (fun z=>by
   have e:r=[]:=by simpa using z
   exact⟨B,W e,by rw[e];exact HP⟩)
  (fun z=>by
   cases c with
   |none=>cases z
   |some c=>rw[<- K];exact(a_ o).1)
  (S:=l) (T:=E) (fun z=>by
   cases c with
   |none=>rw[show(ur none).length=0 from rfl,K]at p;refine⟨?_,x.2.1,rfl⟩;rwa [show i+1+1+(if decide (r≠[])=true then 2 else 0)=i+(2+(if decide (r≠[])=true then 2 else 0)+0) by lia]
   |some c=>cases z)
  (j:=i+(2+(nz r).length+(ur c).length)) Q (g:=.str g.sg) (u:=.int (u:Int)) (λz=>by rw[G z]at w;rw[show i+1+1+(nz r).length+(ur c).length=i+(2+(nz r).length+(ur c).length) by lia]at w;obtain⟨S,w⟩:=a_ w;exact⟨S,(a_ w).1⟩) R
 by_cases m:k=("many":Str)
 .rw [ac m,ac m]at a;rw[ac m,G m];exact a
 .rw [ae m,ae m]at a;rw[ae m,F m];exact a
def DN:Option C->Prop
 |none=>True
 |some c=>c.ok
def F.ok:F->Prop
 | .on _=>True
 | .no f=>f.ok
 | .bn _ a b=>a.ok/\b.ok
 | .kn _ c f=>Nmd c/\f.ok
 | .lt a b m g k=>Nmd a/\Nmd b/\(m=[]\/Nmd m)/\g.lw=4/\k < 1000
 | .hp _ f r c=>Nmd f/\(r=[]\/Nmd r)/\DN c
 | .mn f r c g k=>Nmd f/\(r=[]\/Nmd r)/\DN c/\g.lw=4/\k < 1000
theorem Hb:NK "]":=by unfold NK;decide +kernel
theorem MC(o:Bool):NK (lB o):=by cases o<;>(unfold NK;decide +kernel)
def Hf(l:Nat)(s:List Fm):Prop:=∀m r,s=m::r->m.lw < l
theorem Bq(L:8≤n){f:F}{l:Nat}(I:l≤3)(o:∀(i:Nat) (H:List P) (s:List Fm) {k:Str}{v:P},At A i f.it->Nx A (i+f.it.length) k v->NK k->(f.lv < 3->Hf f.lv s)->s.length+f.it.length < 900->H.length+f.it.length < 900->Rd n A i H s f.it.length f.lv f.pp)
  (h:At A i (qc f.lv l f.it)) (y:Nx A (i+(qc f.lv l f.it).length) k v) (hk:NK k) (G:l≤f.lv->f.lv < 3->Hf f.lv s) (b:s.length+(qc f.lv l f.it).length < 900) (d:H.length+(qc f.lv l f.it).length < 900):Rd n A i H s (qc f.lv l f.it).length l f.pp:=by
 by_cases c:f.lv < l
 .have e:qc f.lv l f.it=o6 "["::(f.it++[o6 "]"]):=ac c;rw[e]at h b d ⊢;simp only[ak,aL,a']at b d;obtain⟨D,h⟩:=a_ h;obtain⟨E,a⟩:=h.app;obtain⟨a,_⟩:=a_ a;obtain⟨u,t,x,j,g,p,w,S⟩:=o (i+1) H (.br::s) E a Hb (λ_ m r e=>by cases e;exact f.lv1.1) (by simp;lia) (by lia);have K:=p 1 f.lv1.1 (.br::s) (f.pp::H) (.st λm r e=>by cases e;decide);simp only[ak]at w;have C:=vg (n:=n) (by lia) a K (by lia) (by lia) (.inl ⟨rfl,rfl⟩);have B:=oN (zb (n:=n) (H:=H) (by lia) (m:=.br) (.inr rfl) D (show s.length < 1000 by lia));refine⟨1+u+1,f.pp::H,s,by simp;lia,?_,λ_ _ _ _ z=>z,by lia,by simp⟩;rw[show i+(o6 "["::(f.it++[o6 "]"])).length=i+1+f.it.length+1 by simp;lia];exact(B.tr g).tr C
 .have e:qc f.lv l f.it=f.it:=ae c;rw[e]at h y b d ⊢;obtain⟨u,t,x,j,g,p,w,S⟩:=o i H s h y hk (G (by lia)) b d;exact⟨u,t,x,j,g,λq M=>p q (by lia),w,S⟩
theorem F.rd(C:8≤n):∀(f:F),f.ok->∀(i:Nat)(H:List P)(s:List Fm){k:Str}{v:P},At A i f.it->Nx A (i+f.it.length) k v->NK k->(f.lv < 3->Hf f.lv s)->s.length+f.it.length < 900->H.length+f.it.length < 900->Rd n A i H s f.it.length f.lv f.pp
 | .on d,_,i,H,s,k,v,h,_,_,_,w,t=>by obtain⟨h,_⟩:=a_ h;simp only[F.it,ak,a']at t;exact oC (aq 1) (Ij (b:=d) (by lia) h (by lia))
 | .no f,K,i,H,s,k,v,h,q,hk,_,w,t=>by obtain⟨G,h⟩:=a_ h;simp only[F.it,ak]at w t q;obtain⟨u,E,D,hu,g,p,N,l2⟩:=Bq (H:=H) (s:=.no::s) C (by lia) (F.rd C f K) h (by rw[show i+1+(qc f.lv 3 f.it).length=i+((qc f.lv 3 f.it).length+1) by lia];exact q) hk (λa b=>by lia) (by simp;lia) (by lia);have T:=oN (zb (n:=n) (H:=H) (by lia) (m:=.no) (.inl rfl) G (show s.length < 1000 by lia));simp only[ak]at N;refine⟨1+u,E,D,by simp[F.it];lia,?_,λl L j B z=>p l L _ _ (.no L z),by simp[F.it];lia,by simp[F.it];lia⟩;rw[show i+(F.no f).it.length=i+1+(qc f.lv 3 f.it).length by simp[F.it];lia];exact T.tr g
 | .bn o a b,K,i,H,s,k,v,h,q,hk,S,w,t=>by
  have o2:(Fm.bn o).lw≤2/\1≤(Fm.bn o).lw:=by cases o<;>decide
  have S:=S (show(Fm.bn o).lw < 3 by lia);replace S:Hf (Fm.bn o).lw s:=S;obtain⟨W,I⟩:=At.app (a:=qc a.lv (Fm.bn o).lw a.it) h;obtain⟨G,I⟩:=a_ I;simp only[F.it,ak,aL]at w t q;obtain⟨u,E,D,hu,g,p,N,l2⟩:=Bq (H:=H) (s:=s) C (by lia) (F.rd C a K.1) W G (MC o) (λx y m r e=>by have:=S m r e;lia) (by lia) (by lia);have R:=p (Fm.bn o).lw (aq _) s (a.pp::H) (.st S);have g1:=C7 (n:=n) (by lia) G R (by lia) (by lia);obtain⟨u2,ts2,Z,hu2,V,p2,l3,l4⟩:=Bq (H:=a.pp::H) (s:=.bn o::s) C (by lia) (F.rd C b K.2) I (by rw[show i+(qc a.lv (Fm.bn o).lw a.it).length+1+(qc b.lv ((Fm.bn o).lw+1) b.it).length=i+((qc a.lv (Fm.bn o).lw a.it).length+((qc b.lv ((Fm.bn o).lw+1) b.it).length+1)) by lia];exact q) hk (λx y m r e=>by cases e;lia) (by simp;lia) (by simp;lia);simp only[ak]at l3 l4;refine⟨u+1+u2,ts2,Z,by simp[F.it];lia,?_,λl L j B z=>p2 l (by have:l≤(Fm.bn o).lw:=L;lia) _ _ (.tw L z),by simp[F.it];lia,by simp[F.it];lia⟩;rw[show i+(F.bn o a b).it.length=i+(qc a.lv (Fm.bn o).lw a.it).length+1+(qc b.lv ((Fm.bn o).lw+1) b.it).length by simp[F.it];lia];exact(g.tr g1).tr V
 | .kn e c f,K,i,H,s,k,v,h,q,hk,S,w,t=>by obtain⟨G,h⟩:=a_ h;obtain⟨W,h⟩:=a_ h;obtain⟨I,h⟩:=a_ h;obtain⟨h3,h⟩:=a_ h;obtain⟨h4,M⟩:=At.app (a:=f.it) h;obtain⟨M,_⟩:=a_ M;simp only[F.it,ak,aL,a']at w t;obtain⟨u,E,D,hu,g,p,N,l2⟩:=F.rd C f K.2 (i+1+1+1+1) H (.kn e c::s) h4 M Hb (λ_ m r e=>by cases e;exact f.lv1.1) (by simp;lia) (by lia);have R:=p 1 f.lv1.1 (.kn e c::s) (f.pp::H) (.st λm r e=>by cases e;exact Nat.zero_lt_one);simp only[ak]at N;have V:=vg (n:=n) (by lia) M R (by lia) (by lia) (.inr ⟨e,c,f.pp,H,rfl,rfl,rfl⟩);have T:=oN (LX (n:=n) (H:=H) (by lia) (e:=e) (c:=c) G W I h3 (show s.length < 1000 by lia));refine⟨1+u+1,_,s,by simp[F.it];lia,?_,λ_ _ _ _ z=>z,by lia,by simp[F.it]⟩;rw[show i+(F.kn e c f).it.length=i+1+1+1+1+f.it.length+1 by simp[F.it];lia];exact(T.tr g).tr V
 | .lt a b m g u,K,i,H,s,k,v,h,q,hk,S,w,t=>MN (by lia) h (by lia)
 | .hp a f r c,K,i,H,s,k,v,h,q,hk,S,w,t=>by
  have X:(xa a="some"\/xa a="all"\/xa a=("many":Str))/\¬xa a=("many":Str):=by cases a<;>exact⟨by first|exact .inl rfl|exact .inr (.inl rfl),by decide +kernel⟩
  have Q:(F.hp a f r c).it.length=2+(nz r).length+(ur c).length:=by simp[F.it];lia
  rw[Q]at q w t ⊢;have:=zG (H:=H) (s:=s) (g:=.eq) (u:=0) (t:=[]) C X.1 (λz=>absurd z X.2) (λ_=>rfl) (by rw[cg];exact h) q hk (by lia)
  rw[ae X.2]at this;exact this
 | .mn f r c g u,K,i,H,s,k,v,h,q,hk,S,w,t=>by
  have Q:(F.mn f r c g u).it.length=2+(nz r).length+(ur c).length+2:=by simp[F.it,Kb];lia
  rw[Q]at q w t ⊢;obtain⟨_,a⟩:=a_ h;obtain⟨_,a⟩:=a_ a;obtain⟨_,a⟩:=At.app (a:=nz r) a;obtain⟨_,a⟩:=At.app (a:=ur c) a;obtain⟨a,_⟩:=a_ a;have:=zG (H:=H) (s:=s) (g:=g) (u:=u) (t:=Kb g u) C (.inr (.inr rfl)) (λ_=>rfl) (λz=>absurd rfl z) h (l:="compared") (by rw[show i+(2+(nz r).length+(ur c).length)=i+1+1+(nz r).length+(ur c).length by lia];exact a) (by unfold NK;decide +kernel) (by lia)
  rw[ac rfl]at this;exact this
end My
set_option tactic.hygienic true
namespace My
open PySem L2 Ev
noncomputable def wk(s:Str):List Nat:=s.cps.toList
theorem eG(s:Str):O (wk s)=s:=rK (by simp[O,wk])
def kw(s:Str):Tk:=.w (wk s)
noncomputable def DU(m:List Nat):List Tk:=if m=[] then [] else [.w m]
def AN(r:List Nat):List Tk:=if r=[] then [] else [kw "at",.w r]
def AT:Option C->List Tk
 |none=>[]
 |some c=>.w bW::.s .lb::(c.tk++[.s .rb])
def DK(g:Mk)(k:Nat):List Tk:=[.s g,.n k (dg k)]
noncomputable def DR(v l:Nat)(x:List Tk):List Tk:=if v < l then .s .lb::(x++[.s .rb]) else x
def F.tk:F->List Tk
 | .on d=>[kw (G_ d)]
 | .no f=>kw "not"::DR f.lv 3 f.tk
 | .bn o a b=>DR a.lv (Fm.bn o).lw a.tk++kw (lB o)::DR b.lv ((Fm.bn o).lw+1) b.tk
 | .kn e c f=>[kw (DW e),.w c,kw "knows",.s .lb]++(f.tk++[.s .rb])
 | .lt a b m g k=>[kw "letters",.w a,kw "to",.w b]++(DU m++DK g k)
 | .hp h f r c=>[kw (xa h),.w f]++(AN r++AT c)
 | .mn f r c g k=>[kw "many",.w f]++(AN r++(AT c++DK g k))
noncomputable def Ap(m:List Nat):List Nat:=if m=[] then [] else 32::m
def oA(r:List Nat):List Nat:=if r=[] then [] else 32::(wk "at"++32::r)
def qf:Option C->List Nat
 |none=>[]
 |some c=>32::(bW++32::(91::(c.tx++[93])))
def AU(g:Mk)(k:Nat):List Nat:=32::(g.tx++32::dg k)
noncomputable def sN(v l:Nat)(x:List Nat):List Nat:=if v < l then 91::(x++[93]) else x
def F.tx:F->List Nat
 | .on d=>wk (G_ d)
 | .no f=>wk "not"++32::sN f.lv 3 f.tx
 | .bn o a b=>sN a.lv (Fm.bn o).lw a.tx++32::(wk (lB o)++32::sN b.lv ((Fm.bn o).lw+1) b.tx)
 | .kn e c f=>wk (DW e)++32::(c++32::(wk "knows"++32::91::(f.tx++[93])))
 | .lt a b m g k=>wk "letters"++32::(a++32::(wk "to"++32::(b++(Ap m++AU g k))))
 | .hp h f r c=>wk (xa h)++32::(f++(oA r++qf c))
 | .mn f r c g k=>wk "many"++32::(f++(oA r++(qf c++AU g k)))
theorem ij(s:Str)(h:(decide (wk s≠[]) && decide ((wk s).length≤10) && (wk s).all (λc=>decide (97≤c) && decide (c≤122)) && !decide (s=("when":Str)))=true)(f:bb (.p (.str s)) FW []=some (.bl true)):FWd (wk s):=by simp only[aE,gY,bj,lU,x9]at h;exact⟨⟨h.1.1.1,h.1.1.2,h.1.2⟩,by rw[eG];exact f,by rw[eG];exact h.2⟩
theorem C9(d:Bool):FWd (wk (G_ d)):=by cases d<;>exact ij _ (by decide +kernel) (by kernel_rfl)
theorem vl(o:Bool):FWd (wk (lB o)):=by cases o<;>exact ij _ (by decide +kernel) (by kernel_rfl)
theorem vk(o:Bool):FWd (wk (DW o)):=by cases o<;>exact ij _ (by decide +kernel) (by kernel_rfl)
theorem vj(o:Bool):FWd (wk (xa o)):=by cases o<;>exact ij _ (by decide +kernel) (by kernel_rfl)
theorem C_:FWd (wk "not"):=ij _ (by decide +kernel) (by kernel_rfl)
theorem vi:FWd (wk "knows"):=ij _ (by decide +kernel) (by kernel_rfl)
theorem qU:FWd (wk "letters"):=ij _ (by decide +kernel) (by kernel_rfl)
theorem qT:FWd (wk "to"):=ij _ (by decide +kernel) (by kernel_rfl)
theorem qV:FWd (wk "at"):=ij _ (by decide +kernel) (by kernel_rfl)
theorem vh:FWd (wk "many"):=ij _ (by decide +kernel) (by kernel_rfl)
theorem Pc.app{a b:List Tk}{p q:List (Str×P)}(h:Pc a p)(g:Pc b q):Pc (a++b) (p++q):=by
 induction h with
 |nil=>exact g
 |one n c _ i=>exact .one n (λm e s=>by obtain⟨a,r,rfl,x⟩:=c m e s;exact⟨a,r++_,rfl,x⟩) i
 |wh c _ i=>have:=Pc.wh c i;simpa using this
theorem Pc.len{a:List Tk}{p:List (Str×P)}(h:Pc a p):p.length≤a.length:=by
 induction h with
 |nil=>simp
 |one _ _ _ i=>simpa using i
 |wh _ _ i=>simp at i ⊢;lia
theorem Pc.kw{s:Str}(h:FWd (wk s)){a:List Tk}{p:List (Str×P)}(g:Pc a p):Pc (kw s::a) (o6 s::p):=by have:=Pc.one (.fw h) (λm e=>nomatch e) g;rwa [eG]at this
theorem Pc.nm{c:List Nat}(h:Nmd c){a:List Tk}{p:List (Str×P)}(g:Pc a p):Pc (.w c::a) (AQ c::p):=.one (.nm h) (λm e=>nomatch e) g
theorem Pc.br{m:Mk}(h:m.lw=0){s:Str}(x:m.sg=s){a:List Tk}{p:List (Str×P)}(g:Pc a p):Pc (.s m::a) (o6 s::p):=by subst x;exact .one (.br h) (λq e n=>by cases e;lia) g
theorem G9{g:Mk}{k:Nat}(h:g.lw=4)(hk:k < 1000):Pc (DK g k) (Kb g k):=.one (.cm h) (λ_ _ _=>⟨_,_,rfl,rfl⟩) (.one (.nu hk) (λm e=>nomatch e) .nil)
theorem LR:Mk.lb.sg="[":=by decide +kernel
theorem LO:Mk.rb.sg="]":=by decide +kernel
theorem Cf{v l:Nat}{a:List Tk}{p:List (Str×P)}(g:Pc a p):Pc (DR v l a) (qc v l p):=by
 unfold DR qc;split
 .exact .br rfl LR (g.app (.br rfl LO .nil))
 .exact g
theorem G7{r:List Nat}(h:r=[]\/Nmd r):Pc (AN r) (nz r):=by
 unfold AN nz;split
 .exact .nil
 .rename_i e;exact .kw qV (.nm (h.resolve_left e) .nil)
theorem L9{r:List Nat}(h:r=[]\/Nmd r):Pc (DU r) (N3 r):=by
 unfold DU N3;split
 .exact .nil
 .rename_i e;exact .nm (h.resolve_left e) .nil
theorem G8{c:Option C}(h:DN c):Pc (AT c) (ur c):=by
 cases c with
 |none=>exact .nil
 |some c=>exact .wh h .nil
theorem F.pc:∀(f:F),f.ok->Pc f.tk f.it
 | .on d,_=>.kw (C9 d) .nil
 | .no f,h=>.kw C_ (Cf (F.pc f h))
 | .bn o a b,h=>(Cf (F.pc a h.1)).app (.kw (vl o) (Cf (F.pc b h.2)))
 | .kn e c f,h=>.kw (vk e) (.nm h.1 (.kw vi (.br rfl LR ((F.pc f h.2).app (.br rfl LO .nil)))))
 | .lt a b m g k,h=>.kw qU (.nm h.1 (.kw qT (.nm h.2.1 ((L9 h.2.2.1).app (G9 h.2.2.2.1 h.2.2.2.2)))))
 | .hp a f r c,h=>.kw (vj a) (.nm h.1 ((G7 h.2.1).app (G8 h.2.2)))
 | .mn f r c g k,h=>.kw vh (.nm h.1 ((G7 h.2.1).app ((G8 h.2.2.1).app (G9 h.2.2.2.1 h.2.2.2.2))))
theorem lZ{s:Str}(h:FWd (wk s)){H:List Tk}{x:List Nat}(a:Sp H x):Sp (kw s::H) (wk s++32::x):=kx h.w a
theorem BL{c:List Nat}(h:Wrd c){H:List Tk}{x:List Nat}(n:NA x)(a:Sp H x):Sp (.w c::H) (c++x):=.tk h a λ_=>n
theorem nc{x:List Nat}:NA (32::x):=pD (by decide)
theorem wN{H:List Tk}{x:List Nat}(h:Sp H x):Sp (.s .lb::(H++[.s .rb])) (91::(x++[93])):=.sg .lb rfl (h.app (pD (by decide)) (.sg .rb rfl .nil))
theorem GZ{g:Mk}{k:Nat}(h:g.lw=4)(hk:k < 1000):Sp (DK g k) (AU g k):=.bl (.sg g (wZ (by lia)) (.bl (.one (k:=.n k (dg k)) (jO hk))))
theorem pE{x y:List Nat}(h:NA x)(g:NA y):NA (x++y):=by
 cases x with
 |nil=>exact g
 |cons a r=>exact pD (h a r rfl)
theorem zq(c:Option C):NA (qf c):=by
 cases c with
 |none=>exact mS
 |some c=>exact nc
theorem Hc(r:List Nat):NA (oA r):=by
 unfold oA;split
 .exact mS
 .exact nc
theorem GY{c:Option C}(h:DN c):Sp (AT c) (qf c):=by
 cases c with
 |none=>exact .nil
 |some c=>exact .bl (kx jI (wN (C.sp h)))
theorem GW{r:List Nat}(h:r=[]\/Nmd r):Sp (AN r) (oA r):=by
 unfold AN oA;split
 .exact .nil
 .rename_i e;exact .bl (lZ qV (.one (k:=.w r) (h.resolve_left e).w))
theorem GX{r:List Nat}(h:r=[]\/Nmd r):Sp (DU r) (Ap r)/\NA (Ap r):=by
 unfold DU Ap;split
 .exact⟨.nil,mS⟩
 .rename_i e;exact⟨.bl (.one (k:=.w r) (h.resolve_left e).w),nc⟩
theorem BK{v l:Nat}{a:List Tk}{x:List Nat}(g:Sp a x):Sp (DR v l a) (sN v l x):=by
 unfold DR sN;split
 .exact wN g
 .exact g
theorem F.sp:∀(f:F),f.ok->Sp f.tk f.tx
 | .on d,_=>.one (k:=kw (G_ d)) (C9 d).w
 | .no f,h=>lZ C_ (BK (F.sp f h))
 | .bn o a b,h=>(BK (F.sp a h.1)).appB (lZ (vl o) (BK (F.sp b h.2)))
 | .kn e c f,h=>lZ (vk e) (kx h.1.w (lZ vi (wN (F.sp f h.2))))
 | .lt a b m g k,h=>lZ qU (kx h.1.w (lZ qT (BL h.2.1.w (pE (GX h.2.2.1).2 nc) (Sp.app (a:=DU m) (b:=DK g k) nc (GX h.2.2.1).1 (GZ h.2.2.2.1 h.2.2.2.2)))))
 | .hp a f r c,h=>lZ (vj a) (BL h.1.w (pE (Hc r) (zq c)) (Sp.app (a:=AN r) (b:=AT c) (zq c) (GW h.2.1) (GY h.2.2)))
 | .mn f r c g k,h=>lZ vh (BL h.1.w (pE (Hc r) (pE (zq c) nc)) (Sp.app (a:=AN r) (b:=AT c++DK g k) (pE (zq c) nc) (GW h.2.1) (Sp.app (a:=AT c) (b:=DK g k) nc (GY h.2.2.1) (GZ h.2.2.2.1 h.2.2.2.2))))
end My
namespace My
open PySem L2 Ev
variable{n:Nat}
section
variable(y a b c d:D)
@[simp] theorem R5:Ev.putK "pieces" []=(["pieces"]:LS)/\Ev.putK "spot" ["pieces"]=(["pieces","spot"]:LS)/\Ev.putK "trees" ["pieces","spot"]=(["pieces","spot","trees"]:LS)/\Ev.putK "marks" ["pieces","spot","trees"]=(["pieces","spot","trees","marks"]:LS)
  /\ Ev.putK "wanted" ["pieces","spot","trees","marks"]=FK:=by (repeat' apply And.intro)<;>kernel_rfl
@[simp] theorem R4:gM "pieces" y [] []=[y]:=rfl
@[simp] theorem R3:gM "spot" y ["pieces"] [a]=[a,y]:=by kernel_rfl
@[simp] theorem R1:gM "trees" y ["pieces","spot"] [a,b]=[a,b,y]:=by kernel_rfl
@[simp] theorem R0:gM "marks" y ["pieces","spot","trees"] [a,b,c]=[a,b,c,y]:=by kernel_rfl
@[simp] theorem RZ:gM "wanted" y ["pieces","spot","trees","marks"] [a,b,c,d]=[a,b,c,d,y]:=by kernel_rfl
end
theorem Di(x:2≤n){t:Str}{A:List P}(h:pureOf (Ph (n-1) "pieces_of") [.str t]=some (.lst A)):Ph n "FactReader.__init__" [.ref 0,.p (.str t)] [.ins "FactReader" [] []]=some (.p .non,Fs A 0 true [] []):=by obtain⟨n,rfl⟩:=eK (n:=n) (by first|assumption|lia);rw[show n+2-1=n+1 by lia]at h;rw[kG];simp[bp,fH,h,Fs,few]
theorem E8(B:24≤n){f:F}(q:f.ok){H:List Tk}(b:Pc H f.it){x:List Nat}(y:Sp H x)(v:H.length+x.count 32 < 800)(l:x.length < 100000):pureOf (Ph n "read_fact") [.str (O x)]=some f.pp:=by
 obtain⟨n,rfl⟩:=N_ (n:=n) (by first|assumption|lia);obtain⟨A,c,m,D⟩:=Ag (n:=n+1) (by lia) b y v l;have d:=b.len;obtain⟨k,h⟩:=At.app (m.at []);simp only[cI,a']at k h;obtain⟨h,_⟩:=a_ h;obtain⟨u,P,K,C,g,p,o,S⟩:=F.rd (n:=n+2) (by lia) f q 0 [] [] k h (by unfold NK;decide +kernel) (λ_ _ _ z=>nomatch z) (by simp;lia) (by simp;lia);have ge:=JB (n:=n+2) (by lia) h (p 1 f.lv1.1 [] [f.pp] (.st λ_ _ z=>nomatch z)) (by simp at o;lia) (by simp at S;lia) (1000-u-1);have a:bh (fC (n+2)) (aK (Ph (n+2))) 1000 fL (Fs A 0 true [] [])=some (.nx,fL,Fs A (0+f.it.length) false [f.pp] []):=by have:=g (1000-u-1+1);rw[show 1000-u-1+1+u=1000 by lia]at this;exact this.trans ge
 have r:=b6 (n:=n+2) (w:=false) (ts:=[f.pp]) (ms:=[]) (by lia) (show Nx A (0+f.it.length) "end" (.str "") from h);generalize 0+f.it.length=j at *
 have i:=Di (n:=n+2) (by lia) c;have t:Ph (n+3) "FactReader.fact_up_to" [.ref 0,.p (.str "end")] (Fs A 0 true [] [])=some (.p f.pp,Fs A (j+1) false [] []):=by
  rw[gP];have e:en (aT Att) (U 0) "wanted" (Y (vC (.bl true))) fL (Fs A 0 true [] [])=some (.nx,fL,Fs A 0 true [] []):=by simp[fL,Fs]
  simp only[fL,fC]at e a;simp[bp,dL,-en,e,dP,a,ky,r];simp[Fs,fk]
 rw[qq,ao];simp[kX,i,ky,t]
end My
namespace My
open PySem L2 Ev
noncomputable def F.dep:F->Nat
 | .no f=>f.dep+1
 | .bn _ a b=>max a.dep b.dep+1
 | .kn _ _ f=>f.dep+1
 |_=>0
theorem mL(v l:Nat)(x:List Tk):x.length≤(DR v l x).length/\(DR v l x).length≤x.length+2:=by unfold DR;split<;>simp<;>lia
theorem wF{a b:Nat}(h:a≤b):2 ^ a≤2 ^ b:=Nat.pow_le_pow_right (by decide) h
theorem Dr(c:Option C):(AT c).length≤19:=by
 cases c with
 |none=>simp[AT]
 |some c=>have:=c.tl;simp[AT];lia
theorem BW(r:List Nat):(AN r).length≤2:=by unfold AN;split<;>simp
theorem Jd(r:List Nat):(DU r).length≤1:=by unfold DU;split<;>simp
theorem F.tl:∀f:F,f.tk.length+5≤30 * 2 ^ f.dep
 | .on d=>by simp[F.tk,F.dep]
 | .no f=>by have:=F.tl f;have:=mL f.lv 3 f.tk;simp only[F.tk,F.dep,ak,kq];lia
 | .bn o a b=>by
  have:=F.tl a;have:=F.tl b
  have:=mL a.lv (Fm.bn o).lw a.tk;have:=mL b.lv ((Fm.bn o).lw+1) b.tk
  have:=wF (sd a.dep b.dep);have:=wF (se a.dep b.dep)
  simp only[F.tk,F.dep,ak,aL,kq];lia
 | .kn e c f=>by have:=F.tl f;simp only[F.tk,F.dep,ak,aL,a',kq];lia
 | .lt a b m g k=>by have:=Jd m;simp only[F.tk,F.dep,DK,ak,aL,a'];lia
 | .hp h f r c=>by have:=BW r;have:=Dr c;simp only[F.tk,F.dep,ak,aL,a'];lia
 | .mn f r c g k=>by have:=BW r;have:=Dr c;simp only[F.tk,F.dep,DK,ak,aL,a'];lia
theorem iA{c:List Nat}(h:Wrd c):List.count 32 c=0:=Tk.nb (k:=.w c) h
theorem Nt{k:Nat}(h:k < 1000):List.count 32 (dg k)=0:=Tk.nb (k:=.n k (dg k)) (jO h)
theorem JU{m:Mk}(h:4≤m.lw):List.count 32 m.tx=0:=Tk.nb (k:=.s m) (wZ h)
theorem Ht(v l:Nat)(x:List Nat):List.count 32 (sN v l x)=List.count 32 x:=by unfold sN;split<;>simp[bE,g_]
theorem Lf.cb{a:Lf}(h:a.ok):List.count 32 a.tx=0:=by
 cases a with
 |num k=>exact Nt h
 |nam c=>exact iA (Nmd.w h)
theorem Sm.cb{a:Sm}(h:a.ok):List.count 32 a.tx+1≤a.tk.length:=by
 cases a with
 |lf a=>have:=a.cb h;simp[Sm.tx,Sm.tk,this]
 |bin m a b=>have x:=a.cb h.2.1;have e:=b.cb h.2.2;have s:=JU (m:=m) (by have:=h.1;lia);simp[Sm.tx,Sm.tk,bE,x,e,s]
theorem tZ{m:Mk}{a b:Sm}(h:m.lw=4)(e:a.ok)(s:b.ok):List.count 32 (qe m a b)+1≤(AR m a b).length:=by
 have:=a.cb e;have:=b.cb s
 have x:=JU (m:=m) (by lia);simp only[qe,AR,bE,eD,aL,ak,x];lia
theorem C.cb{c:C}(h:c.ok):List.count 32 c.tx+1≤c.tk.length:=by
 cases c with
 |is m a b=>exact tZ h.1 h.2.1 h.2.2
 |no m a b=>have:=tZ h.1 h.2.1 h.2.2;have x:=iA Bp;simp only[C.tx,C.tk,bE,eD,ak,x];lia
 |or m a b c=>
  have:=tZ h.1 h.2.1 h.2.2.1;have:=tZ (m:=.eq) rfl h.2.2.2 jJ
  have x:=iA Bo;simp only[C.tx,C.tk,bE,eD,ak,aL,x];lia
theorem Hr{c:Option C}(h:DN c):List.count 32 (qf c)≤(AT c).length:=by
 cases c with
 |none=>simp[qf]
 |some c=>have:=C.cb h;have x:=iA jI;simp only[qf,AT,bE,eD,ak,aL,x,g_,List.count_nil,a'];simp;lia
theorem G6{r:List Nat}(h:r=[]\/Nmd r):List.count 32 (oA r)≤(AN r).length:=by
 unfold oA AN;split
 .simp
 .rename_i e;have x:=iA (h.resolve_left e).w;have a:=iA qV.w;simp[bE,x,a]
theorem MJ{r:List Nat}(h:r=[]\/Nmd r):List.count 32 (Ap r)≤(DU r).length:=by
 unfold Ap DU;split
 .simp
 .rename_i e;have x:=iA (h.resolve_left e).w;simp[x]
theorem Hv{g:Mk}{k:Nat}(a:g.lw=4)(hk:k < 1000):List.count 32 (AU g k)≤2:=by have h:=Nt hk;have x:=JU (m:=g) (by lia);simp[AU,bE,h,x]
theorem F.cb:∀f:F,f.ok->List.count 32 f.tx+1≤f.tk.length
 | .on d,_=>by have p:=iA (C9 d).w;simp[F.tx,F.tk,p]
 | .no f,h=>by
  have:=F.cb f h;have:=mL f.lv 3 f.tk
  have x:=iA C_.w;simp only[F.tx,F.tk,bE,eD,ak,Ht,x];lia
 | .bn o a b,h=>by
  have:=F.cb a h.1;have:=F.cb b h.2
  have:=mL a.lv (Fm.bn o).lw a.tk;have:=mL b.lv ((Fm.bn o).lw+1) b.tk
  have x:=iA (vl o).w;simp only[F.tx,F.tk,bE,eD,ak,aL,Ht,x];lia
 | .kn e c f,h=>by
  have:=F.cb f h.2;have x:=iA (vk e).w;have s:=iA h.1.w;have n:=iA vi.w;have t:List.count 32 (91::(f.tx++[93]))=List.count 32 f.tx:=by simp[bE,g_]
  simp only[F.tx,F.tk,bE,eD,ak,aL,a',x,s,n,t];lia
 | .lt a b m g k,h=>by
  have:=MJ h.2.2.1;have:=Hv h.2.2.2.1 h.2.2.2.2
  have x:=iA qU.w;have s:=iA h.1.w;have n:=iA qT.w;have q:=iA h.2.1.w;simp only[F.tx,F.tk,DK,bE,eD,ak,aL,a',x,s,n,q];lia
 | .hp a f r c,h=>by
  have:=G6 h.2.1;have:=Hr h.2.2
  have x:=iA (vj a).w;have s:=iA h.1.w;simp only[F.tx,F.tk,bE,eD,ak,aL,a',x,s];lia
 | .mn f r c g k,h=>by
  have:=G6 h.2.1;have:=Hr h.2.2.1
  have:=Hv h.2.2.2.1 h.2.2.2.2;have x:=iA vh.w;have s:=iA h.1.w;simp only[F.tx,F.tk,DK,bE,eD,ak,aL,a',x,s];lia
theorem F.tl3{f:F}(h:f.dep≤3):f.tk.length≤235:=by have:=f.tl;have:=wF h;lia
theorem F.read{f:F}(h:f.ok)(d:f.dep≤3){n:Nat}(e:24≤n){x:List Nat}(a:Sp f.tk x)(c:List.count 32 x≤480):pureOf (Ph n "read_fact") [.str (O x)]=some f.pp:=by
 have:=f.tl3 d;have:=a.le
 exact E8 e h (f.pc h) a (by lia) (by lia)
theorem JM(x:List Nat):List.count 32 (nT 32 x)=2 * List.count 32 x:=by
 induction x with
 |nil=>rfl
 |cons a x i=>
  unfold nT;split
  .rename_i e;simp only[g_,i,e];simp;lia
  .rename_i e;have h:(a == 32)=false:=by simpa using e
   simp only[g_,i,h];simp
theorem BZ{f:F}(h:f.ok)(d:f.dep≤3){n:Nat}(x:24≤n):pureOf (Ph n "read_fact") [.str (Txt.replace (O f.tx) " " "  ")]=some f.pp:=by
 rw[Ex (O f.tx) " " "  " 32 (by decide +kernel) (by decide +kernel),dh];have:=f.tl3 d
 have:=f.cb h;exact F.read h d x (f.sp h).dbl (by rw[JM];lia)
theorem BY{f:F}(x:f.ok)(d:f.dep≤3){n:Nat}(a:24≤n):pureOf (Ph n "read_fact") [.str (O (32::(f.tx++[32])))]=some f.pp:=by
 have:=f.tl3 d;have:=f.cb x
 have h:=(f.sp x).appB .nil;rw[cg]at h;exact F.read x d a (.bl h) (by simp[bE];lia)
def Sg(c:Str):Prop:=∃k,c.cps.toList=[k]/\k≠32/\¬An k
theorem oP{c:Str}{k:Nat}(h:c.cps.toList=[k])(x:Str):Del k x.cps.toList (Txt.replace x (" "++c) c).cps.toList/\Del k x.cps.toList (Txt.replace x (c++" ") c).cps.toList:=by
 have b:((" ":Str)).cps.toList=[32]:=by decide +kernel
 constructor
 .exact zd λu v d=>by rw[kh,lV,h,b];exact .l d
 .exact zd λu v d=>by rw[kh,lV,h,b];exact .r d
theorem Du{H:List Tk}:∀(s:LS),(∀c ∈ s,Sg c)->∀x:Str,Sp H x.cps.toList->Sp H (gC " " x s).cps.toList/\List.count 32 (gC " " x s).cps.toList≤List.count 32 x.cps.toList
 | [],_,x,h=>⟨h,aq _⟩
 |c::s,m,x,h=>by obtain⟨k,b,n,f⟩:=m c aM;have d:=(oP b x).1;have e:=(oP b (Txt.replace x (" "++c) c)).2;obtain⟨q,t⟩:=Du s (λa r=>m a (aW _ r)) (jz " " x c) ((h.del n f _ d).del n f _ e);exact⟨q,a9 t (a9 e.cnt.1 d.cnt.1)⟩
noncomputable def uI:LS:=["[","]","=","<",">","+","-","*"]
theorem BO:∀c ∈ uI,Sg c:=by
 intro c h;simp only[uI,aU,ci,ce]at h;have mk:∀k,k≠32->¬An k->∀c:Str,c=O [k]->Sg c:=λk x a c e=>⟨k,by rw[e,dh],x,a⟩
 rcases h with rfl|rfl|rfl|rfl|rfl|rfl|rfl|rfl
 .exact mk 91 (by decide) (by decide) _ rfl
 .exact mk 93 (by decide) (by decide) _ rfl
 .exact mk 61 (by decide) (by decide) _ rfl
 .exact mk 60 (by decide) (by decide) _ rfl
 .exact mk 62 (by decide) (by decide) _ rfl
 .exact mk 43 (by decide) (by decide) _ rfl
 .exact mk 45 (by decide) (by decide) _ rfl
 .exact mk 42 (by decide) (by decide) _ rfl
theorem len_list(x:Str):x.length=x.cps.toList.length:=by simp[kg]
theorem Dv:∀(s:LS),(∀c ∈ s,Sg c)->∀x:Str,x.length≤5000->ny (jz " ") (qa " ") x s
 | [],_,_,_=>trivial
 |c::s,b,x,v=>by
  obtain⟨k,n,p,q⟩:=b c aM;have d:=(oP n x).1.cnt.2;have r:=(oP n (Txt.replace x (" "++c) c)).2.cnt.2;have f:c.length=1:=by rw[len_list,n];rfl
  have w:(Txt.replace x (" "++c) c).length≤x.length:=by rw[len_list,len_list];exact d
  have u:(jz " " x c).length≤(Txt.replace x (" "++c) c).length:=by rw[len_list,len_list];exact r
  have l:(" "++c).length=2/\(c++" ").length=2:=by constructor<;>(rw[len_list,kh,lV,n,show((" ":Str)).cps.toList=[32] by decide +kernel];rfl)
  have m:∀{a:Str},a.length=2->(a == c)=false:=λh=>by rw[km];intro e;rw[e,f]at h;cases h
  refine⟨⟨by rw[f];rfl,m l.1,m l.2,by rw[l.1];decide,by rw[l.2];decide,by rw[f];lia,by rw[f];lia⟩,Dv s (λa t=>b a (aW _ t)) _ (by lia)⟩
theorem F.xl{f:F}(h:f.ok)(d:f.dep≤3):f.tx.length≤3000:=by
 have:=f.tl3 d;have:=(f.sp h).le
 have:=f.cb h;lia
theorem B0{f:F}(h:f.ok)(d:f.dep≤3){n:Nat}(e:24≤n):ny (jz " ") (qa " ") (O f.tx) uI/\pureOf (Ph n "read_fact") [.str (gC " " (O f.tx) uI)]=some f.pp:=by
 have:=f.tl3 d;have:=f.cb h
 obtain⟨a,x⟩:=Du (H:=f.tk) uI BO (O f.tx) (by rw[dh];exact f.sp h);rw[dh]at x;refine⟨Dv uI BO _ (by have:=F.xl h d;rw[cS];lia),?_⟩;have:=F.read h d e a (a9 x (by lia))
 rwa [show O (gC " " (O f.tx) uI).cps.toList=gC " " (O f.tx) uI from eG _]at this
end My
namespace My
open PySem L2 Ev
@[simp] theorem NU(f:EV)(L:Lc)(S:aP):c8 f L S=bA (f L S) λv h=>match v with
 | .str x=>if eO x.length=true then some (.str x,h) else none
 | .int i=>if decide (i.natAbs.log2 < 1920)=true then some (.str (toString i),h) else none
 |_=>none:=rfl
@[simp] theorem Ll(f:List EV)(L:Lc)(S:aP):dH f L S=fU (O []) f L S:=rfl
@[simp] theorem GP(a:Str)(L:Lc)(S:aP):fU a [] L S=if eO a.length=true then some (.str a,S) else none:=rfl
@[simp] theorem EI(a:Str)(f:EV)(r:List EV)(L:Lc)(S:aP):fU a (f::r) L S=bA (f L S) λv h=>match v with | .str y=>if eO (a++y).length=true then fU (a++y) r L h else none|_=>none:=rfl
theorem cy{a b:List Nat}(h:a.length+b.length≤1000000):aD (.str (O a)) (.str (O b))=some (.str (O (a++b))):=by rw[bi];simp only[mo,cS];rw[ac (by rw[mq];exact h),bM]
theorem cj:(" ":Str)=O [32]:=by decide +kernel
theorem tm:("not ":Str)=O [110,111,116,32]:=by decide +kernel
theorem G3:("[":Str)=O [91]:=by decide +kernel
theorem qH:("]":Str)=O [93]:=by decide +kernel
theorem Lf.xl{a:Lf}(h:a.ok):a.tx.length≤10:=by
 cases a with
 |num k=>have:=vt h;show(dg k).length≤10;lia
 |nam c=>exact(Nmd.w h).le
theorem kQ(m:Mk):m.tx.length≤3:=by cases m<;>decide
variable{n:Nat}
theorem Lf.sh{a:Lf}(h:a.ok)(x:2≤n):pureOf (Ph n "shown_sum") [a.pp]=some (.str (O a.tx)):=by
 obtain⟨n,rfl⟩:=eK (n:=n) (by first|assumption|lia);rw[kW,ao];cases a with
 |num k=>simp[fg,Lf.pp,l7,mu h,Lf.tx]
 |nam c=>simp[fg,Lf.pp,jQ,Lf.tx]
theorem ME{m:Mk}(h:1≤m.lw):bz m.kd [(("or":Str),P.int 1),("and",.int 2),("not",.int 3),("is",.int 4),("true",.int 4),("plus",.int 5),("minus",.int 5),("times",.int 6),("number",.int 7),("name",.int 7)]=some (.int (m.lw:Int)):=by cases m<;>first|exact absurd h (by decide)|kernel_rfl
theorem MF{m:Mk}(h:1≤m.lw)(x:m.lw≠3)(a:m.lw≠4):bz m.kd [(("or":Str),P.str "or"),("and",.str "and"),("plus",.str "+"),("minus",.str "-"),("times",.str "*")]=some (.str (O m.tx)):=by cases m<;>first|exact absurd rfl a|exact absurd rfl x|exact absurd h (by decide)|kernel_rfl
theorem Lf.fr{a:Lf}(h:a.ok)(b:3≤n){l:Nat}(f:l≤7):pureOf (Ph n "shown_from") [a.pp,.int (l:Int)]=some (.str (O a.tx)):=by
 obtain⟨n,rfl⟩:=eK (n:=n) (by first|assumption|lia);have e:=a.sh h (n:=n+1) (by lia);obtain⟨k,r,p,hk⟩:=a.sum;have s:bz k [(("or":Str),P.int 1),("and",.int 2),("not",.int 3),("is",.int 4),("true",.int 4),("plus",.int 5),("minus",.int 5),("times",.int 6),("number",.int 7),("name",.int 7)]=some (.int 7):=by
  cases a with
  |num k=>simp only[Lf.pp,l7,P.tup.injEq,kf,P.str.injEq]at p;rw[<- p.1];kernel_rfl
  |nam k=>simp only[Lf.pp,jQ,P.tup.injEq,kf,P.str.injEq]at p;rw[<- p.1];kernel_rfl
 have x:(l:Int)≤7:=by lia
 rw[p]at e ⊢;rw[jW,ao];simp[gE,s,hk,e,x]
theorem zX{m:Mk}(h:m.lw≠4)(a b:P):m.fo a b=.tup [.str m.kd,a,b]:=by simp[Mk.fo,h]
theorem MG(m:Mk):¬m.kd=("number":Str)/\¬m.kd=("name":Str)/\¬m.kd=("true":Str):=by cases m<;>decide +kernel
theorem Sm.sh{a:Sm}(h:a.ok)(p:6≤n):pureOf (Ph n "shown_sum") [a.pp]=some (.str (O a.tx)):=by
 obtain⟨n,rfl⟩:=N_ (n:=n) (by first|assumption|lia);cases a with
 |lf a=>exact a.sh h (by lia)
 |bin m a b=>
  have t:=h.1;have q:m.lw≤6:=by cases m<;>decide
  have s:=a.fr h.2.1 (n:=n+2) (by lia) (l:=m.lw) (by lia);have e:=b.fr h.2.2 (n:=n+2) (by lia) (l:=m.lw+1) (by lia);have k:=ME (m:=m) (by lia);have f:=MF (m:=m) (by lia) (by lia) (by lia);have v:=a.xl h.2.1;have d:=b.xl h.2.2;have w:=kQ m;obtain⟨c,r,_⟩:=MG m;rw[show((m.lw+1:Nat):Int)=(m.lw:Int)+1 by lia]at e;show pureOf _ [m.fo a.pp b.pp]=some (.str (O (a.tx++32::(m.tx++32::b.tx))));rw[zX (by lia),kW,ao];simp[fg,c,r];rw[jU,ao];generalize a.tx=x at *
  generalize b.tx=y at *
  generalize m.tx=z at *
  simp(disch:=lia) [gD,k,f,s,e,cj,bM,ac]
end My
namespace My
open PySem L2 Ev
variable{n:Nat}
@[simp] theorem tK(n:Nat)(x:Str):ig n (.str x)=fj x:=by cases n<;>rfl
@[simp] theorem FI(n:Nat)(x:Int):ig n (.int x)=true:=by cases n<;>rfl
@[simp] theorem FH(n:Nat)(x:List P):ig (n+1) (.tup x)=x.all (ig n):=rfl
@[simp] theorem uH(s:String):fj (Str.ofString s)=true:=by
 rw[rL];simp only[fj,su,bj,fP,gY];rintro _ ⟨c,_,rfl⟩;have:=c.valid
 unfold UInt32.isValidChar Nat.isValidChar at this;show c.val.toNat < _;lia
theorem Co{c:List Nat}(h:∀x ∈ c,x < 128):fj (O c)=true:=by simp only[fj,O,su,bj,gY];exact λx a=>by have:=h x a;lia
theorem Wrd.sk{c:List Nat}(h:Wrd c):fj (O c)=true:=Co λx a=>by have:=h.al x a;unfold m_ at this;lia
theorem Mk.sk(m:Mk):fj m.sg=true/\fj m.kd=true:=by cases m<;>exact⟨by decide +kernel,by decide +kernel⟩
theorem Lf.okp{a:Lf}(h:a.ok)(n:Nat):ig (n+1) a.pp=true:=by
 cases a with
 |num k=>simp[Lf.pp,l7]
 |nam c=>simp[Lf.pp,jQ,(Nmd.w h).sk]
theorem Sm.okp{a:Sm}(h:a.ok)(n:Nat):ig (n+2) a.pp=true:=by
 cases a with
 |lf a=>exact a.okp h (n+1)
 |bin m a b=>have x:=h.1;show ig _ (m.fo a.pp b.pp)=true;rw[zX (by lia)];simp[m.sk.2,a.okp h.2.1,b.okp h.2.2]
theorem oJ{m:Mk}{a b:Sm}(h:a.ok)(x:b.ok)(n:Nat):ig (n+3) (nj m a b)=true:=by simp[nj,m.sk.1,a.okp h,b.okp x]
theorem C.okp{c:C}(h:c.ok)(n:Nat):ig (n+4) c.pp=true:=by
 cases c with
 |is m a b=>exact oJ h.2.1 h.2.2 (n+1)
 |no m a b=>simp[C.pp,oJ h.2.1 h.2.2]
 |or m a b c=>simp[C.pp,oJ h.2.1 h.2.2.1,oJ h.2.2.2 jJ]
theorem C.ne{c:C}(h:c.ok):neD c.pp (.tup [.str "true"])=some true:=by
 have a:=c.okp h 16;have s:ig 20 (.tup [.str "true"])=true:=by simp
 obtain⟨x,y,r,e⟩:∃x y r,c.pp=.tup (x::y::r):=by cases c<;>exact⟨_,_,_,rfl⟩
 rw[e]at a ⊢;unfold neD;rw[show Ho (.tup (x::y::r)) (.tup [.str "true"])=none from rfl];simp only[a,s,yz,fM];simp only[pd,vS,eF,ut,Bool.and_false,yA]
theorem yZ:neD (.tup [.str "true"]) (.tup [.str "true"])=some false:=uS (by simp)
theorem MQ:bz ("is":Str) [(("or":Str),P.int 1),("and",.int 2),("not",.int 3),("is",.int 4),("true",.int 4),("plus",.int 5),("minus",.int 5),("times",.int 6),("number",.int 7),("name",.int 7)]=some (.int 4):=by kernel_rfl
theorem Jh:bz ("not":Str) [(("or":Str),P.int 1),("and",.int 2),("not",.int 3),("is",.int 4),("true",.int 4),("plus",.int 5),("minus",.int 5),("times",.int 6),("number",.int 7),("name",.int 7)]=some (.int 3):=by kernel_rfl
theorem MP:bz ("or":Str) [(("or":Str),P.int 1),("and",.int 2),("not",.int 3),("is",.int 4),("true",.int 4),("plus",.int 5),("minus",.int 5),("times",.int 6),("number",.int 7),("name",.int 7)]=some (.int 1):=by kernel_rfl
theorem Jg:bz ("or":Str) [(("or":Str),P.str "or"),("and",.str "and"),("plus",.str "+"),("minus",.str "-"),("times",.str "*")]=some (.str "or"):=by kernel_rfl
theorem M4(S:aP):bb (.p (.str "is")) (.p (.tup [.str "number",.str "name",.str "plus",.str "minus",.str "times"])) S=some (.bl false):=by kernel_rfl
theorem HZ:("or":Str)=O [111,114]:=E4.symm
theorem Sm.xl{a:Sm}(h:a.ok):a.tx.length≤25:=by
 cases a with
 |lf a=>have:=a.xl h;show a.tx.length≤25;lia
 |bin m a b=>have:=a.xl h.2.1;have:=b.xl h.2.2;have:=kQ m;simp only[Sm.tx,aL,ak];lia
theorem ii{m:Mk}{a b:Sm}(h:a.ok)(x:b.ok):(qe m a b).length≤55:=by have:=a.xl h;have:=b.xl x;have:=kQ m;simp only[qe,aL,ak];lia
theorem Hk{m:Mk}{a b:Sm}(h:m.lw=4)(e:a.ok)(s:b.ok)(c:8≤n):pureOf (Ph n "shown_condition") [nj m a b]=some (.str (O (qe m a b))):=by
 obtain⟨n,rfl⟩:=eK (n:=n) (by first|assumption|lia);have k:=a.sh e (n:=n+1) (by lia);have f:=b.sh s (n:=n+1) (by lia);have:=a.xl e
 have:=b.xl s;have:=kQ m
 rw[dQ,ao];simp only[nj,qe,Mk.sg];generalize a.tx=x at *
 generalize b.tx=y at *
 generalize m.tx=z at *
 simp(disch:=lia) [cK,k,f,cj,bM,ac]
theorem CU{m:Mk}{a b:Sm}(h:m.lw=4)(s:a.ok)(k:b.ok)(c:9≤n){l:Int}(f:l≤4):pureOf (Ph n "shown_from") [nj m a b,.int l]=some (.str (O (qe m a b))):=by
 obtain⟨n,rfl⟩:=eK (n:=n) (by first|assumption|lia);have e:=Hk h s k (n:=n+1) (by lia);rw[jW,ao];generalize qe m a b=x at *
 simp only[nj]at e ⊢;simp[gE,MQ,M4,e,f]
theorem C.sh{c:C}(h:c.ok)(hn:13≤n):pureOf (Ph n "shown_condition") [c.pp]=some (.str (O c.tx)):=by
 obtain⟨n,rfl⟩:=AS (n:=n) (by first|assumption|lia);cases c with
 |is m a b=>exact Hk h.1 h.2.1 h.2.2 (by lia)
 |no m a b=>
  have e:=CU h.1 h.2.1 h.2.2 (n:=n+2) (by lia) (l:=3) (by decide);have:=ii (m:=m) h.2.1 h.2.2
  rw[dQ,ao];simp only[C.pp,C.tx];generalize qe m a b=x at *
  generalize nj m a b=y at *
  simp(disch:=lia) [cK,Jh,e,tm,bM,ac]
 |or m a b c=>
  have e1:=CU h.1 h.2.1 h.2.2.1 (n:=n+1) (by lia) (l:=1) (by decide);have e2:=CU (m:=.eq) rfl h.2.2.2 jJ (n:=n+1) (by lia) (l:=2) (by decide);have:=ii (m:=m) h.2.1 h.2.2.1
  have:=ii (m:=.eq) h.2.2.2 jJ;rw[dQ,ao];simp only[C.pp,C.tx];generalize qe m a b=x at *
  generalize nj m a b=y at *
  generalize qe .eq c (.lf (.num 7))=x2 at *
  generalize nj .eq c (.lf (.num 7))=y2 at *
  simp[cK];rw[jU,ao];rw[HZ] at *
  simp(disch:=lia) [gD,<- HZ,MP,Jg,e1,e2,cj,bM,ac];simp(disch:=lia) [HZ,bM,ac]
theorem Gb(L:Lc)(S:aP):o9 (hW "plus" (vC (.str " + ")) (hW "minus" (vC (.str " - ")) (hW "times" (vC (.str " * ")) xh))) L S=some (.dct [Sum.inr "plus",Sum.inr "minus",Sum.inr "times"] [.str " + ",.str " - ",.str " * "],S):=by kernel_rfl
theorem Nd{m:Mk}(h:5≤m.lw):fE (Sum.inr m.kd) [Sum.inr ("plus":Str),Sum.inr "minus",Sum.inr "times"] [P.str " + ",.str " - ",.str " * "]=some (.str (O (32::(m.tx++[32])))):=by cases m<;>first|exact absurd h (by decide)|kernel_rfl
theorem Lf.ls{a:Lf}(h:a.ok):∃x y,a.pp=.tup [x,y]/\iI [y]=some (.str (O a.tx)):=by
 cases a with
 |num k=>exact⟨_,_,rfl,mu h⟩
 |nam c=>exact⟨_,_,rfl,rfl⟩
theorem Sm.ls{a:Sm}(h:a.ok)(hn:2≤n):pureOf (Ph n "_law_sum_text") [a.pp]=some (.str (O a.tx)):=by
 obtain⟨n,rfl⟩:=eK (n:=n) (by first|assumption|lia);cases a with
 |lf a=>obtain⟨x,y,e,q⟩:=a.ls h;show pureOf _ [a.pp]=some (.str (O a.tx));rw[e,iG,ao];simp[eX,b8,cE,q]
 |bin m a b=>
  have h5:=h.1;obtain⟨x1,y1,p1,q1⟩:=a.ls h.2.1;obtain⟨x2,y2,p2,q2⟩:=b.ls h.2.2;have:=a.xl h.2.1
  have:=b.xl h.2.2;have:=kQ m
  have k1:=Nd h5;show pureOf _ [m.fo a.pp b.pp]=some (.str (O (a.tx++32::(m.tx++32::b.tx))));rw[zX (by lia),p1,p2,iG,ao];generalize a.tx=x at *
  generalize b.tx=y at *
  generalize m.tx=z at *
  simp(disch:=(first|lia|(simp only[aL,ak,a'];lia))) [eX,b8,cE,Gb,k1,q1,q2,-bi,cy]
theorem zB{m:Mk}{a b:Sm}(ha:a.ok)(hb:b.ok)(hn:4≤n):pureOf (Ph n "_law_condition_text") [nj m a b]=some (.str (O (qe m a b))):=by
 obtain⟨n,rfl⟩:=eK (n:=n) (by first|assumption|lia);have e1:=a.ls ha (n:=n+1) (by lia);have e2:=b.ls hb (n:=n+1) (by lia);have:=a.xl ha
 have:=b.xl hb;have:=kQ m
 rw[cT,ao];simp only[nj,qe,Mk.sg];generalize a.tx=x at *
 generalize b.tx=y at *
 generalize m.tx=z at *
 simp(disch:=(first|lia|(simp only[aL,ak,a'];lia))) [bP,e1,e2,cj,-bi,cy]
theorem LP:(" or ":Str)=O [32,111,114,32]:=by decide +kernel
theorem C.ls{c:C}(h:c.ok)(hn:6≤n):pureOf (Ph n "_law_condition_text") [c.pp]=some (.str (O c.tx)):=by
 obtain⟨n,rfl⟩:=eK (n:=n) (by first|assumption|lia);cases c with
 |is m a b=>exact zB h.2.1 h.2.2 (by lia)
 |no m a b=>
  have e:=zB (m:=m) h.2.1 h.2.2 (n:=n+1) (by lia);have:=ii (m:=m) h.2.1 h.2.2
  rw[cT,ao];simp only[C.pp,C.tx];generalize qe m a b=x at *
  generalize nj m a b=y at *
  simp(disch:=(first|lia|(simp only[aL,ak,a'];lia))) [bP,e,tm,-bi,cy]
 |or m a b c=>
  have e1:=zB (m:=m) h.2.1 h.2.2.1 (n:=n+1) (by lia);have e2:=zB (m:=.eq) h.2.2.2 jJ (n:=n+1) (by lia);have:=ii (m:=m) h.2.1 h.2.2.1
  have:=ii (m:=.eq) h.2.2.2 jJ;rw[cT,ao];simp only[C.pp,C.tx];generalize qe m a b=x at *
  generalize nj m a b=y at *
  generalize qe .eq c (.lf (.num 7))=x2 at *
  generalize nj .eq c (.lf (.num 7))=y2 at *
  simp(disch:=(first|lia|(simp only[aL,ak,a'];lia))) [bP,e1,e2,LP,-bi,cy]
end My
namespace My
open PySem L2 Ev
variable{n:Nat}
theorem MK(f:F):∃k r,f.pp=.tup (.str k::r)/\(bz k [(("or":Str),P.int 1),("and",.int 2),("not",.int 3)]).getD (.int 3)=.int (f.lv:Int):=by
 cases f with
 |on d=>cases d<;>exact⟨_,_,rfl,by kernel_rfl⟩
 |no f=>exact⟨_,_,rfl,by kernel_rfl⟩
 |bn o a b=>cases o<;>exact⟨_,_,rfl,by kernel_rfl⟩
 |kn e c f=>cases e<;>exact⟨_,_,rfl,by kernel_rfl⟩
 |lt=>exact⟨_,_,rfl,by kernel_rfl⟩
 |hp h=>cases h<;>exact⟨_,_,rfl,by kernel_rfl⟩
 |mn=>exact⟨_,_,rfl,by kernel_rfl⟩
theorem mK(v l:Nat)(x:List Nat):(sN v l x).length≤x.length+2:=by unfold sN;split<;>simp<;>lia
theorem pG{f:F}{l:Nat}(s:f.tx.length≤3000)(e:pureOf (Ph (n+1) "shown_fact") [f.pp]=some (.str (O f.tx))):pureOf (Ph (n+2) "shown_from_level") [f.pp,.int (l:Int)]=some (.str (O (sN f.lv l f.tx))):=by
 obtain⟨k,r,p,lk⟩:=MK f;rw[p]at e ⊢;rw[jV,ao];unfold sN;generalize f.tx=x at *
 by_cases h:f.lv < l
 .have a:(f.lv:Int) < (l:Int):=by lia
  rw[ac h];simp(disch:=lia) [dt,e,lk,h,a,G3,qH,bM,ac]
 .have a:¬(f.lv:Int) < (l:Int):=by lia
  rw[ae h];simp[dt,e,lk,h,a]
def TD(k:Str)(b:Bool):Prop:=∀S,bb (.p (.str k)) (.p (.tup [.str "true",.str "dry"])) S=some (.bl b)
def KN(k:Str)(b:Bool):Prop:=∀S,bb (.p (.str k)) (.p (.tup [.str "some knows",.str "each knows"])) S=some (.bl b)
theorem Ms(d:Bool):pureOf (Ph (n+2) "shown_fact") [(F.on d).pp]=some (.str (O (F.on d).tx)):=by
 have h:TD (G_ d) true:=by cases d<;>exact λS=>by kernel_rfl
 unfold TD at h;rw[cN,ao];simp[b0,F.pp,F.tx,h,eG]
theorem Mz{f:F}(s:f.tx.length≤3000)(e:pureOf (Ph (n+1) "shown_fact") [f.pp]=some (.str (O f.tx))):pureOf (Ph (n+3) "shown_fact") [(F.no f).pp]=some (.str (O (F.no f).tx)):=by
 have a:TD "not" false:=λS=>by kernel_rfl
 unfold TD at a;have h:=pG (l:=3) s e;have:=mK f.lv 3 f.tx
 have w:wk "not"=[110,111,116]:=by decide +kernel
 simp at h;rw[cN,ao];simp only[F.pp,F.tx,w];generalize sN f.lv 3 f.tx=x at *
 simp(disch:=lia) [b0,a,h,tm,bM,ac]
theorem Ny{o:Bool}{a b:F}(r:a.tx.length≤3000)(t:b.tx.length≤3000)(s:pureOf (Ph (n+1) "shown_fact") [a.pp]=some (.str (O a.tx)))(f:pureOf (Ph (n+1) "shown_fact") [b.pp]=some (.str (O b.tx))) :
  pureOf (Ph (n+3) "shown_fact") [(F.bn o a b).pp]=some (.str (O (F.bn o a b).tx)):=by
 have h:TD (lB o) false:=by cases o<;>exact λS=>by kernel_rfl
 have e:=DG o;have c:¬lB o=("not":Str):=by cases o<;>decide +kernel
 have m:=Hu o;unfold TD at h;unfold AO at e;have q1:=pG (l:=(Fm.bn o).lw) r s;have q2:=pG (l:=(Fm.bn o).lw+1) t f;have:=mK a.lv (Fm.bn o).lw a.tx
 have:=mK b.lv ((Fm.bn o).lw+1) b.tx;have w:=eG (lB o);have p:=(vl o).w.le;rw[show(((Fm.bn o).lw+1:Nat):Int)=((Fm.bn o).lw:Int)+1 by lia]at q2;rw[cN,ao];simp only[F.pp,F.tx];generalize sN a.lv (Fm.bn o).lw a.tx=x at *
 generalize sN b.lv ((Fm.bn o).lw+1) b.tx=y at *
 generalize wk (lB o)=z at *
 generalize lB o=k at *
 subst w;simp(disch:=lia) [b0,h,e,c,m,q1,q2,cj,bM,ac]
@[simp] theorem Lk(a b:EV)(L:Lc)(S:aP):yX a b L S=bA (a L S) λx h=>bA (b L h) λy e=>match x with
 | .str z=>match y with
  | .str w=>if (eO z.length && !(w.length == 0))=true then some (.tup [.str (Txt.partition z w).1,.str (Txt.partition z w).2.1,.str (Txt.partition z w).2.2],e) else none
  |_=>none
 |_=>none:=rfl
theorem LU:(" knows [":Str)=O (32::(wk "knows"++[32,91])):=by decide +kernel
theorem MV{b:Bool}{c:List Nat}{f:F}(p:Nmd c)(d:f.tx.length≤3000)(e:pureOf (Ph (n+1) "shown_fact") [f.pp]=some (.str (O f.tx))):pureOf (Ph (n+2) "shown_fact") [(F.kn b c f).pp]=some (.str (O (F.kn b c f).tx)):=by
 have h:TD (qd b) false:=by cases b<;>exact λS=>by kernel_rfl
 have a:AO (qd b) false:=by cases b<;>exact λS=>by kernel_rfl
 have s:KN (qd b) true:=by cases b<;>exact λS=>by kernel_rfl
 have m:¬qd b=("not":Str):=by cases b<;>decide +kernel
 have k:(Txt.partition (qd b) " ").1=DW b:=by cases b<;>decide +kernel
 have r:(qd b).length≤1000000:=by cases b<;>decide +kernel
 have t:¬((" ":Str)).length=0:=by decide +kernel
 unfold TD at h;unfold AO at a;unfold KN at s;have w:=eG (DW b);have g:=(vk b).w.le;have l:=p.w.le;have u:=vi.w.le;have v:=LU;rw[cN,ao];simp only[F.pp,F.tx];generalize f.tx=x at *
 generalize wk (DW b)=z at *
 generalize wk "knows"=q at *
 rw[<- w]at k;simp(disch:=lia) [b0,h,a,s,m,k,r,t,e];simp(disch:=lia) [v,cj,qH,bM,ac]
theorem LI(a b c d e f:P):pV (.tup [a,b,c,d,e,f]) (some 1) none=some (.tup [b,c,d,e,f]):=by kernel_rfl
theorem Pr(a b c d:P)(r:List P)(h:r.length≤2):pV (.tup (a::b::c::d::r)) none (some 4)=some (.tup [a,b,c,d]):=by
 match r,h with
 | [],_=>kernel_rfl
 | [x],_=>kernel_rfl
 | [x,y],_=>kernel_rfl
theorem LJ(a b c d e f:P):pV (.tup [a,b,c,d,e,f]) (some 4) none=some (.tup [e,f]):=by kernel_rfl
theorem ql{c:List Nat}(h:c≠[]):¬O c=("":Str):=λe=>h (EM (b:=[]) (e.trans (by decide +kernel)))
theorem HN:O []=("":Str):=by decide +kernel
theorem LQ:("letters ":Str)=O (wk "letters"++[32]):=by decide +kernel
theorem LN:(" to ":Str)=O (32::(wk "to"++[32])):=by decide +kernel
theorem G5:(" at ":Str)=O (32::(wk "at"++[32])):=by decide +kernel
theorem G1:(" when [":Str)=O (32::(bW++[32,91])):=by decide +kernel
theorem nE:(O []=("":Str))=True:=eq_true HN
theorem G4:("":Str)=O []:=HN.symm
theorem Hn{k:Nat}(h:k < 1000):k.log2 < 1920/\Str.ofString (Int.repr (k:Int))=O (dg k):=by
 refine⟨?_,wL k⟩;by_cases x:k=0
 .subst x;decide
 .exact be ((og x).mpr (show k < 2 ^ 60 by lia)) (by decide)
theorem MI{m:List Nat}(x:m=[]\/Nmd m){L:Lc}{S:aP}(h:L[3]? = some (some (.p (.str (O m))))):qA (bV (aI lA (U 3) (Y (vC (.str ""))))) (dH [(vC (.str " ")),(c8 (vE (U 3)))]) (vC (.str "")) L S=some (.str (O (Ap m)),S):=by
 rcases x with rfl|x
 .simp [h,nE];exact G4
 .have:=x.w.le;have n:=ql x.w.ne;rw[show Ap m=32::m from ae x.w.ne];simp(disch:=lia) [h,n,cj,bM,ac]
theorem MM{a b m:List Nat}{g:Mk}{k:Nat}(h:(F.lt a b m g k).ok):pureOf (Ph (n+3) "shown_fact") [(F.lt a b m g k).pp]=some (.str (O (F.lt a b m g k).tx)):=by
 obtain⟨v,d,c,i,hk⟩:=h;have x:TD "letters" false:=λS=>by kernel_rfl
 have s:AO "letters" false:=λS=>by kernel_rfl
 have f:KN "letters" false:=λS=>by kernel_rfl
 unfold TD at x;unfold AO at s;unfold KN at f;have H:=v.w.le;have K:=d.w.le;have P:=kQ g;have lk:=vt hk;have l:=LI (.str "letters") (.str (O a)) (.str (O b)) (.str (O m)) (.str (O g.tx)) (.int (k:Int));obtain⟨t,p⟩:=Hn hk;have e:pureOf (Ph (n+2) "shown_letters") [(F.lt a b m g k).pp]=some (.str (O (F.lt a b m g k).tx)):=by
  rw[mf,ao];have w:=LQ;have u:=LN;have j:=qU.w.le;have o:=qT.w.le;simp only[F.pp,F.tx,AU,Mk.sg];generalize wk "letters"=q1 at *
  generalize wk "to"=q2 at *
  have r:=λL S (h:L[3]? = some (some (.p (.str (O m)))))=>MI c (L:=L) (S:=S) h;have A:(Ap m).length≤11:=by
   unfold Ap;split
   .simp
   .rename_i q;have:=(c.resolve_left q).w.le;simp;lia
  generalize Ap m=B at *
  generalize dg k=z at *
  generalize g.tx=y at *
  simp[hY,l,-qA,r];simp(disch:=lia) [w,u,cj,t,p,bM,ac]
 rw[cN,ao];simp only[F.pp]at e ⊢;simp[b0,x,s,f,e]
end My
namespace My
open PySem L2 Ev
variable{n:Nat}
theorem BV{r:List Nat}(h:r=[]\/Nmd r):(oA r).length≤30:=by
 unfold oA;split
 .simp
 .rename_i q;have:=(h.resolve_left q).w.le;have:=qV.w.le;simp;lia
theorem C.xl{c:C}(h:c.ok):c.tx.length≤150:=by
 cases c with
 |is m a b=>have:=ii (m:=m) h.2.1 h.2.2;show(qe m a b).length≤150;lia
 |no m a b=>have:=ii (m:=m) h.2.1 h.2.2;simp only[C.tx,aL,ak,a'];lia
 |or m a b c=>have:=ii (m:=m) h.2.1 h.2.2.1;have:=ii (m:=.eq) h.2.2.2 jJ;simp only[C.tx,aL,ak,a'];lia
theorem Dq{c:Option C}(h:DN c):(qf c).length≤200:=by
 cases c with
 |none=>simp[qf]
 |some c=>have:=C.xl h;have:=jI.le;simp only[qf,aL,ak,a'];lia
variable{q0 q1 q2 q3 q4 q6 q7 q8:Option D}{S:aP}
theorem bG{f g:ES}{L x:Lc}{S a:aP}(h:f L S=some (.nx,x,a)):ah f g L S=g x a:=by simp[h]
theorem tf{c:EB}{f g:ES}{L:Lc}{S x:aP}(h:c L S=some (true,x)):bI c f g L S=f L x:=by simp[h]
theorem J_{L:Lc}{i:Nat}{x y:List Nat}{v:EV}(h:L[i]? = some (some (.p (.str (O x)))))(a:v L S=some (.str (O y),S))(l:x.length+y.length≤1000000):jn i v L S=some (.nx,L.set i (some (.p (.str (O (x++y))))),S):=by rw[BQ,h];show bA (v L S) _=_;rw[a,p9];show(if eO ((O x).length+(O y).length)=true then _ else _)=_;rw[ac (by rw[cS,cS,mq];exact l),bM]
theorem LY{r x:List Nat}(hr:r=[]\/Nmd r)(hx:x.length≤1000):(bI (bV (aI lA (U 3) (Y (vC (.str ""))))) (jn 5 (dH [(vC (.str " at ")),(c8 (vE (U 3)))])) cM) [q0,q1,q2,some (.p (.str (O r))),q4,some (.p (.str (O x))),q6,q7,q8] S
  = some (.nx,[q0,q1,q2,some (.p (.str (O r))),q4,some (.p (.str (O (x++oA r)))),q6,q7,q8],S):=by
 rcases hr with rfl|hr
 .simp [nE,oA]
 .have:=hr.w.le;have:=qV.w.le
  have n1:=ql hr.w.ne;have s1:=G5;rw[show oA r=32::(wk "at"++32::r) from ae hr.w.ne];generalize wk "at"=q at *
  rw[tf (x:=S) (by simp[n1]),J_ (x:=x) (y:=32::(q++32::r)) rfl (by simp(disch:=lia) [s1,bM,ac]) (by (first|lia|(simp only[aL,ak,a'];lia)))];rfl
def Oq(c:Option C)(q:Option D):Option D:=match c with
 |none=>q
 |some c=>some (.p (.str (O c.tx)))
theorem Np {c:Option C}{x:List Nat} (hc:DN c) (hn:13≤n) (hx:x.length≤1000):(bI (bV (aI lA (U 4) (Y (aY (ab (vC (.str "true")) af))))) (ah (aO 6 (Y (au (pureOf (Ph n "shown_condition")) (ab (vE (U 4)) af))))
  (jn 5 (dH [(vC (.str " when [")),(c8 (vE (U 6))),(vC (.str "]"))]))) cM) [q0,q1,q2,q3,some (.p (cP c)),some (.p (.str (O x))),q6,q7,q8] S
  = some (.nx,[q0,q1,q2,q3,some (.p (cP c)),some (.p (.str (O (x++qf c)))),Oq c q6,q7,q8],S):=by
 cases c with
 |none=>have:=yZ;simp[cP,this,qf,Oq]
 |some c=>
  have h1:=C.ne hc;have h2:=C.sh hc hn;have:=C.xl hc
  have:=jI.le;have s1:=G1;simp only[cP,qf,Oq];generalize c.pp=p at *
  generalize c.tx=y at *
  generalize bW=q at *
  rw[tf (x:=S) (by simp[h1]),bG (x:=[q0,q1,q2,q3,some (.p p),some (.p (.str (O x))),some (.p (.str (O y))),q7,q8]) (a:=S) (by simp[h2]),J_ (x:=x) (y:=32::(q++32::91::(y++[93]))) rfl (by simp(disch:=lia) [s1,qH,bM,ac]) (by (first|lia|(simp only[aL,ak,a'];lia)))];rfl
theorem NG{k:Str}{am:List P}{ax x:List Nat}(ha:(¬k="many"/\am=[]/\ax=[])\/∃g u,k="many"/\u < 1000/\am=[.str (O (Mk.tx g)),.int ((u:Nat):Int)]/\ax=AU g u)(hx:x.length≤1000){a b c d:P} :
  ∃q7' q8',(bI (bV (aI eB (U 1) (Y (vC (.str "many"))))) (ah (tt (iF [cF 7,cF 8]) (jv (vE (U 0)) (b9 (vC (.int 4))) jN))
  (jn 5 (dH [(vC (.str " ")),(c8 (vE (U 7))),(vC (.str " ")),(c8 (vE (U 8)))]))) cM) [some (.p (.tup (a::b::c::d::am))),some (.p (.str k)),q2,q3,q4,some (.p (.str (O x))),q6,none,none] S
  = some (.nx,[some (.p (.tup (a::b::c::d::am))),some (.p (.str k)),q2,q3,q4,some (.p (.str (O (x++ax)))),q6,q7',q8'],S):=by
 rcases ha with ⟨h1,rfl,rfl⟩|⟨g,u,rfl,hu,rfl,rfl⟩
 .exact⟨none,none,by simp[h1]⟩
 .have lg:=kQ g;have ld:=vt hu;obtain⟨f1,f2⟩:=Hn hu;have s4:=LJ a b c d (.str (O g.tx)) (.int (u:Int));refine⟨some (.p (.str (O g.tx))),some (.p (.int (u:Int))),?_⟩;simp only[AU];generalize g.tx=y at *
  generalize dg u=z at *
  rw[tf (x:=S) (by simp)];rw[bG (x:=[some (.p (.tup [a,b,c,d,.str (O y),.int (u:Int)])),some (.p (.str "many")),q2,q3,q4,some (.p (.str (O x))),q6,some (.p (.str (O y))),some (.p (.int (u:Int)))]) (a:=S) (by simp[s4])];rw[J_ (x:=x) (y:=32::(y++32::z)) rfl (by simp(disch:=lia) [f1,f2,cj,bM,ac]) (by (first|lia|(simp only[aL,ak,a'];lia)))];rfl
theorem zF{f r:List Nat}{c:Option C}{k:Str}(hf:Nmd f)(hr:r=[]\/Nmd r)(hc:DN c)(hn:13≤n)(hk:(wk k).length≤10){am:List P}{ax:List Nat}(ha:(¬k="many"/\am=[]/\ax=[])\/∃g u,k="many"/\u < 1000/\am=[.str (O (Mk.tx g)),.int ((u:Nat):Int)]/\ax=AU g u) :
  pureOf (Ph (n+1) "shown_hand_part") [.tup (.str k::.str (O f)::.str (O r)::cP c::am)]=some (.str (O (wk k++32::(f++(oA r++(qf c++ax)))))):=by
 obtain⟨n,rfl⟩:=Oa (n:=n) (by first|assumption|lia);have sl:=Pr (.str k) (.str (O f)) (.str (O r)) (cP c) am (by rcases ha with ⟨_,rfl,_⟩|⟨_,_,_,_,rfl,_⟩<;>simp);have hw:=eG k;have:=hf.w.le
 have lr:=BV hr;have lc:=Dq hc;have e1:=λ{q0 q1 q2 q4 q6 q7 q8:Option D}(x:List Nat) h=>LY (q0:=q0) (q1:=q1) (q2:=q2) (q4:=q4) (q6:=q6) (q7:=q7) (q8:=q8) (S:=[]) (x:=x) hr h;have e2:=λ{q0 q1 q2 q3 q6 q7 q8:Option D}(x:List Nat) h=>Np (q0:=q0) (q1:=q1) (q2:=q2) (q3:=q3) (q6:=q6) (q7:=q7) (q8:=q8) (S:=[]) (x:=x) (n:=n+1) hc hn h;have b:∃L',dU (Ph (n+1)) [some (.p (.tup (.str k::.str (O f)::.str (O r)::cP c::am))),none,none,none,none,none,none,none,none] []=some (.rt (.p (.str (O (wk k++32::(f++(oA r++(qf c++ax))))))),L',[]):=by
  unfold dU;rw [bG (x:=[some (.p (.tup (.str k::.str (O f)::.str (O r)::cP c::am))),some (.p (.str k)),some (.p (.str (O f))),some (.p (.str (O r))),some (.p (cP c)),none,none,none,none]) (a:=[]) (by simp [sl])];rw [bG (x:=[some (.p (.tup (.str k::.str (O f)::.str (O r)::cP c::am))),some (.p (.str k)),some (.p (.str (O f))),some (.p (.str (O r))),some (.p (cP c)),some (.p (.str (O (wk k++32::f)))),none,none,none]) (a:=[]) (by
   generalize wk k=z at *
   subst hw;simp(disch:=lia) [cj,bM,ac])]
  rw[bG (e1 _ (by (first|lia|(simp only[aL,ak,a'];lia)))),bG (e2 _ (by (first|lia|(simp only[aL,ak,a'];lia))))];obtain⟨q7,q8,e3⟩:=NG (a:=.str k) (b:=.str (O f)) (c:=.str (O r)) (d:=cP c) (x:=wk k++32::f++oA r++qf c) (q2:=some (.p (.str (O f)))) (q3:=some (.p (.str (O r)))) (q4:=some (.p (cP c))) (q6:=Oq c none) (S:=[]) ha (by (first|lia|(simp only[aL,ak,a'];lia)));rw[bG e3];exact⟨_,by simp;rfl⟩
 obtain⟨L',b⟩:=b;rw[kD,ao];simp[b]
end My
namespace My
open PySem L2 Ev
variable{n:Nat}
theorem qS{k:Str}{r:List P}{x:List Nat}(hk:k="some"\/k="all"\/k="many")(e:pureOf (Ph (n+1) "shown_hand_part") [.tup (.str k::r)]=some (.str (O x))):pureOf (Ph (n+2) "shown_fact") [.tup (.str k::r)]=some (.str (O x)):=by
 have h:TD k false/\AO k false/\KN k false/\¬k=("not":Str)/\¬k=("letters":Str):=by rcases hk with rfl|rfl|rfl<;>exact⟨λS=>by kernel_rfl,λS=>by kernel_rfl,λS=>by kernel_rfl,by decide +kernel,by decide +kernel⟩
 obtain⟨a,s,f,b,c⟩:=h;unfold TD at a;unfold AO at s;unfold KN at f;rw[cN,ao];simp[b0,a,s,f,b,c,e]
theorem F.sh:∀(f:F),f.ok->f.dep≤3->∀n,17+3 * f.dep≤n->pureOf (Ph n "shown_fact") [f.pp]=some (.str (O f.tx))
 | .on d,_,_,n,s=>by obtain⟨n,rfl⟩:=eK (n:=n) (by first|assumption|lia);exact Ms d
 | .no f,x,t,n,s=>by simp only[F.dep]at t s;obtain⟨n,rfl⟩:=AS (n:=n) (by first|assumption|lia);exact Mz (F.xl (f:=f) x (by lia)) (F.sh f x (by lia) (n+1) (by lia))
 | .bn o a b,x,t,n,s=>by
  simp only[F.dep]at t s;have:=sd a.dep b.dep
  have:=se a.dep b.dep;obtain⟨n,rfl⟩:=AS (n:=n) (by first|assumption|lia);exact Ny (F.xl x.1 (by lia)) (F.xl x.2 (by lia)) (F.sh a x.1 (by lia) (n+1) (by lia)) (F.sh b x.2 (by lia) (n+1) (by lia))
 | .kn e c f,x,t,n,s=>by simp only[F.dep]at t s;obtain⟨n,rfl⟩:=eK (n:=n) (by first|assumption|lia);exact MV x.1 (F.xl x.2 (by lia)) (F.sh f x.2 (by lia) (n+1) (by lia))
 | .lt a b m g k,x,_,n,s=>by obtain⟨n,rfl⟩:=AS (n:=n) (by first|assumption|lia);exact MM x
 | .hp h f r c,x,_,n,s=>by
  obtain⟨n,rfl⟩:=eK (n:=n) (by first|assumption|lia);refine qS (by cases h<;>simp[xa]) ?_;have:=zF (n:=n) (k:=xa h) (am:=[]) (ax:=[]) x.1 x.2.1 x.2.2 (by lia) (vj h).w.le (.inl ⟨by cases h<;>decide +kernel,rfl,rfl⟩)
  rw[cg]at this;exact this
 | .mn f r c g k,x,_,n,s=>by obtain⟨n,rfl⟩:=eK (n:=n) (by first|assumption|lia);exact qS (.inr (.inr rfl)) (zF (n:=n) (k:="many") x.1 x.2.1 x.2.2.1 (by lia) vh.w.le (.inr ⟨g,k,rfl,x.2.2.2.2,rfl,rfl⟩))
theorem ue(L:Lc)(S:aP):o9 (hW "or" (vC (.int 1)) (hW "and" (vC (.int 2)) xh)) L S=some (.dct [Sum.inr "or",Sum.inr "and"] [.int 1,.int 2],S):=by kernel_rfl
theorem ML(f:F):∃k r,f.pp=.tup (.str k::r)/\(fE (Sum.inr k) [Sum.inr ("or":Str),Sum.inr "and"] [P.int 1,.int 2]).getD (.int 3)=.int (f.lv:Int):=by
 cases f with
 |on d=>cases d<;>exact⟨_,_,rfl,by kernel_rfl⟩
 |no f=>exact⟨_,_,rfl,by kernel_rfl⟩
 |bn o a b=>cases o<;>exact⟨_,_,rfl,by kernel_rfl⟩
 |kn e c f=>cases e<;>exact⟨_,_,rfl,by kernel_rfl⟩
 |lt=>exact⟨_,_,rfl,by kernel_rfl⟩
 |hp h=>cases h<;>exact⟨_,_,rfl,by kernel_rfl⟩
 |mn=>exact⟨_,_,rfl,by kernel_rfl⟩
theorem mM{f:F}{l:Nat}(hx:f.tx.length≤3000)(e:pureOf (Ph (n+1) "_law_text") [f.pp]=some (.str (O f.tx))):pureOf (Ph (n+2) "_law_within") [f.pp,.int (l:Int)]=some (.str (O (sN f.lv l f.tx))):=by
 obtain⟨k,r,ep,lk⟩:=ML f;rw[ep]at e ⊢;rw[pQ,ao];unfold sN;generalize f.tx=x at *
 by_cases h:f.lv < l
 .have h':(f.lv:Int) < (l:Int):=by lia
  rw[ac h];simp(disch:=(first|lia|(simp only[aL,ak,a'];lia))) [gI,e,ue,kT,lk,h,h',G3,qH,-bi,cy]
 .have h':¬(f.lv:Int) < (l:Int):=by lia
  rw[ae h];simp[gI,e,ue,kT,lk,h,h']
theorem Mu(d:Bool):pureOf (Ph (n+2) "_law_text") [(F.on d).pp]=some (.str (O (F.on d).tx)):=by rw[dE,ao];simp[bO,F.pp,F.tx,b8,cE,eG]
theorem MA{f:F}(hx:f.tx.length≤3000)(e:pureOf (Ph (n+1) "_law_text") [f.pp]=some (.str (O f.tx))):pureOf (Ph (n+3) "_law_text") [(F.no f).pp]=some (.str (O (F.no f).tx)):=by
 have e2:=mM (l:=3) hx e;have:=mK f.lv 3 f.tx
 have w:wk "not"=[110,111,116]:=by decide +kernel
 simp at e2;rw[dE,ao];simp only[F.pp,F.tx,w];generalize sN f.lv 3 f.tx=x at *
 simp(disch:=(first|lia|(simp only[aL,ak,a'];lia))) [bO,b8,cE,e2,tm,-bi,cy]
theorem Nz{o:Bool}{a b:F}(ha:a.tx.length≤3000)(hb:b.tx.length≤3000)(e1:pureOf (Ph (n+1) "_law_text") [a.pp]=some (.str (O a.tx)))(e2:pureOf (Ph (n+1) "_law_text") [b.pp]=some (.str (O b.tx))) :
  pureOf (Ph (n+3) "_law_text") [(F.bn o a b).pp]=some (.str (O (F.bn o a b).tx)):=by
 have h2:=DG o;have h3:¬lB o=("not":Str):=by cases o<;>decide +kernel
 have h4:fE (Sum.inr (lB o)) [Sum.inr ("or":Str),Sum.inr "and"] [P.int 1,.int 2]=some (.int ((Fm.bn o).lw:Int)):=by cases o<;>kernel_rfl
 unfold AO at h2;have q1:=mM (l:=(Fm.bn o).lw) ha e1;have q2:=mM (l:=(Fm.bn o).lw+1) hb e2;have:=mK a.lv (Fm.bn o).lw a.tx
 have:=mK b.lv ((Fm.bn o).lw+1) b.tx;have w:=eG (lB o);have wl:=(vl o).w.le;rw[show(((Fm.bn o).lw+1:Nat):Int)=((Fm.bn o).lw:Int)+1 by lia]at q2;rw[dE,ao];simp only[F.pp,F.tx];generalize sN a.lv (Fm.bn o).lw a.tx=x at *
 generalize sN b.lv ((Fm.bn o).lw+1) b.tx=y at *
 generalize wk (lB o)=z at *
 generalize lB o=k at *
 subst w;simp(disch:=(first|lia|(simp only[aL,ak,a'];lia))) [bO,b8,cE,h2,h3,h4,ue,q1,q2,cj,-bi,cy]
theorem MW{b:Bool}{c:List Nat}{f:F}(hc:Nmd c)(hx:f.tx.length≤3000)(e:pureOf (Ph (n+1) "_law_text") [f.pp]=some (.str (O f.tx))):pureOf (Ph (n+2) "_law_text") [(F.kn b c f).pp]=some (.str (O (F.kn b c f).tx)):=by
 have h2:AO (qd b) false:=by cases b<;>exact λS=>by kernel_rfl
 have h4:¬qd b=("not":Str):=by cases b<;>decide +kernel
 have h5:pV (.str (qd b)) none (some 4)=some (.str (DW b)):=by cases b<;>kernel_rfl
 unfold AO at h2;have w:=eG (DW b);have wl:=(vk b).w.le;have cl:=hc.w.le;have kl:=vi.w.le;have kb:=LU;rw[dE,ao];simp only[F.pp,F.tx];generalize f.tx=x at *
 generalize wk (DW b)=z at *
 generalize wk "knows"=q at *
 rw[<- w]at h5;simp(disch:=(first|lia|(simp only[aL,ak,a'];lia))) [bO,b8,cE,h2,h4,h5,e,kb,cj,qH,-bi,cy]
end My
namespace My
open PySem L2 Ev
variable{n:Nat}
@[simp] theorem Kn(a b:EV)(L:Lc)(S:aP):sP a b L S=bA (a L S) λx h=>bA (b L h) λy e=>match x with
 | .str s=>match y with
  | .lst d=>(GQ d).bind λt=>if GG s t=true then some (.str (Txt.join s t),e) else none
  |_=>none
 |_=>none:=rfl
theorem CC{q0 q1 q2 q3 q4 q:Option D}{S:aP}{a b m y z l t:List Nat}(n:l≠[])(k:t≠[])(h:a≠[])(s:b≠[])(f:y≠[])(c:z≠[]):iz (cF 5) (bV (aI lA (U 5) (Y (vC (.str ""))))) (vE (U 5)) [.str (O l),.str (O a),.str (O t),.str (O b),.str (O m),.str (O y),.str (O z)] [q0,q1,q2,q3,q4,q] S
  = some ((if m=[] then [l,a,t,b,y,z] else [l,a,t,b,m,y,z]).map (λx=>P.str (O x)),S):=by
 have:=ql n;have:=ql k
 have:=ql h;have:=ql s
 have:=ql f;have:=ql c
 by_cases e:m=[]
 .subst e;simp[*,iz,nE]
 .have:=ql e;simp[*,iz]
theorem CK(s:List (List Nat)):(GQ (s.map λx=>P.str (O x))).bind (λt=>if GG (O [32]) t=true then some (P.str (Txt.join (O [32]) t),([]:aP)) else none)=if GG (O [32]) (s.map O)=true then some (P.str (Txt.join (O [32]) (s.map O)),[]) else none:=by
 have:GQ (s.map λx=>P.str (O x))=some (s.map O):=by
  induction s with
  |nil=>rfl
  |cons a r i=>simp[GQ,i]
 rw[this];rfl
theorem M3{a b c d e f:List Nat}(h:a.length+b.length+c.length+d.length+e.length+f.length≤1000):(if GG (O [32]) ([a,b,c,d,e,f].map O)=true then some (P.str (Txt.join (O [32]) ([a,b,c,d,e,f].map O)),([]:aP)) else none)=some (.str (O (a++32::(b++32::(c++32::(d++32::(e++32::f)))))),[]):=by
 have j:GG (O [32]) ([a,b,c,d,e,f].map O)=true:=by simp[wa,Builtin.Str.tooLong,sizeLine];lia
 rw[ac j];congr 2;show P.str (xM _ _)=_;rw[rH];simp[Str.join,bM]
theorem M0{a b c d e f g:List Nat}(h:a.length+b.length+c.length+d.length+e.length+f.length+g.length≤1000):(if GG (O [32]) ([a,b,c,d,e,f,g].map O)=true then some (P.str (Txt.join (O [32]) ([a,b,c,d,e,f,g].map O)),([]:aP)) else none)=some (.str (O (a++32::(b++32::(c++32::(d++32::(e++32::(f++32::g))))))),[]):=by
 have j:GG (O [32]) ([a,b,c,d,e,f,g].map O)=true:=by simp[wa,Builtin.Str.tooLong,sizeLine];lia
 rw[ac j];congr 2;show P.str (xM _ _)=_;rw[rH];simp[Str.join,bM]
@[simp] theorem NE{h:Type}(a b c d x:h)(s:List h):L2.atI (a::b::c::d::x::s) 4=some x:=dZ (by lia) rfl
@[simp] theorem NF{h:Type}(a b c d e x:h)(s:List h):L2.atI (a::b::c::d::e::x::s) 5=some x:=dZ (by lia) rfl
theorem MD(m:Mk):m.tx≠[]:=by cases m<;>exact λz=>nomatch z
theorem MO{a b m:List Nat}{g:Mk}{k:Nat}(h:(F.lt a b m g k).ok):pureOf (Ph (n+2) "_law_text") [(F.lt a b m g k).pp]=some (.str (O (F.lt a b m g k).tx)):=by
 obtain⟨s,f,r,d,hk⟩:=h;have x:AO "letters" false:=λS=>by kernel_rfl
 unfold AO at x;have i:=s.w.le;have j:=f.w.le;have o:=kQ g;have lk:=vt hk;have l:=qU.w.le;have u:=qT.w.le;have c:=mu hk;have w:=λ{q0 q1 q2 q3 q4 q:Option D}=>CC (S:=[]) (q0:=q0) (q1:=q1) (q2:=q2) (q3:=q3) (q4:=q4) (q:=q) (m:=m) qU.w.ne qT.w.ne s.w.ne f.w.ne (MD g) (jO hk).ne
 have t:=eG "letters";have p:=eG "to";have v:∃L,bO (Ph (n+1)) [some (.p (F.lt a b m g k).pp),none,none,none,none] []=some (.rt (.p (.str (O (F.lt a b m g k).tx))),L,[]):=by
  unfold bO;simp only[F.pp,F.tx,AU,Mk.sg];generalize wk "letters"=K at *
  generalize wk "to"=P at *
  generalize dg k=z at *
  generalize g.tx=y at *
  rw[bG (x:=[some (.p (.tup [.str "letters",.str (O a),.str (O b),.str (O m),.str (O y),.int (k:Int)])),some (.p (.str "letters")),none,none,none]) (a:=[]) (by simp)];rw[bG (x:=[some (.p (.tup [.str "letters",.str (O a),.str (O b),.str (O m),.str (O y),.int (k:Int)])),some (.p (.str "letters")),none,none,none]) (a:=[]) (by simp[b8,cE])];rw[bG (x:=[some (.p (.tup [.str "letters",.str (O a),.str (O b),.str (O m),.str (O y),.int (k:Int)])),some (.p (.str "letters")),none,none,none]) (a:=[]) (by simp)];rw[bG (x:=[some (.p (.tup [.str "letters",.str (O a),.str (O b),.str (O m),.str (O y),.int (k:Int)])),some (.p (.str "letters")),none,none,none]) (a:=[]) (by simp[x])];rw[bG (x:=[some (.p (.tup [.str "letters",.str (O a),.str (O b),.str (O m),.str (O y),.int (k:Int)])),some (.p (.str "letters")),none,none,none]) (a:=[]) (by simp[b8,cE])];simp only[t,p]at w;simp[c,qB,wD,few,w];rw[cj];by_cases e:m=[]
  .subst e;rw[ac rfl,CK,M3 (by lia)];simp[Ap]
  .have H:=(r.resolve_left e).w.le;rw[ae e,CK,M0 (by lia)];simp[Ap,e]
 obtain⟨L,v⟩:=v;rw[dE,ao];simp[v]
end My
namespace My
open PySem L2 Ev
variable{n:Nat}
theorem zH{f r:List Nat}{c:Option C}{k:Str}(hf:Nmd f)(hr:r=[]\/Nmd r)(hc:DN c)(hn:6≤n)(hk:k="some"\/k="all"\/k="many")(hw:(wk k).length≤10){am:List P}{ax:List Nat}(ha:(¬k="many"/\am=[]/\ax=[])\/∃g u,k="many"/\u < 1000/\am=[.str (O (Mk.tx g)),.int ((u:Nat):Int)]/\ax=AU g u) :
  pureOf (Ph (n+1) "_law_text") [.tup (.str k::.str (O f)::.str (O r)::cP c::am)]=some (.str (O (wk k++32::(f++(oA r++(qf c++ax)))))):=by
 obtain⟨n,rfl⟩:=Oa (n:=n) (by first|assumption|lia);have h:AO k false/\¬k=("not":Str)/\¬k=("letters":Str):=by rcases hk with rfl|rfl|rfl<;>exact⟨λS=>by kernel_rfl,by decide +kernel,by decide +kernel⟩
 obtain⟨h1,h2,h3⟩:=h;unfold AO at h1;have kw:=eG k;have lf:=hf.w.le;have lr:=BV hr;have lc:=Dq hc;have hl:am.length=0\/am.length=2:=by rcases ha with ⟨_,rfl,_⟩|⟨_,_,_,_,rfl,_⟩<;>simp
 have hl4:am.length≤999990:=by lia
 have b:∃L',bO (Ph (n+1)) [some (.p (.tup (.str k::.str (O f)::.str (O r)::cP c::am))),none,none,none,none] []=some (.rt (.p (.str (O (wk k++32::(f++(oA r++(qf c++ax))))))),L',[]):=by
  unfold bO;generalize wk k=z at *
  have st:∀{f g:ES}{L L1:Lc},f L []=some (.nx,L1,[])->ah f g L []=g L1 []:=λh=>bG h;have no:∀{c:EB}{f:ES}{L:Lc},c L []=some (false,[])->bI c f cM L []=some (.nx,L,[]):=λh=>by simp[h]
  have l1:¬(am.length:Int)+1+1+1+1=1:=by lia
  have l3:¬(am.length:Int)+1+1+1+1=3:=by lia
  rw[st (L1:=[some (.p (.tup (.str k::.str (O f)::.str (O r)::cP c::am))),some (.p (.str k)),none,none,none]) (by simp)];rw[st (no (by rcases hl with e|e<;>simp[b8,cE,e])),st (no (by simp[h2])),st (no (by simp[h1])),st (no (by rcases hl with e|e<;>simp[b8,cE,e])),st (no (by simp[h3]))];rw[st (L1:=[some (.p (.tup (.str k::.str (O f)::.str (O r)::cP c::am))),some (.p (.str k)),none,none,some (.p (.str (O (z++32::f))))]) (by subst kw;simp(disch:=(first|lia|(simp only[aL,ak,a'];lia))) [cj,-bi,cy])]
  rw [st (L1:=[some (.p (.tup (.str k::.str (O f)::.str (O r)::cP c::am))),some (.p (.str k)),none,none,some (.p (.str (O (z++32::f++oA r))))]) (by
   rcases hr with rfl|hr
   .simp [nE,oA]
   .have:=hr.w.le;have:=qV.w.le
    have n1:=ql hr.w.ne;have s1:=G5;rw[show oA r=32::(wk "at"++32::r) from ae hr.w.ne];generalize wk "at"=q at *
    simp(disch:=(first|lia|(simp only[aL,ak,a'];lia))) [n1,s1,-bi,cy])]
  rw [st (L1:=[some (.p (.tup (.str k::.str (O f)::.str (O r)::cP c::am))),some (.p (.str k)),none,none,some (.p (.str (O (z++32::f++oA r++qf c))))]) (by
   generalize oA r=xr at *
   cases c with
   |none=>have:=yZ;simp[cP,this,qf]
   |some c=>
    have h1:=C.ne hc;have h2:=C.ls hc (n:=n+1) (by lia);have:=C.xl hc
    have:=jI.le;have s1:=G1;simp only[cP,qf];generalize c.pp=p at *
    generalize c.tx=y at *
    generalize bW=q at *
    simp(disch:=(first|lia|(simp only[aL,ak,a'];lia))) [h1,h2,s1,qH,-bi,cy])]
  generalize oA r=xr at *
  generalize qf c=xc at *
  rcases ha with ⟨e1,rfl,rfl⟩|⟨g,u,rfl,hu,rfl,rfl⟩
  .rw [st (no (by simp[e1]))];exact⟨_,by simp;rfl⟩
  .have lg:=kQ g;have ld:=vt hu;have e1:=mu hu;simp only[AU];generalize g.tx=y at *
   generalize dg u=d at *
   simp(disch:=(first|lia|(simp only[aL,ak,a'];lia))) [e1,cj,-bi,cy]
 obtain⟨L',b⟩:=b;rw[dE,ao];simp[b]
theorem F.ls:∀(f:F),f.ok->f.dep≤3->∀n,9+3 * f.dep≤n->pureOf (Ph n "_law_text") [f.pp]=some (.str (O f.tx))
 | .on d,_,_,n,s=>by obtain⟨n,rfl⟩:=eK (n:=n) (by first|assumption|lia);exact Mu d
 | .no f,x,t,n,s=>by simp only[F.dep]at t s;obtain⟨n,rfl⟩:=AS (n:=n) (by first|assumption|lia);exact MA (F.xl (f:=f) x (by lia)) (F.ls f x (by lia) (n+1) (by lia))
 | .bn o a b,x,t,n,s=>by
  simp only[F.dep]at t s;have:=sd a.dep b.dep
  have:=se a.dep b.dep;obtain⟨n,rfl⟩:=AS (n:=n) (by first|assumption|lia);exact Nz (F.xl x.1 (by lia)) (F.xl x.2 (by lia)) (F.ls a x.1 (by lia) (n+1) (by lia)) (F.ls b x.2 (by lia) (n+1) (by lia))
 | .kn e c f,x,t,n,s=>by simp only[F.dep]at t s;obtain⟨n,rfl⟩:=eK (n:=n) (by first|assumption|lia);exact MW x.1 (F.xl x.2 (by lia)) (F.ls f x.2 (by lia) (n+1) (by lia))
 | .lt a b m g k,x,_,n,s=>by obtain⟨n,rfl⟩:=eK (n:=n) (by first|assumption|lia);exact MO x
 | .hp h f r c,x,_,n,s=>by
  obtain⟨n,rfl⟩:=Oa (n:=n) (by first|assumption|lia);have:=zH (n:=n) (k:=xa h) (am:=[]) (ax:=[]) x.1 x.2.1 x.2.2 (by lia) (by cases h<;>simp[xa]) (vj h).w.le (.inl ⟨by cases h<;>decide +kernel,rfl,rfl⟩)
  rw[cg]at this;exact this
 | .mn f r c g k,x,_,n,s=>by obtain⟨n,rfl⟩:=Oa (n:=n) (by first|assumption|lia);exact zH (n:=n) (k:="many") x.1 x.2.1 x.2.2.1 (by lia) (.inr (.inr rfl)) vh.w.le (.inr ⟨g,k,rfl,x.2.2.2.2,rfl,rfl⟩)
end My
namespace My
open PySem L2 Ev
variable{n:Nat}
theorem cQ{i j:Int}(x:i.natAbs < 2 ^ 100)(a:j.natAbs < 2 ^ 100):hL i j=true:=by
 have k:∀{i:Int},i.natAbs < 2 ^ 100->i.natAbs.log2 < 100:=λ{i} h=>by
  by_cases e:i.natAbs=0
  .rw [e];decide
  .exact (og e).mpr h
 unfold hL;exact eY (by have:=k x;have:=k a;lia)
theorem i7(j:2≤n)(a:Int){p:Int}(g:0≤p)(i:p < 1000):∃r:Int,0≤r/\pureOf (Ph n "_law_mix") [.int a,.int p]=some (.int r):=by
 obtain⟨n,rfl⟩:=eK (n:=n) (by first|assumption|lia);rw[vp,ao];have w:Gd (.int 10) (.int 18)=some (.int 1000000000000000000):=by kernel_rfl
 have m:hL 20 p=true:=cQ (by decide) (by lia);have t:hL 2 p=true:=cQ (by decide) (by lia);have s:0≤20 * p:=by lia
 by_cases h:a < 0
 .exact⟨a / 2 ^ (20 * p).toNat % 1048576,gX _ (by decide),by simp[hZ,h,m,s]⟩
 by_cases k:(1000000000000000000:Int)≤a
 .exact⟨a / 2 ^ (20 * p).toNat % 1048576,gX _ (by decide),by simp[hZ,h,k,w,m,s]⟩
 .have q:hL a (2 * p+3)=true:=cQ (by lia) (by lia);generalize f:(a * (2 * p+3)+p) % 2147483629=x;have e:0≤x/\x < 2147483629:=by subst f;exact⟨gX _ (by decide),lI _ (by decide)⟩
  have v:hL x x=true:=cQ (by lia) (by lia);have l:0≤x * x/\x * x≤2147483629 * 2147483629:=⟨Int.mul_nonneg e.1 e.1,Int.mul_le_mul (xO e.2) (xO e.2) e.1 (by decide)⟩;have d:hL (x * x+1) 48271=true:=cQ (by lia) (by decide);generalize b:(x * x+1) * 48271 % 2147483629=y;have c:0≤y/\y < 2147483629:=by subst b;exact⟨gX _ (by decide),lI _ (by decide)⟩
  have u:hL y y=true:=cQ (by lia) (by lia);exact⟨y * y % 2147483587,gX _ (by decide),by simp[hZ,h,k,w,t,q,f,v,d,b,u]⟩
noncomputable def LL:List Nat:=[97,98,99,100,101,102,103,104,105,106,107,108,109,110,111,112,113,114,115,116,117,118,119,120,121,122]
theorem Ps:("abcdefghijklmnopqrstuvwxyz":Str)=O LL:=by decide +kernel
theorem Ki:∀c ∈ LL,m_ c:=by unfold m_;decide
theorem NM{r:Int}(h:0≤r):∃c,m_ c/\L2.atI LL (r % 26)=some c:=by
 have x:=gX r (show(26:Int)≠0 by decide);have a:=lI r (show(0:Int) < 26 by decide);have hk:(r % 26).toNat < LL.length:=by show _ < 26;lia
 exact⟨LL[(r % 26).toNat],Ki _ (yk _),dZ x (by simp[hk])⟩
theorem zo(ψ:Str->GF){q0 q1 q6:Option D}{S:aP}:∀(xs:List P)(r:Int)(c:List Nat)(o:Option D),0≤r->(∀x ∈ c,m_ x)->c.length+xs.length≤10->∃r' c' o',(∀x ∈ c',m_ x)/\c'.length=c.length+xs.length /\
  dI (cF 5) (fD ψ) xs [q0,q1,some (.p (.str (O LL))),some (.p (.int r)),some (.p (.str (O c))),o,q6] S=some (.nx,[q0,q1,some (.p (.str (O LL))),some (.p (.int r')),some (.p (.str (O c'))),o',q6],S)
 | [],r,c,o,_,hc,_=>⟨r,c,o,hc,rfl,rfl⟩
 |x::xs,r,c,o,hr,hc,hl=>by obtain⟨d,hd,ed⟩:=NM hr;have e1:=bN (g:=LL) (by decide) ed;rw[show(⟨#[d]⟩:Str)=O [d] from rfl]at e1;simp only[ak]at hl;obtain⟨r',c',o',h1,h2,e⟩:=zo ψ (q0:=q0) (q1:=q1) (q6:=q6) (S:=S) xs (r / 26) (c++[d]) (some (.p x)) (Int.ediv_nonneg hr (by decide)) (λy hy=>(dD.mp hy).elim (hc y) (λz=>by rw[ov.mp z];exact hd)) (by simp;lia);refine⟨r',c',o',h1,by rw[h2];simp;lia,?_⟩;rw[jT (h:=[q0,q1,some (.p (.str (O LL))),some (.p (.int r)),some (.p (.str (O c))),some (.p x),q6]) (L2:=[q0,q1,some (.p (.str (O LL))),some (.p (.int (r / 26))),some (.p (.str (O (c++[d])))),some (.p x),q6]) (x:=S) rfl (by simp(disch:=(first|lia|(simp only[aL,ak,a'];lia))) [fD,e1,-bi,cy])];exact e
theorem Ga(x y:Str):eF (pd (.str x)) (pd (.str y))=(x == y):=by show eF (.str x) (.str y)=_;simp[eF]
theorem zD{x:Str}(c:fj x=true):∀(s:LS),(∀y ∈ s,fj y=true)->vV (.str x) (.tup (s.map .str))=some (s.any (· == x))/\vV (.str x) (.lst (s.map .str))=some (s.any (· == x)):=by
 intro s f;have n:((s.map P.str).all (ig 19) && ig 19 (.str x))=true:=by simp only[aE,bj,fP,tK];exact⟨λz m=>by obtain⟨y,h,e⟩:=m;exact by subst e;rw[tK];exact f y h,c⟩
 have k:(s.map P.str).any (λy=>eF (pd y) (pd (.str x)))=s.any (· == x):=by
  induction s with
  |nil=>rfl
  |cons a r i=>simp only[a6,fQ,Ga,i (λy b=>f y (aW _ b)) (by simp only[a6,List.all_cons,aE]at n ⊢;exact⟨n.1.2,n.2⟩)]
 constructor
 .unfold vV;dsimp only;rw[ac n,k]
 .unfold vV;dsimp only;rw[ac n,k]
noncomputable def WL:LS:=["or","and","not","true","dry","some","all","each","at","when","many","to","of","can","last"]
noncomputable def FL:LS:=["or","and","not","true","dry","some","all","each","many","at","when","letters","to","knows","never","always","ahead","of","last","whenever","can"]
theorem Hz:∀y ∈ FL,fj y=true:=by intro y h;simp only[FL,aU,ci,ce]at h;rcases h with rfl|rfl|rfl|rfl|rfl|rfl|rfl|rfl|rfl|rfl|rfl|rfl|rfl|rfl|rfl|rfl|rfl|rfl|rfl|rfl|rfl<;>exact uH _
theorem Ke:∀y ∈ WL,y ∈ FL:=by decide +kernel
def Ov(w:List Nat):Prop:=w.length≤4\/9≤w.length\/∃a b,w=[a,b,a,b,a,b]
theorem Kl:∀y ∈ FL,y ∈ WL/\(wk y).length≤4\/(5≤(wk y).length/\(wk y).length≤8/\(wk y).length≠6)\/wk y=[97,108,119,97,121,115]:=by decide +kernel
theorem I0{w:List Nat}(n:Ov w)(B:WL.any (· == O w)=false\/9≤w.length):∀y ∈ FL,¬y=O w:=by
 intro y f e;have s:wk y=w:=by rw[e];exact dh w
 rcases Kl y f with ⟨x,k⟩|x|x
 .rw [s]at k;rcases B with B|B
  .have:=sB.mp B y x;rw[e]at this;simp at this
  .lia
 .rw [s]at x;rcases n with h|h|⟨a,b,rfl⟩
  .lia
  .lia
  .simp at x
 .rw [s]at x;rcases n with h|h|⟨a,b,h⟩
  .rw [x]at h;simp at h
  .rw [x]at h;simp at h
  .rw [h]at x;simp only[kf]at x;lia
theorem Cr{w:List Nat}(h:Wrd w)(a:∀y ∈ FL,¬y=O w):Nmd w:=by
 have k:=h.sk;have n:∀s:LS,(∀y ∈ s,y ∈ FL)->vV (.str (O w)) (.tup (s.map .str))=some false:=λs x=>by rw[(zD k s λy q=>Hz y (x y q)).1,sB.mpr λy q=>by simpa using a y (x y q)]
 refine⟨h,?_,?_⟩
 .show (vV (.str (O w)) (.tup ((["or","and","not","true"]:LS).map .str))).map P.bl=_;rw[n _ (by decide +kernel)];rfl
 .show (vV (.str (O w)) (.tup (FL.map .str))).map P.bl=_;rw[n FL λ_ h=>h];rfl
theorem O4:∀y ∈ WL,(decide (wk y++[120]≠[]) && decide ((wk y++[120]).length≤10) && (wk y++[120]).all (λc=>decide (97≤c) && decide (c≤122)) && FL.all λz=>!decide (wk z=wk y++[120]))=true:=by decide +kernel
theorem MB{w:List Nat}(B:WL.any (· == O w)=true):Nmd (w++[120])/\w.length≤9:=by
 obtain⟨y,k,e⟩:=om.mp B;have x:wk y=w:=by rw[eq_of_beq e];exact dh w
 have:=O4 y k;rw[x]at this;simp only[aE,gY,bj,lU,x9]at this;obtain⟨⟨⟨a,h⟩,s⟩,n⟩:=this;exact⟨Cr ⟨a,h,s⟩ λz f e=>n z f (by rw[e];exact dh _),by simp at h;lia⟩
end My
namespace My
open PySem L2 Ev
variable{n:Nat}
theorem vd(lo:Int)(n:Nat):(Ev.intsFrom lo n).length=n:=by simp[Ev.intsFrom]
theorem HY:∀len≤15,xN none (some 10) 1 len=xN none (some ((min 10 len:Nat):Int)) 1 len:=by decide +kernel
theorem LK{c:List Nat}(h:c.length≤15):pV (.str (O c)) none (some 10)=some (.str (O (c.take 10))):=by
 have e:Txt.slice (O c) none (some 10)=nU (O c) none (some ((min 10 c.length:Nat):Int)):=by
  show nU (O c) none (some 10)=_;have:=HY c.length h
  unfold nU;rw[cS,this]
 have a:=DZ (x:=O c) (j:=((min 10 c.length:Nat):Int)) ⟨by lia,by rw[dh];lia⟩;simp only[pV,cS];rw[ac (by rw[mq];lia),e,a,dh,kt,show(((min 10 c.length:Nat):Int)-0).toNat=min 10 c.length by lia,<- List.take_eq_take_min];rfl
theorem qG{c:List Nat}(h:1≤c.length)(x:c.length≤4):Ov ((c++(c++c)).take 10)/\(((c++(c++c)).take 10=c++(c++c))\/9≤((c++(c++c)).take 10).length):=by
 match c,h,x with
 | [a],_,_=>exact⟨.inl (by simp),.inl rfl⟩
 | [a,b],_,_=>exact⟨.inr (.inr ⟨a,b,rfl⟩),.inl rfl⟩
 | [a,b,c],_,_=>exact⟨.inr (.inl (by simp)),.inl rfl⟩
 | [a,b,c,d],_,_=>exact⟨.inr (.inl (by simp)),.inr (by simp)⟩
theorem Cu{w:List Nat}(s:w≠[])(l:w.length≤12)(c:∀x ∈ w,m_ x)(n:Ov (w.take 10))(t:w.take 10=w\/9≤(w.take 10).length):Nmd ((w++(if WL.any (· == O w)=true then [120] else [])).take 10):=by
 by_cases B:WL.any (· == O w)=true
 .rw [ac B];have:=MB B
  rw[ow (by simp;lia)];exact this.1
 .rw [ae B,cg];have a:WL.any (· == O w)=false:=(Bool.not_eq_true _).mp B;refine Cr ⟨?_,by rw[iQ];lia,λx k=>c x (List.mem_of_mem_take k)⟩ (I0 n (t.imp (λe=>by rw[e];exact a) id));intro e;have h:=cc yf e;rw[iQ,a']at h;have:=yq.mpr s
  lia
theorem Jf{x:Str}(e:fj x=true):bb (.p (.str x)) (.ref 0) [.lst ((WL.map P.str).map .p)]=some (.bl (WL.any (· == x))):=by have h:=(zD e WL λy s=>Hz y (Ke y s)).2;show(Option.bind (dO [.lst ((WL.map P.str).map .p)] 9 (.p (.str x))) λa=>Option.bind (dO [.lst ((WL.map P.str).map .p)] 9 (.ref 0)) λb=>vV a b).map P.bl=_;rw[show dO [.lst ((WL.map P.str).map .p)] 9 (.p (.str x))=some (.str x) from rfl,show dO [.lst ((WL.map P.str).map .p)] 9 (.ref 0)=some (.lst (WL.map .str)) by kernel_rfl];show(vV (.str x) (.lst (WL.map .str))).map P.bl=_;rw[h];rfl
theorem K2(b:Bool):∃v,iB [.bl b]=some v/\ev (.str "x") v=some (.str (O (if b=true then [120] else []))):=by cases b<;>exact⟨_,rfl,by kernel_rfl⟩
theorem oF(hn:3≤n)(a:Int){j:Int}(h0:0≤j)(h1:j < 900):∃w,Nmd w/\pureOf (Ph n "_law_name") [.int a,.int j]=some (.str (O w)):=by
 obtain⟨n,rfl⟩:=eK (n:=n) (by first|assumption|lia);obtain⟨r,hr,er⟩:=i7 (n:=n+1) (by lia) a h0 (by lia);obtain⟨d,hd,ed⟩:=i7 (n:=n+1) (by lia) a (p:=j+1) (by lia) (by lia);have m0:=gX d (show(4:Int)≠0 by decide);have m1:=lI d (show(0:Int) < 4 by decide);obtain⟨r',c,o',hc,hcl,eg⟩:=zo (Ph (n+1)) (q0:=some (.p (.int a))) (q1:=some (.p (.int j))) (q6:=none) (S:=[]) (Ev.intsFrom 0 (1+d % 4).toNat) r [] none hr (λ_ z=>nomatch z) (by rw[vd];simp;lia);rw[vd]at hcl;simp only[a',ya]at hcl;have c1:1≤c.length:=by lia
 have c4:c.length≤4:=by lia
 have lim:(1+d % 4).natAbs < 1000000:=by lia
 obtain⟨w,e5,w0,wl,wc,ws,wt⟩:∃w:List Nat,(bI (bV (aI eB (Y (aH gW (aH lx (au (pureOf (Ph (n+1) "_law_mix")) (ab (vE (U 0)) (ab (aH aD (vE (U 1)) (vC (.int 1))) af))) (vC (.int 4))) (vC (.int 8)))) (Y (vC (.int 1))))) (aO 4 (Y (aH aD (aH aD (vE (U 4)) (vE (U 4))) (vE (U 4))))) cM) [some (.p (.int a)),some (.p (.int j)),some (.p (.str (O LL))),some (.p (.int r')),some (.p (.str (O c))),o',none] []
   = some (.nx,[some (.p (.int a)),some (.p (.int j)),some (.p (.str (O LL))),some (.p (.int r')),some (.p (.str (O w))),o',none],[])/\w≠[]/\w.length≤12/\(∀x ∈ w,m_ x)/\Ov (w.take 10)/\(w.take 10=w\/9≤(w.take 10).length):=by
  have cn:c≠[]:=λe=>by rw[e]at c1;exact absurd c1 (by decide)
  by_cases h:d / 4 % 8=1
  .refine⟨c++(c++c),?_,by simp[cn],by simp;lia,λx hx=>?_,(qG c1 c4).1,(qG c1 c4).2⟩
   .simp (disch:=(first|lia|(simp only[aL,ak,a'];lia))) [ed,h,-bi,cy]
   .rcases dD.mp hx with hx|hx
    .exact hc x hx
    .exact (dD.mp hx).elim (hc x) (hc x)
  .refine⟨c,by simp[ed,h],cn,by lia,hc,.inl (by rw[iQ];lia),.inl (ow (by lia))⟩
 have hB:=Jf (Co λx hx=>by have:=wc x hx;unfold m_ at this;lia:fj (O w)=true);obtain⟨v,v1,v2⟩:=K2 (WL.any (· == O w));have sl:=LK (c:=w++(if WL.any (· == O w)=true then [120] else [])) (by split<;>simp<;>lia);refine⟨_,Cu w0 wl wc ws wt,?_⟩;have b:∃L' S',jj (Ph (n+1)) [some (.p (.int a)),some (.p (.int j)),none,none,none,none,none] []=some (.rt (.p (.str (O ((w++(if WL.any (· == O w)=true then [120] else [])).take 10)))),L',S'):=by
  unfold jj;rw[Ps] at *
  rw[bG (x:=[some (.p (.int a)),some (.p (.int j)),some (.p (.str (O LL))),none,none,none,none]) (a:=[]) (by simp)];rw[bG (x:=[some (.p (.int a)),some (.p (.int j)),some (.p (.str (O LL))),some (.p (.int r)),none,none,none]) (a:=[]) (by simp[er])];rw[bG (x:=[some (.p (.int a)),some (.p (.int j)),some (.p (.str (O LL))),some (.p (.int r)),some (.p (.str (O []))),none,none]) (a:=[]) (by simp[G4])];rw[bG (x:=[some (.p (.int a)),some (.p (.int j)),some (.p (.str (O LL))),some (.p (.int r')),some (.p (.str (O c))),o',none]) (a:=[]) (by simp[ed,lim,eg])];rw[bG e5];rw[bG (x:=[some (.p (.int a)),some (.p (.int j)),some (.p (.str (O LL))),some (.p (.int r')),some (.p (.str (O w))),o',some (.ref 0)]) (a:=[.lst (((WL.map P.str).take 14).map .p)]) (by simp[few,WL])];rw[bG (x:=[some (.p (.int a)),some (.p (.int j)),some (.p (.str (O LL))),some (.p (.int r')),some (.p (.str (O w))),o',some (.ref 0)]) (a:=[.lst ((WL.map P.str).map .p)]) (by simp[fk,WL])];generalize hX:(if WL.any (· == O w)=true then [120] else [])=xx at *
  have xl:xx.length≤1:=by rw[<- hX];split<;>simp
  generalize (WL.map P.str).map D.p=ws at *
  simp(disch:=(first|lia|(simp only[aL,ak,a'];lia))) [hB,v1,v2,-bi,cy,sl]
 obtain⟨L',S',b⟩:=b;rw[uc,ao];simp[b]
end My
namespace My
open PySem L2 Ev
variable{n:Nat}
theorem zZ{a:Type}{s:List a}{i:Int}(h:0≤i)(e:i < s.length):∃x ∈ s,L2.atI s i=some x:=by
 have hk:i.toNat < s.length:=by lia
 exact⟨s[i.toNat],yk _,dZ h (by simp[hk])⟩
theorem nA{x:Int}{m:Int}(h:0 < m):0≤x % m/\x % m < m:=⟨gX _ (by lia),lI _ h⟩
theorem wK(l:5≤n)(a:Int){j:Int}(q:0≤j)(u:j < 800):∃s:Sm,s.ok/\pureOf (Ph n "_law_sum") [.int a,.int j]=some s.pp:=by
 obtain⟨n,rfl⟩:=eK (n:=n) (by first|assumption|lia);obtain⟨d,g,r⟩:=i7 (n:=n+1) (by lia) a q (by lia);obtain⟨w,e,t⟩:=oF (n:=n+1) (by lia) a (j:=j+1) (by lia) (by lia);have c:=nA (x:=d / 8) (m:=1000) (by decide);obtain⟨k,hk⟩:=Int.eq_ofNat_of_zero_le c.1;have h:k < 1000:=by have:=c.2;lia
 obtain⟨s,v,f⟩:∃s:Sm,s.ok/\L2.atI [jQ w,l7 k,.tup [.str "plus",jQ w,l7 k],.tup [.str "minus",l7 k,jQ w],.tup [.str "times",jQ w,jQ w]] (d % 8 % 5)=some s.pp:=by
  obtain⟨x,b,p⟩:=zZ (s:=[jQ w,l7 k,.tup [.str "plus",jQ w,l7 k],.tup [.str "minus",l7 k,jQ w],.tup [.str "times",jQ w,jQ w]]) (i:=d % 8 % 5) (nA (by decide)).1 (nA (by decide)).2;rw[p];simp only[aU,ci,ce]at b;rcases b with rfl|rfl|rfl|rfl|rfl
  .exact⟨.lf (.nam w),e,rfl⟩
  .exact⟨.lf (.num k),h,rfl⟩
  .exact⟨.bin .pl (.nam w) (.num k),⟨by decide,e,h⟩,rfl⟩
  .exact⟨.bin .mi (.num k) (.nam w),⟨by decide,h,e⟩,rfl⟩
  .exact⟨.bin .ti (.nam w) (.nam w),⟨by decide,e,e⟩,rfl⟩
 refine⟨s,v,?_⟩;simp only[jQ,l7]at f;rw[vo,ao];simp[nv,r,t,hk,few,f]
theorem y'{i:Int}(a:0≤i)(s:i < 6):∃m:Mk,m.lw=4/\L2.atI [P.str "=",.str "!=",.str "<",.str "<=",.str ">",.str ">="] i=some (.str m.sg):=by
 obtain⟨x,h,e⟩:=zZ (s:=[P.str "=",.str "!=",.str "<",.str "<=",.str ">",.str ">="]) a (by simpa using s);rw[e];simp only[aU,ci,ce]at h;rcases h with rfl|rfl|rfl|rfl|rfl|rfl
 .exact⟨.eq,rfl,rfl⟩
 .exact⟨.ne,rfl,rfl⟩
 .exact⟨.lt,rfl,rfl⟩
 .exact⟨.le,rfl,rfl⟩
 .exact⟨.gt,rfl,rfl⟩
 .exact⟨.ge,rfl,rfl⟩
theorem Gf(P:7≤n)(a:Int){j:Int}(l:0≤j)(S:j < 700):∃c:Option C,DN c/\pureOf (Ph n "_law_condition") [.int a,.int j]=some (cP c):=by
 obtain⟨n,rfl⟩:=eK (n:=n) (by first|assumption|lia);obtain⟨d,F,s⟩:=i7 (n:=n+1) (by lia) a l (by lia);obtain⟨e,K,k⟩:=i7 (n:=n+1) (by lia) a (p:=j+1) (by lia) (by lia);obtain⟨t,o,q1⟩:=wK (n:=n+1) (by lia) a (j:=j+2) (by lia) (by lia);obtain⟨q,r,q2⟩:=wK (n:=n+1) (by lia) a (j:=j+5) (by lia) (by lia);obtain⟨z,y,q3⟩:=wK (n:=n+1) (by lia) a (j:=j+8) (by lia) (by lia);obtain⟨m,b,f⟩:=y' (i:=e % 6) (nA (by decide)).1 (nA (by decide)).2;have A:=nA (x:=d) (m:=6) (by decide);have H:Mk.eq.sg="=":=by decide +kernel
 rw[mj,ao];generalize h:d % 6=w at *
 by_cases v:w < 2
 .exact⟨none,trivial,by simp[cx,h,s,k,q1,q2,few,f,v,cP]⟩
 by_cases u:w=2
 .exact⟨some (.no m t q),⟨b,o,r⟩,by simp[cx,h,s,k,q1,q2,few,f,u,cP,C.pp,nj]⟩
 by_cases g:w=3
 .exact⟨some (.or m t q z),⟨b,o,r,y⟩,by simp[cx,h,s,k,q1,q2,q3,few,f,g,cP,C.pp,nj,H,Sm.pp,Lf.pp,l7]⟩
 .exact⟨some (.is m t q),⟨b,o,r⟩,by simp[cx,h,s,k,q1,q2,few,f,v,u,g,cP,C.pp,nj]⟩
theorem Ih{f g:ES}{L x:Lc}{S a:aP}{d:D}(h:f L S=some (.rt d,x,a)):ah f g L S=some (.rt d,x,a):=by simp[h]
theorem Hl{c:EB}{f:ES}{L:Lc}{S:aP}(h:c L S=some (false,S)):bI c f cM L S=some (.nx,L,S):=by simp[h]
theorem zg{x y:P}(r:Int):∃b:Bool,L2.atI [x,y] (r % 2)=some (if b=true then y else x):=by
 have h:=nA (x:=r) (m:=2) (by decide);by_cases e:r % 2=0
 .exact⟨false,by rw[e];exact vN x [y]⟩
 .exact⟨true,by rw[show r % 2=1 by lia];exact Gz x y []⟩
end My
set_option tactic.hygienic false
namespace My
open PySem L2 Ev
theorem qW(a:Int)(d i:Nat)(hi:(i+2) * 2 ^ d≤16)(n:Nat)(hn:12+2 * d≤n)(ih:∀{d'},d=d'+1->∀i':Nat,(i'+2) * 2 ^ d'≤16->∃f:F,f.ok/\f.dep≤d'/\pureOf (Ph (n-1) "_law_fact") [.int a,.int (i':Int),.int (d':Int)]=some f.pp) :
  ∃f:F,f.ok/\f.dep≤d/\pureOf (Ph n "_law_fact") [.int a,.int (i:Int),.int (d:Int)]=some f.pp:=by
 obtain⟨n,rfl⟩:=eK (n:=n) (by first|assumption|lia);rw[show n+2-1=n+1 by lia]at ih;have i16:i≤14:=by
  have:=Nat.one_le_two_pow (n:=d);have:(i+2) * 1≤(i+2) * 2 ^ d:=Nat.mul_le_mul_left _ this
  lia
 have m22:hL 22 (i:Int)=true:=cQ (by decide) (by lia);have m2:hL 2 (i:Int)=true:=cQ (by decide) (by lia);generalize hj:5+22 * (i:Int)=j;have j0:0≤j:=by lia
 have j1:j≤320:=by lia
 obtain⟨x0,_,e0⟩:=i7 (n:=n+1) (by lia) a (p:=j) (by lia) (by lia);obtain⟨x3,_,e3⟩:=i7 (n:=n+1) (by lia) a (p:=j+3) (by lia) (by lia);obtain⟨x4,_,e4⟩:=i7 (n:=n+1) (by lia) a (p:=j+4) (by lia) (by lia);obtain⟨x7,_,e7⟩:=i7 (n:=n+1) (by lia) a (p:=j+7) (by lia) (by lia);obtain⟨f1,h1,q1⟩:=oF (n:=n+1) (by lia) a (j:=j+1) (by lia) (by lia);obtain⟨f5,h5,q5⟩:=oF (n:=n+1) (by lia) a (j:=j+5) (by lia) (by lia);obtain⟨f8,h8,q8⟩:=oF (n:=n+1) (by lia) a (j:=j+8) (by lia) (by lia);obtain⟨co,hc,ec⟩:=Gf (n:=n+1) (by lia) a (j:=j+10) (by lia) (by lia);have w0:=nA (x:=x0) (m:=12) (by decide);generalize hw:x0 % 12=w at w0;have no:∀{c:EB}{f g:ES}{L:Lc},c L []=some (false,[])->ah (bI c f cM) g L []=g L []:=λh=>bG (Hl h);have st:∀{f g:ES}{L L1:Lc},f L []=some (.nx,L1,[])->ah f g L []=g L1 []:=λh=>bG h;have yes:∀{c:EB}{f g:ES}{L L1:Lc}{d:D},c L []=some (true,[])->f L []=some (.rt d,L1,[])->ah (bI c f cM) g L []=some (.rt d,L1,[]):=λh1 h2=>Ih ((tf h1).trans h2);have b:∃f:F,f.ok/\f.dep≤d/\∃L',jk (Ph (n+1)) [some (.p (.int a)),some (.p (.int (i:Int))),some (.p (.int (d:Int))),none,none,none,none,none,none,none,none,none] []=some (.rt (.p f.pp),L',[]):=by
  unfold jk;rw[st (L1:=[some (.p (.int a)),some (.p (.int (i:Int))),some (.p (.int (d:Int))),some (.p (.int j)),none,none,none,none,none,none,none,none]) (by simp[m22,hj])];rw[st (L1:=[some (.p (.int a)),some (.p (.int (i:Int))),some (.p (.int (d:Int))),some (.p (.int j)),some (.p (.int w)),none,none,none,none,none,none,none]) (by simp[e0,hw])];by_cases cA:0 < d/\w < 3
  .obtain⟨d',rfl⟩:∃d',d=d'+1:=⟨d-1,by lia⟩;rw[kq]at hi;have hi':(2 * i+2+2) * 2 ^ d'≤16:=by
    have:(2 * i+2+2) * 2 ^ d'=(i+2) * (2 ^ d' * 2):=by rw[show 2 * i+2+2=(i+2) * 2 by lia,r_,iM 2]
    lia
   have hi1:(2 * i+1+2) * 2 ^ d'≤16:=a9 (sj _ (by lia)) hi';obtain⟨g1,o1,p1,r1⟩:=ih rfl (2 * i+1) hi1;obtain⟨g2,o2,p2,r2⟩:=ih rfl (2 * i+2) hi';obtain⟨o,eo⟩:∃o,L2.atI [P.str "and",.str "or",.str "and"] w=some (.str (lB o)):=by
    have:w=0\/w=1\/w=2:=by lia
    rcases this with rfl|rfl|rfl
    .exact⟨false,by kernel_rfl⟩
    .exact⟨true,by kernel_rfl⟩
    .exact⟨false,by kernel_rfl⟩
   have t1:((2 * i+1:Nat):Int)=2 * (i:Int)+1:=by lia
   have t2:((2 * i+2:Nat):Int)=2 * (i:Int)+2:=by lia
   rw[t1]at r1;rw[t2]at r2;refine⟨.bn o g1 g2,⟨o1,o2⟩,by show max g1.dep g2.dep+1≤d'+1;lia,_,yes (by simp[cA.2]) (L1:=[some (.p (.int a)),some (.p (.int (i:Int))),some (.p (.int ((d'+1:Nat):Int))),some (.p (.int j)),some (.p (.int w)),some (.p g1.pp),none,none,none,none,none,none]) ?_⟩;simp[m2,r1,r2,few,eo,F.pp]
  rw [no (by
   by_cases hd:0 < d
   .have h3:¬w < 3:=λz=>cA ⟨hd,z⟩;simp[hd,h3]
   .simp [hd])]
  by_cases cB:0 < d/\w=3
  .obtain⟨d',rfl⟩:∃d',d=d'+1:=⟨d-1,by lia⟩;rw[kq]at hi;have hi1:(2 * i+1+2) * 2 ^ d'≤16:=by
    have:(2 * i+2+2) * 2 ^ d'=(i+2) * (2 ^ d' * 2):=by rw[show 2 * i+2+2=(i+2) * 2 by lia,r_,iM 2]
    exact a9 (sj _ (show 2 * i+1+2≤2 * i+2+2 by lia)) (by lia)
   obtain⟨g1,o1,p1,r1⟩:=ih rfl (2 * i+1) hi1;rw[show((2 * i+1:Nat):Int)=2 * (i:Int)+1 by lia]at r1;refine⟨.no g1,o1,by show g1.dep+1≤d'+1;lia,_,yes (by simp[cB.2]) (L1:=[some (.p (.int a)),some (.p (.int (i:Int))),some (.p (.int ((d'+1:Nat):Int))),some (.p (.int j)),some (.p (.int w)),none,none,none,none,none,none,none]) ?_⟩;simp[m2,r1,few,F.pp]
  rw [no (by
   by_cases hd:0 < d
   .have h3:¬w=3:=λz=>cB ⟨hd,z⟩;simp[hd,h3]
   .simp [hd])]
  rw[st (L1:=[some (.p (.int a)),some (.p (.int (i:Int))),some (.p (.int (d:Int))),some (.p (.int j)),some (.p (.int w)),none,some (.p (.str (O f1))),none,none,none,none,none]) (by simp[q1])];by_cases cC:0 < d/\w=4
  .obtain⟨d',rfl⟩:∃d',d=d'+1:=⟨d-1,by lia⟩;rw[kq]at hi;have hi1:(2 * i+1+2) * 2 ^ d'≤16:=by
    have:(2 * i+2+2) * 2 ^ d'=(i+2) * (2 ^ d' * 2):=by rw[show 2 * i+2+2=(i+2) * 2 by lia,r_,iM 2]
    exact a9 (sj _ (show 2 * i+1+2≤2 * i+2+2 by lia)) (by lia)
   obtain⟨g1,o1,p1,r1⟩:=ih rfl (2 * i+1) hi1;rw[show((2 * i+1:Nat):Int)=2 * (i:Int)+1 by lia]at r1;obtain⟨e,ee⟩:=zg (x:=.str "some knows") (y:=.str "each knows") x3;have ke:P.str (qd e)=if e=true then .str "each knows" else .str "some knows":=by cases e<;>rfl
   rw[<- ke]at ee;refine⟨.kn e f1 g1,⟨h1,o1⟩,by show g1.dep+1≤d'+1;lia,_,yes (by simp[cC.2]) (L1:=[some (.p (.int a)),some (.p (.int (i:Int))),some (.p (.int ((d'+1:Nat):Int))),some (.p (.int j)),some (.p (.int w)),none,some (.p (.str (O f1))),some (.p (.str (qd e))),none,none,none,none]) ?_⟩;simp[m2,r1,few,e3,ee,F.pp]
  rw [no (by
   by_cases hd:0 < d
   .have h3:¬w=4:=λz=>cC ⟨hd,z⟩;simp[hd,h3]
   .simp [hd])]
  by_cases c5:w=5
  .obtain⟨e,ee⟩:=zg (x:=.tup [.str "true"]) (y:=.tup [.str "dry"]) x3;have ke:(F.on e).pp=if e=true then .tup [.str "dry"] else .tup [.str "true"]:=by cases e<;>rfl
   rw[<- ke]at ee;refine⟨.on e,trivial,bJ _,_,yes (by simp[c5]) (L1:=[some (.p (.int a)),some (.p (.int (i:Int))),some (.p (.int (d:Int))),some (.p (.int j)),some (.p (.int w)),none,some (.p (.str (O f1))),none,none,none,none,none]) (by simp[few,e3,ee])⟩
  rw[no (by simp[c5])];obtain⟨g,hg,eg⟩:=y' (i:=x3 % 6) (nA (by decide)).1 (nA (by decide)).2;rw[st (L1:=[some (.p (.int a)),some (.p (.int (i:Int))),some (.p (.int (d:Int))),some (.p (.int j)),some (.p (.int w)),none,some (.p (.str (O f1))),none,some (.p (.str g.sg)),none,none,none]) (by simp[e3,few,eg])];obtain⟨u,hu,eu⟩:∃u:Nat,u < 1000/\∃q:Int,0 < q/\L2.atI [P.int 3,.int 1000] (x4 / 1000 % 2)=some (.int q)/\x4 % q=(u:Int):=by
   obtain⟨b,eb⟩:=zg (x:=.int 3) (y:=.int 1000) (x4 / 1000);cases b with
   |true=>have h:=nA (x:=x4) (m:=1000) (by decide);exact⟨(x4 % 1000).toNat,by lia,1000,by decide,eb,by lia⟩
   |false=>have h:=nA (x:=x4) (m:=3) (by decide);exact⟨(x4 % 3).toNat,by lia,3,by decide,eb,by lia⟩
  obtain⟨q,hq,eq,er⟩:=eu;rw[st (L1:=[some (.p (.int a)),some (.p (.int (i:Int))),some (.p (.int (d:Int))),some (.p (.int j)),some (.p (.int w)),none,some (.p (.str (O f1))),none,some (.p (.str g.sg)),some (.p (.int (u:Int))),none,none]) (by simp[e4,few,eq,hq,er])];obtain⟨r,hr,er⟩:∃r:List Nat,(r=[]\/Nmd r)/\L2.atI [P.str (O f5),.str ""] (x7 % 2)=some (.str (O r)):=by
   obtain⟨b,eb⟩:=zg (x:=.str (O f5)) (y:=.str "") x7;cases b with
   |true=>exact⟨[],.inl rfl,by rw[eb,HP];rfl⟩
   |false=>exact⟨f5,.inr h5,eb⟩
  rw[st (L1:=[some (.p (.int a)),some (.p (.int (i:Int))),some (.p (.int (d:Int))),some (.p (.int j)),some (.p (.int w)),none,some (.p (.str (O f1))),none,some (.p (.str g.sg)),some (.p (.int (u:Int))),some (.p (.str (O r))),none]) (by simp[e7,q5,few,er])];by_cases c6:w=6
  .refine⟨.lt f1 f8 r g u,⟨h1,h8,hr,hg,hu⟩,bJ _,_,yes (by simp[c6]) (L1:=[some (.p (.int a)),some (.p (.int (i:Int))),some (.p (.int (d:Int))),some (.p (.int j)),some (.p (.int w)),none,some (.p (.str (O f1))),none,some (.p (.str g.sg)),some (.p (.int (u:Int))),some (.p (.str (O r))),none]) (by simp[few,q8,F.pp])⟩
  rw[no (by simp[c6])];rw[st (L1:=[some (.p (.int a)),some (.p (.int (i:Int))),some (.p (.int (d:Int))),some (.p (.int j)),some (.p (.int w)),none,some (.p (.str (O f1))),none,some (.p (.str g.sg)),some (.p (.int (u:Int))),some (.p (.str (O r))),some (.p (cP co))]) (by simp[ec])];by_cases c9:w < 9
  .refine⟨.mn f1 r co g u,⟨h1,hr,hc,hg,hu⟩,bJ _,_,yes (by simp[c9]) (L1:=[some (.p (.int a)),some (.p (.int (i:Int))),some (.p (.int (d:Int))),some (.p (.int j)),some (.p (.int w)),none,some (.p (.str (O f1))),none,some (.p (.str g.sg)),some (.p (.int (u:Int))),some (.p (.str (O r))),some (.p (cP co))]) (by simp[few,F.pp])⟩
  rw[no (by simp[c9])];obtain⟨h,eh⟩:∃h,L2.atI [P.str "some",.str "all",.str "some"] (w-9)=some (.str (xa h)):=by
   have:w=9\/w=10\/w=11:=by lia
   rcases this with rfl|rfl|rfl
   .exact⟨false,by kernel_rfl⟩
   .exact⟨true,by kernel_rfl⟩
   .exact⟨false,by kernel_rfl⟩
  exact⟨.hp h f1 r co,⟨h1,hr,hc⟩,bJ _,_,by simp[few,eh,F.pp];rfl⟩
 obtain⟨f,hf,hd,L',e⟩:=b;refine⟨f,hf,hd,?_⟩;rw[ud,ao];simp[e]
theorem F_(a:Int):∀(d i:Nat),(i+2) * 2 ^ d≤16->∀n,12+2 * d≤n->∃f:F,f.ok/\f.dep≤d/\pureOf (Ph n "_law_fact") [.int a,.int (i:Int),.int (d:Int)]=some f.pp:=by
 intro d;induction d with
 |zero=>exact λi x n s=>qW a 0 i x n s (λe=>nomatch e)
 |succ d b=>exact λi x n s=>qW a (d+1) i x n s (λe=>by cases e;exact λk h=>b k h (n-1) (by lia))
end My
set_option tactic.hygienic true
namespace My
open PySem L2 Ev
noncomputable def vT:Nat->P->Bool
 |_,.str x=>fj x
 |_,.int _=>true
 |n+1,.tup s=>s.all (vT n)
 |_,_=>false
@[simp] theorem zi(n:Nat)(x:Str):vT n (.str x)=fj x:=by cases n<;>rfl
@[simp] theorem FA(n:Nat)(x:Int):vT n (.int x)=true:=by cases n<;>rfl
@[simp] theorem Fz(n:Nat)(x:List P):vT (n+1) (.tup x)=x.all (vT n):=rfl
theorem jL:∀(n:Nat)(v:P),vT n v=true->(∀m,n≤m->ig m v=true/\vT m v=true)/\((∃x,v=.str x)\/(∃x,v=.int x)\/∃s,v=.tup s/\0 < n/\∀x ∈ s,vT (n-1) x=true)
 |n,v,q=>by
  cases v with
  |str x=>rw[zi]at q;exact⟨λm _=>⟨by rw[tK];exact q,by rw[zi];exact q⟩,.inl ⟨x,rfl⟩⟩
  |int x=>exact⟨λm _=>⟨FI m x,FA m x⟩,.inr (.inl ⟨x,rfl⟩)⟩
  |tup s=>
   cases n with
   |zero=>cases q
   |succ n=>have h:=bj.mp (show s.all (vT n)=true from q);refine⟨λm e=>?_,.inr (.inr ⟨s,rfl,Nat.succ_pos n,h⟩)⟩;obtain⟨m,rfl⟩:∃k,m=k+1:=⟨m-1,by lia⟩;rw[FH,Fz];exact⟨bj.mpr λx a=>((jL n x (h x a)).1 m (by lia)).1,bj.mpr λx a=>((jL n x (h x a)).1 m (by lia)).2⟩
  |_=>cases n<;>cases q
theorem za{a:Str->GF}{q0 q1:Option D}:∀(s:List P)(q2 q3:Option D),(∀x ∈ s,pureOf (a "_law_same") [x,x]=some (.bl true))->∃L,dI (iF [cF 2,cF 3]) (fB a) (sM s s) [q0,q1,q2,q3] []=some (.nx,L,[])
 | [],q2,q3,_=>⟨_,rfl⟩
 |x::s,q2,q3,h=>by obtain⟨L,e⟩:=za (q0:=q0) (q1:=q1) s (some (.p x)) (some (.p x)) λy k=>h y (aW _ k);have n:=h x aM;refine⟨L,?_⟩;show dI _ _ (.tup [x,x]::sM s s) _ _=_;rw[jT (h:=[q0,q1,some (.p x),some (.p x)]) (L2:=[q0,q1,some (.p x),some (.p x)]) (x:=[]) rfl (by simp[fB,n])];exact e
theorem E3:∀(m:Nat)(v:P),vT m v=true->∀n,m+2≤n->pureOf (Ph n "_law_same") [v,v]=some (.bl true):=by
 intro m;induction m with
 |zero=>
  intro v q n a;obtain⟨n,rfl⟩:=eK (n:=n) (by first|assumption|lia);rw[mh,ao];rcases(jL 0 v q).2 with ⟨x,rfl⟩|⟨x,rfl⟩|⟨s,rfl,h,_⟩
  .simp [dG,ca,AM,DT,tW]
  .simp [dG,ca,AM,DT,tW]
  .lia
 |succ m i=>
  intro v q n a;obtain⟨n,rfl⟩:=eK (n:=n) (by first|assumption|lia);rw[mh,ao];rcases(jL (m+1) v q).2 with ⟨x,rfl⟩|⟨x,rfl⟩|⟨s,rfl,_,h⟩
  .simp [dG,ca,AM,DT,tW]
  .simp [dG,ca,AM,DT,tW]
  .obtain⟨L,e⟩:=za (a:=Ph (n+1)) (q0:=some (.p (.tup s))) (q1:=some (.p (.tup s))) s none none λx k=>i x (h x k) (n+1) (by lia);simp[dG,ca,AM,DT,tW,b8,cE,e]
theorem Lf.pdb{a:Lf}(h:a.ok)(n:Nat):vT (n+1) a.pp=true:=by
 cases a with
 |num k=>simp[Lf.pp,l7]
 |nam c=>simp[Lf.pp,jQ,(Nmd.w h).sk]
theorem Sm.pdb{a:Sm}(h:a.ok)(n:Nat):vT (n+2) a.pp=true:=by
 cases a with
 |lf a=>exact a.pdb h (n+1)
 |bin m a b=>have x:=h.1;show vT _ (m.fo a.pp b.pp)=true;rw[zX (by lia)];simp[m.sk.2,a.pdb h.2.1,b.pdb h.2.2]
theorem oI{m:Mk}{a b:Sm}(h:a.ok)(x:b.ok)(n:Nat):vT (n+3) (nj m a b)=true:=by simp[nj,m.sk.1,a.pdb h,b.pdb x]
theorem Dz{c:Option C}(h:DN c)(n:Nat):vT (n+4) (cP c)=true:=by
 cases c with
 |none=>simp[cP]
 |some c=>
  cases c with
  |is m a b=>exact oI h.2.1 h.2.2 (n+1)
  |no m a b=>simp[cP,C.pp,oI (m:=m) (show a.ok from h.2.1) (show b.ok from h.2.2)]
  |or m a b c=>simp[cP,C.pp,oI h.2.1 h.2.2.1,oI h.2.2.2 jJ]
theorem Ig{r:List Nat}(h:r=[]\/Nmd r):fj (O r)=true:=by
 rcases h with rfl|h
 .rw [HN];exact uH _
 .exact h.w.sk
theorem F.pdb:∀(f:F),f.ok->vT (5+f.dep) f.pp=true
 | .on d,_=>by cases d<;>simp[F.pp,F.dep,G_]
 | .no f,h=>by have:=((jL _ _ (F.pdb f h)).1 (5+f.dep) (aq _)).2;simp[F.pp,F.dep,<- iN,this]
 | .bn o a b,h=>by
  have x:=((jL _ _ (F.pdb a h.1)).1 (5+max a.dep b.dep) (by lia)).2;have s:=((jL _ _ (F.pdb b h.2)).1 (5+max a.dep b.dep) (by lia)).2;simp only[F.pp,F.dep,<- iN];generalize 5+max a.dep b.dep=m at *
  cases o<;>simp[lB,x,s]
 | .kn e c f,h=>by
  have:=F.pdb f h.2;have t:=h.1.w.sk;simp only[F.pp,F.dep,<- iN];generalize 5+f.dep=m at *
  cases e<;>simp[qd,t,this]
 | .lt a b m g k,h=>by have x:=h.1.w.sk;have s:=h.2.1.w.sk;have n:=Ig h.2.2.1;simp[F.pp,F.dep,x,s,n,g.sk.1]
 | .hp e f r c,h=>by have x:=h.1.w.sk;have s:=Ig h.2.1;have n:=Dz h.2.2 0;cases e<;>simp[F.pp,F.dep,xa,x,s,n]
 | .mn f r c g k,h=>by have x:=h.1.w.sk;have s:=Ig h.2.1;have n:=Dz h.2.2.1 0;simp[F.pp,F.dep,x,s,n,g.sk.1]
theorem F.same{f:F}(h:f.ok)(d:f.dep≤3){n:Nat}(x:10≤n):pureOf (Ph n "_law_same") [f.pp,f.pp]=some (.bl true):=E3 _ _ (F.pdb f h) n (by lia)
theorem F.neD{f:F}(h:f.ok)(d:f.dep≤3):Ev.neD f.pp f.pp=some false:=uS ((jL _ _ (F.pdb f h)).1 20 (by lia)).1
end My
namespace My
open PySem L2 Ev
def J8:ES:=ah (aO 1 (U 0)) (ah (BP " " uI 1 2) (aV (U 1)))
def qo:GF:=bp 1 3 J8
theorem Gh{x:Str}(h:ny (jz " ") (qa " ") x uI):pureOf qo [.str x]=some (.str (gC " " x uI)):=by
 have g:∀(s:LS)(x:Str)(a b c:Option D),∃n,zS " " 1 2 x [a,some (.p (.str x)),c] s=[a,some (.p (.str (gC " " x s))),n]:=by
  intro s;induction s with
  |nil=>exact λx a b c=>⟨c,rfl⟩
  |cons k s i=>exact λx a b c=>i _ a none _
 obtain⟨n,e⟩:=g uI x (some (.p (.str x))) none none;have f:BP " " uI 1 2 [some (.p (.str x)),some (.p (.str x)),none] []=some (.nx,[some (.p (.str x)),some (.p (.str (gC " " x uI))),n],[]):=by simp[BP,h,e]
 unfold qo;rw[ao];simp[J8,f]
def zY (h:Str->GF) (g:GF):ES:=(ah (aO 2 (Y (au (pureOf (h "_law_fact")) (ab (vE (U 1)) (ab (vC (.int 0)) (ab (vC (.int 3)) af))))))
  (ah (aO 3 (Y (au (pureOf (h "_law_text")) (ab (vE (U 2)) af))))
  (ah (aO 4 (Y (au (pureOf (h "shown_fact")) (ab (vE (U 2)) af))))
  (ah (bI (rn (mv (bT (Y (DS ["str"] (U 4))))) (rn (bV (aI lA (U 4) (U 3))) (bV (aI lA (U 2) (Y (au (pureOf (h "_law_fact")) (ab (vE (U 1)) (ab (vC (.int 0)) (ab (vC (.int 3)) af))))))))) (aV (Y (vC (.bl false)))) cM)
  (tu (DV (gg (ab (vE (U 4)) (ab (EH (vE (U 3)) " " "  ") (ab (aH aD (aH aD (vC (.str " ")) (vE (U 3))) (vC (.str " "))) (ab (au (pureOf g) (ab (vE (U 3)) af)) af)))))) (cF 5) (jl h))))))
def DF (h:Str->GF) (g:GF):ES:=(ah (tu (DV (aH aD (jv (vE (U 0)) jN (b9 (vC (.int 24)))) (gg (ab (vC (.int 0)) af)))) (cF 1) (zY h g))
  (aV (Y (vC (.bl true)))))
theorem zJ{n:Str->GF}{q0 q1 q3 q4:Option D}{p:P}(k:pureOf (n "_law_same") [p,p]=some (.bl true)):∀(s:List P)(a:Option D),(∀x ∈ s,pureOf (n "read_fact") [x]=some p)->∃q,dI (cF 5) (jl n) s [q0,q1,some (.p p),q3,q4,a] []=some (.nx,[q0,q1,some (.p p),q3,q4,q],[])
 | [],a,_=>⟨a,rfl⟩
 |x::s,a,h=>by obtain⟨q,e⟩:=zJ (q0:=q0) (q1:=q1) (q3:=q3) (q4:=q4) k s (some (.p x)) λy b=>h y (aW _ b);have f:=h x aM;refine⟨q,?_⟩;rw[jT (h:=[q0,q1,some (.p p),q3,q4,some (.p x)]) (L2:=[q0,q1,some (.p p),q3,q4,some (.p x)]) (x:=[]) rfl (by simp[jl,f,k])];exact e
theorem EN{n:Nat}(C:60≤n)(a:Int)(q0 q2 q3 q4 s:Option D):∃b m r q,zY (Ph n) qo [q0,some (.p (.int a)),q2,q3,q4,s] []=some (.nx,[q0,some (.p (.int a)),b,m,r,q],[]):=by
 obtain⟨f,e,d,k⟩:=F_ a 3 0 (by decide) n (by lia);have v:=f.ls e d n (by lia);have p:=f.sh e d n (by lia);have H:=F.neD e d;have l:=F.xl e d;obtain⟨o,B⟩:=B0 e d (n:=n) (by lia);have c:=Gh o;have K:=F.read e d (n:=n) (by lia) (f.sp e) (by have:=f.tl3 d;have:=f.cb e;lia);have P:=BZ e d (n:=n) (by lia);have A:=BY e d (n:=n) (by lia);obtain⟨q,g⟩:=zJ (n:=Ph n) (q0:=q0) (q1:=some (.p (.int a))) (q3:=some (.p (.str (O f.tx)))) (q4:=some (.p (.str (O f.tx)))) (F.same e d (by lia)) [.str (O f.tx),.str (Txt.replace (O f.tx) " " "  "),.str (O (32::(f.tx++[32]))),.str (gC " " (O f.tx) uI)] s (by intro x t;simp only[aU,ci,ce]at t;rcases t with rfl|rfl|rfl|rfl<;>assumption)
 refine⟨some (.p f.pp),some (.p (.str (O f.tx))),some (.p (.str (O f.tx))),q,?_⟩;simp only[xQ]at k;rw[show((3:Nat):Int)=3 from rfl]at k;unfold zY;rw[bG (x:=[q0,some (.p (.int a)),some (.p f.pp),q3,q4,s]) (a:=[]) (by simp[k])];rw[bG (x:=[q0,some (.p (.int a)),some (.p f.pp),some (.p (.str (O f.tx))),q4,s]) (a:=[]) (by simp[v])];rw[bG (x:=[q0,some (.p (.int a)),some (.p f.pp),some (.p (.str (O f.tx))),some (.p (.str (O f.tx))),s]) (a:=[]) (by simp[p])];rw[bG (Hl (by simp[AM,DT,tW,k,H]))];have j:(O f.tx).length+((O f.tx).length+1) * ("  ":Str).length≤16777216:=by rw[cS,show("  ":Str).length=2 by decide +kernel];lia
 have i:∀L S,L[3]? = some (some (.p (.str (O f.tx))))->EH (vE (U 3)) " " "  " L S=some (.str (Txt.replace (O f.tx) " " "  "),S):=λL S h=>by simp[h];simpa using j
 generalize Txt.replace (O f.tx) " " "  "=y at *
 generalize gC " " (O f.tx) uI=z at *
 generalize f.tx=x at *
 have w:aD (.str " ") (.str (O x))=some (.str (O (32::x))):=by rw[cj,cy (by simp;lia)];rfl
 have u:aD (.str (O (32::x))) (.str " ")=some (.str (O (32::(x++[32])))):=by rw[cj,cy (by simp;lia)];rfl
 simp[-EH,i,-bi,w,u,c,few,g]
theorem CF{n:Nat}(h:60≤n)(q0:Option D):∀(x:List Int)(q1 q2 q3 q4 q:Option D),∃L,dI (cF 1) (zY (Ph n) qo) (x.map .int) [q0,q1,q2,q3,q4,q] []=some (.nx,L,[])
 | [],_,_,_,_,_=>⟨_,rfl⟩
 |a::x,q1,q2,q3,q4,q=>by obtain⟨r,k,f,b,e⟩:=EN h a q0 q2 q3 q4 q;obtain⟨L,s⟩:=CF h q0 x (some (.p (.int a))) r k f b;exact⟨L,(jT (h:=[q0,some (.p (.int a)),q2,q3,q4,q]) rfl e).trans s⟩
theorem CD{n:Nat}(x:60≤n){s:List Int}(l:s.length≤63):pureOf (bp 1 6 (DF (Ph n) qo)) [.ro (s.map .int)]=some (.bl true):=by
 obtain⟨y,a,e⟩:∃y:List Int,y.length≤63/\pV (.ro (s.map .int)) none (some 24)=some (.lst (y.map .int)):=by
  refine⟨cut s none (some 24),?_,?_⟩
  .unfold cut;rw[iQ,sv];lia
  .show some (P.lst (cut (s.map .int) none (some 24)))=_;unfold cut;rw[d3,<- List.map_drop,<- List.map_take]
 have h:y.length+1≤1000000:=by lia
 obtain⟨L,g⟩:=CF x (some (.p (.ro (s.map .int)))) (y++[0]) none none none none none;rw[yj,List.map_singleton]at g;rw[ao];simp[DF,e,few,h,g]
end My
namespace My
open PySem PySem.Spec PyProof.Rows L2 Ev
variable{w:World}{K:FG}{Q:SV}{B:Heap}{M:Program}{n:Nat}{f:Addr}{T:FuncData}
theorem Dt(Tk:TOk w Gv Att Tb K Q)(hF:Fun K "_law_close" "_law_close" (c_ 62) f T):FnOkN 1 M w K Q B lC (n+1) f T ["_law_text_here"] (qF K qo):=by
 have y:bt ∈ Tb:=by simp[Tb]
 have j:=tj (bj.mp Tk.sc _ y);refine F9 (N:=["_law_text_here","_law_found","_law_sign"]) (b:=J8) hF j λd u A o s H E hr=>?_;have X:=wB (Pg:=M) (base:=B) Tk (uf Tk n) y (f:=f) d u A o s H E hr;have all:∀st g,uq (oO Gv Att Tb (eA Gv Att Tb n) bt) 60 st=some g->PS (ly lC M w K Q B bt.N bt.name (aQ bt.st) f d A o s H E).nox st (f_ K g):=λst g q=>sT X (λ_=>rfl) lD (λ_ _ z=>z) 60 st g q;obtain⟨m,r,W,L,G,V,D,R,S,F,P,C,a,h,p,k,q1,q2,Z,r2,v,e,hC,t1,t3,n1,n2⟩:∃m r W L G V D R S F P C,∃a h p k:Pos,∃q1 q2 Z r2 v,da (c_ 62)=[m,.For (.Name "_law_sign" W) (.List v L) [.Assign [.Name "_law_found" G] (.Call (.Attribute (.Call (.Attribute (.Name "_law_found" R) "replace" a) [.BinOp (.Constant (.str " ") 0 q1) .Add (.Name "_law_sign" S) Z,.Name "_law_sign" F] [] h) "replace" p) [.BinOp (.Name "_law_sign" P) .Add (.Constant (.str " ") 0 q2) r2,.Name "_law_sign" C] [] k) D] [] V,r]
   /\ Cs v uI/\uq (oO Gv Att Tb (eA Gv Att Tb n) bt) 60 m=some (aO 1 (U 0))/\uq (oO Gv Att Tb (eA Gv Att Tb n) bt) 60 r=some (aV (U 1))/\(a.endLine == h.line)=true/\(p.endLine == k.line)=true:=
  ⟨_,_,_,_,_,_,_,_,_,_,_,_,_,_,_,_,_,_,_,_,_,rfl,.cons (.cons (.cons (.cons (.cons (.cons (.cons (.cons .nil))))))),by kernel_rfl,by kernel_rfl,rfl,rfl⟩
 rw[e];refine k9 (all m _ t1).bn (k9 (OF (JT (fnd:="_law_found") (w:=jz " ") (Ok:=qa " ") lD X.calm hC (by decide) X.nd rfl (by decide) (by kernel_rfl) λi s J H x c t I hx hm ht l ok=>?_)) (Bk (all r _ t3).bn));exact Gj (by decide +kernel) X.nd rfl (by kernel_rfl) (by kernel_rfl) (by decide +kernel) (by decide +kernel) n1 n2 rfl rfl i s J H x c t I hx hm ht l ok
end My
namespace My
open PySem PySem.Spec PyProof.Rows L2 Ev
variable{w:World}{K:FG}{Q:SV}{B:Heap}{M:Program}{n:Nat}{f:Addr}{T:FuncData}
theorem Jl(Tk:TOk w Gv Att Tb K Q)(hF:Fun K "law" "law" (c_ 64) f T):FnOk M w K Q B lC (n+2) f T ["_law_script"] (qF K (bp 1 6 (DF (Ph (n+1)) qo))):=by
 have hd:bf ∈ Tb:=by simp[Tb]
 have hdc:bt ∈ Tb:=by simp[Tb]
 have hsc:=tj (bj.mp Tk.sc _ hd);obtain⟨fc,Z,dc⟩:=Tk.fn _ hdc;refine Dg (N:=bf.N) (b:=DF (Ph (n+1)) qo) hF hsc λV hcd A o s H E hr=>?_;have c:=wB (Pg:=M) (base:=B) Tk (uf Tk (n+1)) hd (f:=f) V hcd A o s H E hr;generalize u:(ly lC M w K Q B bf.N bf.name (aQ bf.st) f V A o s H E).nox=X at c;have XK:X.K=K:=by rw[<- u];rfl
 have XM:X.g=Q:=by rw[<- u];rfl
 have hr':Room (n+1) X.A:=by rw[<- u];exact hr
 have GC:FnOkN 1 X.p X.w X.K X.g X.b lC (n+1) fc Z ["_law_text_here"] (G0 X.K (pureOf qo)):=by rw[<- u];exact(Dt (n:=n) Tk dc.fn).pure
 have hp:PassesOwn (model X.p X.w) X.A X.e X.xe:=by rw[<- u];exact lD
 have all:∀st g,uq (oO Gv Att Tb (eA Gv Att Tb (n+1)) bf) 60 st=some g->PS X st (f_ X.K g):=by rw[<- u]at c ⊢;exact λst g q=>sT c (λ_=>rfl) lD (λ_ _ z=>z) 60 st g q
 have W:∀e g,(tr (oO Gv Att Tb (eA Gv Att Tb (n+1)) bf) 60 e).v=some g->PE X e (tV X.K g):=λe g q=>(pf 60 _ X c e).v g q;obtain⟨s1,s2,s3,s4,s5,sb,tg,r,a,P,F,L,R,p0,pl,pb,po,ap,cp,p1,p2,pn,pc,S,l,e,t1,t2,t3,t4,t5,tb,t6,t7,v1,v2,v3,v4,v5,n1,b1,g1,g3,g4⟩:∃s1 s2 s3 s4 s5 sb tg r a P F L R,∃p0 pl pb po ap cp p1 p2 pn pc S l:Pos,da (c_ 64)=[.For tg (.BinOp a .Add (.List [.Constant (.int 0) 0 p0] pl) pb) [s1,s2,s3,s4,.For r (.List [P,.Call (.Attribute F "replace" ap) [.Constant (.str " ") 0 p1,.Constant (.str "  ") 0 p2] [] cp,L,.Call (.Name "_law_close" pn) [R] [] pc] S) [sb] [] l] [] po,s5]
   /\ uq (oO Gv Att Tb (eA Gv Att Tb (n+1)) bf) 60 s1=some (aO 2 (Y (au (pureOf (Ph (n+1) "_law_fact")) (ab (vE (U 1)) (ab (vC (.int 0)) (ab (vC (.int 3)) af))))))
   /\ uq (oO Gv Att Tb (eA Gv Att Tb (n+1)) bf) 60 s2=some (aO 3 (Y (au (pureOf (Ph (n+1) "_law_text")) (ab (vE (U 2)) af))))
   /\ uq (oO Gv Att Tb (eA Gv Att Tb (n+1)) bf) 60 s3=some (aO 4 (Y (au (pureOf (Ph (n+1) "shown_fact")) (ab (vE (U 2)) af))))
   /\ uq (oO Gv Att Tb (eA Gv Att Tb (n+1)) bf) 60 s4=some (bI (rn (mv (bT (Y (DS ["str"] (U 4))))) (rn (bV (aI lA (U 4) (U 3))) (bV (aI lA (U 2) (Y (au (pureOf (Ph (n+1) "_law_fact")) (ab (vE (U 1)) (ab (vC (.int 0)) (ab (vC (.int 3)) af))))))))) (aV (Y (vC (.bl false)))) cM)
   /\ uq (oO Gv Att Tb (eA Gv Att Tb (n+1)) bf) 60 s5=some (aV (Y (vC (.bl true))))
   /\ uq (oO Gv Att Tb (eA Gv Att Tb (n+1)) bf) 60 sb=some (jl (Ph (n+1)))
   /\ wI (oO Gv Att Tb (eA Gv Att Tb (n+1)) bf).N (oO Gv Att Tb (eA Gv Att Tb (n+1)) bf).ks [.local,.cell] tg=some (cF 1)/\wI (oO Gv Att Tb (eA Gv Att Tb (n+1)) bf).N (oO Gv Att Tb (eA Gv Att Tb (n+1)) bf).ks [.local,.cell] r=some (cF 5)
   /\ (tr (oO Gv Att Tb (eA Gv Att Tb (n+1)) bf) 60 a).v=some (jv (vE (U 0)) jN (b9 (vC (.int 24))))
   /\ (tr (oO Gv Att Tb (eA Gv Att Tb (n+1)) bf) 60 P).v=some (vE (U 4))/\(tr (oO Gv Att Tb (eA Gv Att Tb (n+1)) bf) 60 F).v=some (vE (U 3))/\(tr (oO Gv Att Tb (eA Gv Att Tb (n+1)) bf) 60 L).v=some (aH aD (aH aD (vC (.str " ")) (vE (U 3))) (vC (.str " ")))/\(tr (oO Gv Att Tb (eA Gv Att Tb (n+1)) bf) 60 R).v=some (vE (U 3))
   /\ (ap.endLine == cp.line)=true/\(∀h,attributeBase F "replace" h (eval F h)=eval F h)/\(∀h d,starEach (P::d) h=(false,eval P h)::starEach d h)/\(∀h d,starEach (L::d) h=(false,eval L h)::starEach d h)/\(∀h d,starEach (R::d) h=(false,eval R h)::starEach d h):=
  ⟨_,_,_,_,_,_,_,_,_,_,_,_,_,_,_,_,_,_,_,_,_,_,_,_,_,rfl,by kernel_rfl,by kernel_rfl,by kernel_rfl,by kernel_rfl,by kernel_rfl,by kernel_rfl,by kernel_rfl,by kernel_rfl,by kernel_rfl,by kernel_rfl,by kernel_rfl,by kernel_rfl,by kernel_rfl,rfl,λ_=>rfl,λ_ _=>rfl,λ_ _=>rfl,λ_ _=>rfl⟩
 have gl:Gl X "_law_close":=c.gl (by kernel_rfl);have hm:X.g "_law_close"=some (.ref fc):=by rw[XM];exact dc.gl (by kernel_rfl)
 have hk:eT X.K (.ref fc)=true:=by rw[XK];exact dc.fn.kp
 have hb:Binds X.K Z ["_law_text_here"] []:=by rw[XK];exact dc.bd
 have tgs:∀t g,wI (oO Gv Att Tb (eA Gv Att Tb (n+1)) bf).N (oO Gv Att Tb (eA Gv Att Tb (n+1)) bf).ks [.local,.cell] t=some g->PG X t (gT X.K g):=by rw[<- u]at c ⊢;exact λt g q=>y6 c.calm c.hN c.nd (λx hx=>⟨c.loc hx,.inl rfl⟩) q
 have c4:=(HK GC hr' gl hm hk hb (Hw (W R _ v5) GB (g4 _ _)).bn (by decide +kernel) (g4 _ _) (o:=pc) (p:=pn)).g;have i2:=QK (tg:=r) (GN (o:=S) (p_ (W P _ v2).bn.g (p_ (K6 (p:=p1) (V:=p2) (N:=0) (R:=0) (W F _ v3) (b1 _) n1 (y:=" ") (v:="  ") (by decide +kernel)).g (p_ (W L _ v4).bn.g (p_ c4 GB.bn).n (g3 _ _)).n).n (g1 _ _)));have f2:=GK (pos:=l) hp c.calm i2 (tgs r _ t7) (Bk (all sb _ tb).bn);have i1:=QK (tg:=tg) (OP (C:=λ_=>True) (p:=pb) Cm (W a _ v1) (GN (o:=pl) (p_ (La (i:=0) (j:=0) (p:=p0)) GB.bn)));have f1:=GK (pos:=po) hp c.calm i1 (tgs tg _ t6) (k9 (all s1 _ t1).bn (k9 (all s2 _ t2).bn (k9 (all s3 _ t3).bn (k9 (all s4 _ t4).bn (Bk (λm s J H D k I q=>f2 m s J H D k I q))))));have G:=GL (f:=_) (g:=_) (λm s J H D I q=>f1 m s J H D trivial I q) (KO (all s5 _ t5));subst u;rw[e];exact G
end My
set_option tactic.hygienic false
namespace My
open PySem L2 Ev
theorem P0{x:Type}{u:List x}{n:Nat}(h:u.length=n+1):∃a r,u=a::r/\r.length=n:=by
 cases u with
 |nil=>cases h
 |cons a r=>exact⟨a,r,rfl,Nat.succ.inj h⟩
theorem uV{e:Type}{u:List e}(h:u.length=1):∃a,u=[a]:=by obtain⟨a,r,rfl,x⟩:=P0 h;exact⟨a,by rw[iT x]⟩
theorem vU{e:Type}{u:List e}(h:u.length=2):∃a b,u=[a,b]:=by obtain⟨a,r,rfl,x⟩:=P0 h;obtain⟨b,rfl⟩:=uV x;exact⟨a,b,rfl⟩
theorem N4{e:Type}{u:List e}(h:u.length=3):∃a b c,u=[a,b,c]:=by obtain⟨a,r,rfl,x⟩:=P0 h;obtain⟨b,c,rfl⟩:=vU x;exact⟨a,b,c,rfl⟩
theorem ux:∀{s:LS}{x:LV},s.Nodup->x.length=s.length->(s.filterMap λn=>((s.zip x).lookup n).map (n,·))=s.zip x/\∀n ∈ s,((s.zip x).lookup n).isNone=false
 | [],x,_,l=>by cases iT l;simp
 |p::s,[],_,l=>by cases l
 |p::s,u::x,k,l=>by
  obtain⟨c,m⟩:=d4.mp k;obtain⟨i,v⟩:=ux m (Nat.succ.inj l);have f:∀n ∈ s,(n == p)=false:=λn h=>beq_false_of_ne λz=>c (z ▸ h);refine⟨?_,λn t=>?_⟩
  .have r:∀{a:LS},(∀n ∈ a,(n == p)=false)->(a.filterMap λn=>(((p,u)::s.zip x).lookup n).map (n,·))=a.filterMap λn=>((s.zip x).lookup n).map (n,·):=λ{a} h=>by
    induction a with
    |nil=>rfl
    |cons q a d=>rw[lR,lR,d λn k=>h n (aW _ k)];simp[bz,h q aM]
   rw[lQ,List.filterMap_cons_some (b:=(p,u)) (by simp[yw]),r f,i]
  .rw [lQ];by_cases e:n=p
   .subst e;simp[bz]
   .simp only[bz,beq_false_of_ne e];exact v n ((aU.mp t).resolve_left e)
noncomputable def wV(a:Arguments)(p:LS):Bool:=a.posonlyargs.isEmpty && a.kwonlyargs.isEmpty && a.vararg.isNone && a.kwarg.isNone && decide (a.args.map (·.arg)=p) && decide p.Nodup
theorem DD{T:FuncData}{p:LS}(h:wV T.params p=true)(d:T.defaults=.none){u:LV}(l:u.length=p.length):bindArgs T ⟨u,[]⟩=pure (p.zip u):=by
 simp only[wV,aE,gY,oo,Option.isNone_iff_eq_none]at h;obtain⟨⟨⟨⟨⟨x,a⟩,e⟩,s⟩,k⟩,f⟩:=h;obtain⟨c,r⟩:=ux f l;have m:(p.filter λn=>((p.zip u).lookup n).isNone)=[]:=List.filter_eq_nil_iff.mpr λn b=>by simp[r n b]
 have t:p.take p.length=p:=yn;have z:p.drop p.length=[]:=lN;unfold bindArgs;simp only[x,a,e,s,k,d,gZ,cI,cg,l];simp[seqItems?,m,c,z];rfl
theorem sc:Tb.all NX=true:=by decide +kernel
theorem un:(Tb.map (·.name)).Nodup:=by decide +kernel
inductive Fn(K:FG)(x:Str)(st:Stmt):Prop
 |mk (f:Addr) (oc:Value) (od:Option Addr) (kV dc pm:Value) (an:Option Addr) (cd ct:Value) (sl:Array (OV)):c7 K mainGlobals x=some (some (.ref f))->K.lookup f=some ⟨oc,od,.func (gc x x (hU st) (da st) (aQ st) .none kV dc pm an cd ct),sl⟩->gd K cd x=true->eT K (.ref f)=true->Fn K x st
def IU(d:Df):Bool:=d.cls.cps.isEmpty && decide (d.short=d.name) && wV (hU d.st) d.ps
def jC:List Df:=[j4,jc,j3,eN,jd,gv,eU,cW,ja,im,gp,gn,dS,dR,dq,eM,gq,bt,jb,j2,gw,fy,ei,eW,gu,gx,ir,iq,i_,ip,io,bf]
theorem PV:jC.all IU=true:=by decide +kernel
structure Ckd(K:FG)(x:Str)(C:Addr):Prop where
 ns:c7 K mainGlobals x=some (some (.ref C))
 get:o5 K C Str.empty=true
 dct:sm K C=true
 ovr:wy K C=true
 set:bL K (.ref C) "__setattr__"=some (some (.builtin "object.__setattr__"))
 mak:wu K C=true
 kp:eT K (.ref C)=true
inductive Mtd(K:FG)(C:Addr)(st:Stmt)(m q:Str)(dV:Value):Prop
 |mk (f:Addr) (oc:Value) (od:Option Addr) (kV dc pm:Value) (an:Option Addr) (cd ct:Value) (sl:Array (OV)):bL K (.ref C) m=some (some (.ref f))->rV K (.ref f)=true->K.lookup f=some ⟨oc,od,.func (gc m q (hU st) (da st) (aQ st) dV kV dc pm an cd ct),sl⟩->gd K cd q=true->eT K (.ref f)=true->Mtd K C st m q dV
section
variable{K:FG}{h:Heap}{Q:SV}(X:K.In h)(G:h.Ns mainGlobals Q)
include X G
theorem dk{d:Df}(H:Fn K d.name d.st)(p:IU d=true):∃f T,DOk K Q d f T:=by obtain⟨x,j,e,st,N,i,u,v⟩:=d;simp only[IU,aE,lU,gY]at p;obtain⟨⟨s,rfl⟩,n⟩:=p;obtain⟨f,o,w,kV,q,g,m,r,t,y,a,l,c,k⟩:=H;exact⟨_,_,⟨Dc l c k,.all λz b=>DD n rfl b,λ_=>⟨_,_,_,_,_,_,rfl⟩,λ_=>dM X G a,λ(h:e.cps.isEmpty=false)=>absurd h (by rw[s];decide)⟩⟩
theorem dm{C:Addr}{st:Stmt}{x m q:Str}{V:Value}{N s i v:LS}(c:Ckd K x C)(M:Mtd K C st m q V)(g:x.cps.isEmpty=false)
  (u:∀(kV o p:Value)(n:Option Addr)(d t:Value),Binds K (gc m q (hU st) (da st) (aQ st) V kV o p n d t) s []):∃f T,DOk K Q ⟨q,m,x,st,N,s,i,v⟩ f T:=by
 obtain⟨f,j,y,kV,r,p,n,e,t,H,a,w,l,b,k⟩:=M;have h:x.cps.isEmpty=true->False:=λz=>by rw[g]at z;cases z
 exact⟨_,_,⟨Dc l b k,u kV r p n e t,λz=>(h z).elim,λz=>(h z).elim,λ_=>⟨C,c.ns,dM X G c.ns,⟨c.get,c.dct,c.ovr,c.set⟩,λz=>⟨c.mak,z ▸ a,w,c.kp⟩,λ_=>⟨a,w,k⟩⟩⟩⟩
end
def Gi(K:FG)(x:Str)(i:Int):Prop:=∃t,c7 K mainGlobals x=some (some (.int i t))
theorem nk{w:World}{K:FG}{h:Heap}{Q:SV}(X:K.In h)(G:h.Ns mainGlobals Q){x:Str}{i:Int}(H:Gi K x i):d9 w K Q x (.int i):=by obtain⟨t,a⟩:=H;exact .plain ⟨_,.int i,dM X G a,⟨_,rfl⟩,λ_ _=>rfl⟩ rfl
structure FactReaderOk(K:FG)(C:Addr):Prop where
 ck:Ckd K "FactReader" C
 a_marks:bL K (.ref C) "marks"=some none
 a_pieces:bL K (.ref C) "pieces"=some none
 a_spot:bL K (.ref C) "spot"=some none
 a_trees:bL K (.ref C) "trees"=some none
 a_wanted:bL K (.ref C) "wanted"=some none
 m_FactReader_take:Mtd K C (L2.ar (c_ 46) 2) "take" "FactReader.take" .none
 m_FactReader_fold:Mtd K C (L2.ar (c_ 46) 16) "fold" "FactReader.fold" .none
 m_FactReader_next_kind:Mtd K C (L2.ar (c_ 46) 1) "next_kind" "FactReader.next_kind" .none
 m_FactReader_goes_on:Mtd K C (L2.ar (c_ 46) 7) "goes_on" "FactReader.goes_on" .none
 m_FactReader_taken:Mtd K C (L2.ar (c_ 46) 3) "taken" "FactReader.taken" .none
 m_FactReader_keep_part:Mtd K C (L2.ar (c_ 46) 13) "keep_part" "FactReader.keep_part" .none
 m_FactReader_read_amount:Mtd K C (L2.ar (c_ 46) 11) "read_amount" "FactReader.read_amount" .none
 m_FactReader_read_letters:Mtd K C (L2.ar (c_ 46) 9) "read_letters" "FactReader.read_letters" .none
 m_FactReader_open_knowing:Mtd K C (L2.ar (c_ 46) 12) "open_knowing" "FactReader.open_knowing" .none
 m_FactReader_read_hand_part:Mtd K C (L2.ar (c_ 46) 10) "read_hand_part" "FactReader.read_hand_part" .none
 m_FactReader_read_part:Mtd K C (L2.ar (c_ 46) 8) "read_part" "FactReader.read_part" .none
 m_FactReader_read_joint:Mtd K C (L2.ar (c_ 46) 14) "read_joint" "FactReader.read_joint" .none
 m_FactReader_close:Mtd K C (L2.ar (c_ 46) 15) "close" "FactReader.close" .none
 m_FactReader_fact_up_to:Mtd K C (L2.ar (c_ 46) 6) "fact_up_to" "FactReader.fact_up_to" .none
 m_FactReader_init:Mtd K C (L2.ar (c_ 46) 0) "__init__" "FactReader.__init__" .none
structure ReaderOk(K:FG)(C:Addr):Prop where
 ck:Ckd K "Reader" C
 a_marks:bL K (.ref C) "marks"=some none
 a_sought:bL K (.ref C) "sought"=some none
 a_spot:bL K (.ref C) "spot"=some none
 a_text:bL K (.ref C) "text"=some none
 a_trees:bL K (.ref C) "trees"=some none
 a_wanted:bL K (.ref C) "wanted"=some none
 m_Reader_fold:Mtd K C (L2.ar (c_ 22) 19) "fold" "Reader.fold" .none
 m_Reader_run_of:Mtd K C (L2.ar (c_ 22) 13) "run_of" "Reader.run_of" .none
 m_Reader_keep:Mtd K C (L2.ar (c_ 22) 18) "keep" "Reader.keep" .none
 m_Reader_push:Mtd K C (L2.ar (c_ 22) 17) "push" "Reader.push" .none
 m_Reader_read_letters:Mtd K C (L2.ar (c_ 22) 4) "read_letters" "Reader.read_letters" .none
 m_Reader_touches:Mtd K C (L2.ar (c_ 22) 14) "touches" "Reader.touches" .none
 m_Reader_has_sum:Mtd K C (L2.ar (c_ 22) 15) "has_sum" "Reader.has_sum" .none
 m_Reader_read_joint:Mtd K C (L2.ar (c_ 22) 8) "read_joint" "Reader.read_joint" .none
 m_Reader_skip_blanks:Mtd K C (L2.ar (c_ 22) 12) "skip_blanks" "Reader.skip_blanks" .none
 m_Reader_last_mark:Mtd K C (L2.ar (c_ 22) 16) "last_mark" "Reader.last_mark" .none
 m_Reader_read_end:Mtd K C (L2.ar (c_ 22) 11) "read_end" "Reader.read_end" .none
 m_Reader_read_number:Mtd K C (L2.ar (c_ 22) 3) "read_number" "Reader.read_number" .none
 m_Reader_read_beginning:Mtd K C (L2.ar (c_ 22) 2) "read_beginning" "Reader.read_beginning" .none
 m_Reader_read_sign:Mtd K C (L2.ar (c_ 22) 6) "read_sign" "Reader.read_sign" .none
 m_Reader_read_comparison:Mtd K C (L2.ar (c_ 22) 7) "read_comparison" "Reader.read_comparison" .none
 m_Reader_read_round_end:Mtd K C (L2.ar (c_ 22) 9) "read_round_end" "Reader.read_round_end" .none
 m_Reader_read_square_end:Mtd K C (L2.ar (c_ 22) 10) "read_square_end" "Reader.read_square_end" .none
 m_Reader_read_behind:Mtd K C (L2.ar (c_ 22) 5) "read_behind" "Reader.read_behind" .none
 m_Reader_read:Mtd K C (L2.ar (c_ 22) 1) "read" "Reader.read" .none
 m_Reader_init:Mtd K C (L2.ar (c_ 22) 0) "__init__" "Reader.__init__" .none
def RR(K:FG):Prop:=∃(a:Addr)(n:Nat)(s:Array (OV))(t h x e k f:Tok),c7 K mainGlobals "COMPARISONS"=some (some (.ref a))/\K.lookup a=some ⟨.type "tuple",none,.seq #[.str "=" t,.str "!=" h,.str "<" x,.str "<=" e,.str ">" k,.str ">=" f] n,s⟩
def RQ(K:FG):Prop:=∃(a:Addr)(n:Nat)(l:Array (OV))(p q v d w u g i j y t h x e s k f b c m r:Tok),c7 K mainGlobals "FACT_WORDS"=some (some (.ref a))/\K.lookup a=some ⟨.type "tuple",none,.seq #[.str "or" p,.str "and" q,.str "not" v,.str "true" d,.str "dry" w,.str "some" u,.str "all" g,.str "each" i,.str "many" j,.str "at" y,.str "when" t,.str "letters" h,.str "to" x,.str "knows" e,.str "never" s,.str "always" k,.str "ahead" f,.str "of" b,.str "last" c,.str "whenever" m,.str "can" r] n,l⟩
def RN(K:FG):Prop:=∃t:Tok,c7 K mainGlobals "FIGURES"=some (some (.str "0123456789" t))
def RM(K:FG):Prop:=∃(a:Addr)(n:Nat)(s:Array (OV))(t h x:Tok),c7 K mainGlobals "HAND_PARTS"=some (some (.ref a))/\K.lookup a=some ⟨.type "tuple",none,.seq #[.str "some" t,.str "all" h,.str "many" x] n,s⟩
def RJ(w:World)(K:FG):Prop:=∃(a:Addr)(n:Nat)(h x e s k:Int)(t u f r b p c q m v:Tok),c7 K mainGlobals "KINDS"=some (some (.ref a))/\K.lookup a=some ⟨.type "dict",none,.dict #[⟨h,.str "or" t,.str "or" u⟩,⟨x,.str "and" f,.str "and" r⟩,⟨e,.str "+" b,.str "plus" p⟩,⟨s,.str "-" c,.str "minus" q⟩,⟨k,.str "*" m,.str "times" v⟩] n,#[]⟩/\(a == sysModules)=false/\h=hashStr w "or"/\x=hashStr w "and"/\e=hashStr w "+"/\s=hashStr w "-"/\k=hashStr w "*"
def RI(K:FG):Prop:=∃(a:Addr)(n:Nat)(s:Array (OV))(t h:Tok),c7 K mainGlobals "KNOWING"=some (some (.ref a))/\K.lookup a=some ⟨.type "tuple",none,.seq #[.str "some knows" t,.str "each knows" h] n,s⟩
def RH(K:FG):Prop:=∃t:Tok,c7 K mainGlobals "LETTERS"=some (some (.str "abcdefghijklmnopqrstuvwxyz" t))
def RG(w:World)(K:FG):Prop:=∃(a:Addr)(n:Nat)(h x e:Int)(t u s f k b:Tok),c7 K mainGlobals "LEVELS"=some (some (.ref a))/\K.lookup a=some ⟨.type "dict",none,.dict #[⟨h,.str "or" t,.int 1 u⟩,⟨x,.str "and" s,.int 2 f⟩,⟨e,.str "not" k,.int 3 b⟩] n,#[]⟩/\(a == sysModules)=false/\h=hashStr w "or"/\x=hashStr w "and"/\e=hashStr w "not"
def QA(w:World)(K:FG):Prop:=∃(a:Addr)(n:Nat)(p q v d g i j l y z h x e s:Int)(o G H I S L F M P N A Q B R C T D V E W t u k c f m b r:Tok),c7 K mainGlobals "MARK_LEVELS"=some (some (.ref a))/\K.lookup a=some ⟨.type "dict",none,.dict #[⟨p,.str "(" o,.int 0 G⟩,⟨q,.str "[" H,.int 0 I⟩,⟨v,.str "or" S,.int 1 L⟩,⟨d,.str "and" F,.int 2 M⟩,⟨g,.str "not" P,.int 3 N⟩,⟨i,.str "=" A,.int 4 Q⟩,⟨j,.str "!=" B,.int 4 R⟩,⟨l,.str "<" C,.int 4 T⟩,⟨y,.str "<=" D,.int 4 V⟩,⟨z,.str ">" E,.int 4 W⟩,⟨h,.str ">=" t,.int 4 u⟩,⟨x,.str "+" k,.int 5 c⟩,⟨e,.str "-" f,.int 5 m⟩,⟨s,.str "*" b,.int 6 r⟩] n,#[]⟩/\(a == sysModules)=false/\p=hashStr w "("/\q=hashStr w "["/\v=hashStr w "or"/\d=hashStr w "and"/\g=hashStr w "not"/\i=hashStr w "="/\j=hashStr w "!="/\l=hashStr w "<"/\y=hashStr w "<="/\z=hashStr w ">"/\h=hashStr w ">="/\x=hashStr w "+"/\e=hashStr w "-"/\s=hashStr w "*"
def Qz(w:World)(K:FG):Prop:=∃(a:Addr)(n:Nat)(h x e s k:Int)(t u f r b p c q m v:Tok),c7 K mainGlobals "SIGNS"=some (some (.ref a))/\K.lookup a=some ⟨.type "dict",none,.dict #[⟨h,.str "or" t,.str "or" u⟩,⟨x,.str "and" f,.str "and" r⟩,⟨e,.str "plus" b,.str "+" p⟩,⟨s,.str "minus" c,.str "-" q⟩,⟨k,.str "times" m,.str "*" v⟩] n,#[]⟩/\(a == sysModules)=false/\h=hashStr w "or"/\x=hashStr w "and"/\e=hashStr w "plus"/\s=hashStr w "minus"/\k=hashStr w "times"
def Qy(K:FG):Prop:=∃(a:Addr)(n:Nat)(s:Array (OV))(t h x e k:Tok),c7 K mainGlobals "SUM_KINDS"=some (some (.ref a))/\K.lookup a=some ⟨.type "tuple",none,.seq #[.str "number" t,.str "name" h,.str "plus" x,.str "minus" e,.str "times" k] n,s⟩
def Qx(w:World)(K:FG):Prop:=∃(a:Addr)(n:Nat)(h x e s k f b c m r:Int)(t y p z q o v H d S u F g P i A j B l C:Tok),c7 K mainGlobals "TREE_LEVELS"=some (some (.ref a))/\K.lookup a=some ⟨.type "dict",none,.dict #[⟨h,.str "or" t,.int 1 y⟩,⟨x,.str "and" p,.int 2 z⟩,⟨e,.str "not" q,.int 3 o⟩,⟨s,.str "is" v,.int 4 H⟩,⟨k,.str "true" d,.int 4 S⟩,⟨f,.str "plus" u,.int 5 F⟩,⟨b,.str "minus" g,.int 5 P⟩,⟨c,.str "times" i,.int 6 A⟩,⟨m,.str "number" j,.int 7 B⟩,⟨r,.str "name" l,.int 7 C⟩] n,#[]⟩/\(a == sysModules)=false/\h=hashStr w "or"/\x=hashStr w "and"/\e=hashStr w "not"/\s=hashStr w "is"/\k=hashStr w "true"/\f=hashStr w "plus"/\b=hashStr w "minus"/\c=hashStr w "times"/\m=hashStr w "number"/\r=hashStr w "name"
def Qw(K:FG):Prop:=∃(a:Addr)(n:Nat)(s:Array (OV))(t h x e:Tok),c7 K mainGlobals "WORDS"=some (some (.ref a))/\K.lookup a=some ⟨.type "tuple",none,.seq #[.str "or" t,.str "and" h,.str "not" x,.str "true" e] n,s⟩
open PySem.W in
theorem Kc{w:World}{K:Frag}{h:Heap}{Q:SV}(X:K.In h)(G:h.Ns mainGlobals Q){C0 C1:Addr}(k:FactReaderOk K C0)(r:ReaderOk K C1)
  (hh:∀d ∈ jC,Fn K d.name d.st) (g0:Gi K "BRACKET_LEVEL" (0)) (g1:RR K) (g2:RQ K) (g3:RN K) (g4:RM K) (g5:Gi K "IS_LEVEL" (4)) (g6:RJ w K) (g7:RI K) (g8:RH K) (g9:RG w K) (I:QA w K) (L:Gi K "MOST_FIGURES" (3)) (M:Gi K "MOST_LETTERS" (10)) (N:Gi K "NOT_LEVEL" (3)) (R:Gi K "OR_LEVEL_texts" (1)) (V:Gi K "OR_LEVEL_words" (1)) (W:Gi K "PLUS_LEVEL" (5)) (Z:Qz w K) (g18:Qy K) (g19:Qx w K) (g20:Qw K) (z:∀x ∈ DB,nsIn K mainGlobals x=some none):TOk w Gv Att Tb K Q:=by
 refine⟨λd H=>?_,sc,un,λx B=>mg_none_of X G (z x B),λx v s=>?_,λc f hc=>?_⟩
 .have p:∀d ∈ jC,∃f T,DOk K Q d f T:=λd H=>dk X G (hh d H) (bj.mp PV d H);simp only[Tb,aU,ci,ce]at H;rcases H with rfl|rfl|rfl|rfl|rfl|rfl|rfl|rfl|rfl|rfl|rfl|rfl|rfl|rfl|rfl|rfl|rfl|rfl|rfl|rfl|rfl|rfl|rfl|rfl|rfl|rfl|rfl|rfl|rfl|rfl|rfl|rfl|rfl|rfl|rfl|rfl|rfl|rfl|rfl|rfl|rfl|rfl|rfl|rfl|rfl|rfl|rfl|rfl|rfl|rfl|rfl|rfl|rfl|rfl|rfl|rfl|rfl|rfl|rfl|rfl|rfl|rfl|rfl|rfl|rfl|rfl|rfl
  .exact p _ (by simp[jC])
  .exact p _ (by simp[jC])
  .exact p _ (by simp[jC])
  .exact p _ (by simp[jC])
  .exact p _ (by simp[jC])
  .exact p _ (by simp[jC])
  .exact p _ (by simp[jC])
  .exact p _ (by simp[jC])
  .exact p _ (by simp[jC])
  .exact p _ (by simp[jC])
  .exact p _ (by simp[jC])
  .exact p _ (by simp[jC])
  .exact p _ (by simp[jC])
  .exact p _ (by simp[jC])
  .exact p _ (by simp[jC])
  .exact p _ (by simp[jC])
  .exact p _ (by simp[jC])
  .exact p _ (by simp[jC])
  .exact p _ (by simp[jC])
  .exact dm X G k.ck k.m_FactReader_take (by decide +kernel) λ_ _ _ _ _ _=>(.all λu l=>by obtain⟨_,_,rfl⟩:=vU l;rfl)
  .exact dm X G r.ck r.m_Reader_fold (by decide +kernel) λ_ _ _ _ _ _=>(.all λu l=>by obtain⟨_,_,rfl⟩:=vU l;rfl)
  .exact dm X G k.ck k.m_FactReader_fold (by decide +kernel) λ_ _ _ _ _ _=>(.all λu l=>by obtain⟨_,_,rfl⟩:=vU l;rfl)
  .exact dm X G k.ck k.m_FactReader_next_kind (by decide +kernel) λ_ _ _ _ _ _=>(.all λu l=>by obtain⟨_,rfl⟩:=uV l;rfl)
  .exact dm X G k.ck k.m_FactReader_goes_on (by decide +kernel) λ_ _ _ _ _ _=>(.all λu l=>by obtain⟨_,rfl⟩:=uV l;rfl)
  .exact dm X G k.ck k.m_FactReader_taken (by decide +kernel) λ_ _ _ _ _ _=>(.all λu l=>by obtain⟨_,_,rfl⟩:=vU l;rfl)
  .exact dm X G k.ck k.m_FactReader_keep_part (by decide +kernel) λ_ _ _ _ _ _=>(.all λu l=>by obtain⟨_,_,rfl⟩:=vU l;rfl)
  .exact dm X G r.ck r.m_Reader_run_of (by decide +kernel) λ_ _ _ _ _ _=>(.all λu l=>by obtain⟨_,_,rfl⟩:=vU l;rfl)
  .exact dm X G r.ck r.m_Reader_keep (by decide +kernel) λ_ _ _ _ _ _=>(.all λu l=>by obtain⟨_,_,_,rfl⟩:=N4 l;rfl)
  .exact dm X G r.ck r.m_Reader_push (by decide +kernel) λ_ _ _ _ _ _=>(.all λu l=>by obtain⟨_,_,_,rfl⟩:=N4 l;rfl)
  .exact dm X G r.ck r.m_Reader_read_letters (by decide +kernel) λ_ _ _ _ _ _=>(.all λu l=>by obtain⟨_,rfl⟩:=uV l;rfl)
  .exact dm X G k.ck k.m_FactReader_read_amount (by decide +kernel) λ_ _ _ _ _ _=>(.all λu l=>by obtain⟨_,rfl⟩:=uV l;rfl)
  .exact dm X G k.ck k.m_FactReader_read_letters (by decide +kernel) λ_ _ _ _ _ _=>(.all λu l=>by obtain⟨_,rfl⟩:=uV l;rfl)
  .exact dm X G k.ck k.m_FactReader_open_knowing (by decide +kernel) λ_ _ _ _ _ _=>(.all λu l=>by obtain⟨_,_,_,rfl⟩:=N4 l;rfl)
  .exact dm X G k.ck k.m_FactReader_read_hand_part (by decide +kernel) λ_ _ _ _ _ _=>(.all λu l=>by obtain⟨_,_,rfl⟩:=vU l;rfl)
  .exact dm X G k.ck k.m_FactReader_read_part (by decide +kernel) λ_ _ _ _ _ _=>(.all λu l=>by obtain⟨_,rfl⟩:=uV l;rfl)
  .exact dm X G r.ck r.m_Reader_touches (by decide +kernel) λ_ _ _ _ _ _=>(.all λu l=>by obtain⟨_,rfl⟩:=uV l;rfl)
  .exact dm X G r.ck r.m_Reader_has_sum (by decide +kernel) λ_ _ _ _ _ _=>(.all λu l=>by obtain⟨_,rfl⟩:=uV l;rfl)
  .exact dm X G r.ck r.m_Reader_read_joint (by decide +kernel) λ_ _ _ _ _ _=>(.all λu l=>by obtain⟨_,_,rfl⟩:=vU l;rfl)
  .exact dm X G k.ck k.m_FactReader_read_joint (by decide +kernel) λ_ _ _ _ _ _=>(.all λu l=>by obtain⟨_,_,rfl⟩:=vU l;rfl)
  .exact dm X G k.ck k.m_FactReader_close (by decide +kernel) λ_ _ _ _ _ _=>(.all λu l=>by obtain⟨_,rfl⟩:=uV l;rfl)
  .exact dm X G k.ck k.m_FactReader_fact_up_to (by decide +kernel) λ_ _ _ _ _ _=>(.all λu l=>by obtain⟨_,_,rfl⟩:=vU l;rfl)
  .exact p _ (by simp[jC])
  .exact p _ (by simp[jC])
  .exact p _ (by simp[jC])
  .exact dm X G r.ck r.m_Reader_skip_blanks (by decide +kernel) λ_ _ _ _ _ _=>(.all λu l=>by obtain⟨_,rfl⟩:=uV l;rfl)
  .exact dm X G r.ck r.m_Reader_last_mark (by decide +kernel) λ_ _ _ _ _ _=>(.all λu l=>by obtain⟨_,rfl⟩:=uV l;rfl)
  .exact dm X G r.ck r.m_Reader_read_end (by decide +kernel) λ_ _ _ _ _ _=>(.all λu l=>by obtain⟨_,rfl⟩:=uV l;rfl)
  .exact dm X G r.ck r.m_Reader_read_number (by decide +kernel) λ_ _ _ _ _ _=>(.all λu l=>by obtain⟨_,rfl⟩:=uV l;rfl)
  .exact dm X G r.ck r.m_Reader_read_beginning (by decide +kernel) λ_ _ _ _ _ _=>(.all λu l=>by obtain⟨_,_,rfl⟩:=vU l;rfl)
  .exact dm X G r.ck r.m_Reader_read_sign (by decide +kernel) λ_ _ _ _ _ _=>(.all λu l=>by obtain⟨_,_,rfl⟩:=vU l;rfl)
  .exact dm X G r.ck r.m_Reader_read_comparison (by decide +kernel) λ_ _ _ _ _ _=>(.all λu l=>by obtain⟨_,_,rfl⟩:=vU l;rfl)
  .exact dm X G r.ck r.m_Reader_read_round_end (by decide +kernel) λ_ _ _ _ _ _=>(.all λu l=>by obtain⟨_,rfl⟩:=uV l;rfl)
  .exact dm X G r.ck r.m_Reader_read_square_end (by decide +kernel) λ_ _ _ _ _ _=>(.all λu l=>by obtain⟨_,rfl⟩:=uV l;rfl)
  .exact dm X G r.ck r.m_Reader_read_behind (by decide +kernel) λ_ _ _ _ _ _=>(.all λu l=>by obtain⟨_,_,rfl⟩:=vU l;rfl)
  .exact dm X G r.ck r.m_Reader_read (by decide +kernel) λ_ _ _ _ _ _=>(.all λu l=>by obtain⟨_,rfl⟩:=uV l;rfl)
  .exact dm X G r.ck r.m_Reader_init (by decide +kernel) λ_ _ _ _ _ _=>(.all λu l=>by obtain⟨_,_,_,rfl⟩:=N4 l;rfl)
  .exact p _ (by simp[jC])
  .exact p _ (by simp[jC])
  .exact p _ (by simp[jC])
  .exact p _ (by simp[jC])
  .exact p _ (by simp[jC])
  .exact p _ (by simp[jC])
  .exact p _ (by simp[jC])
  .exact p _ (by simp[jC])
  .exact dm X G k.ck k.m_FactReader_init (by decide +kernel) λ_ _ _ _ _ _=>(.all λu l=>by obtain⟨_,_,rfl⟩:=vU l;rfl)
  .exact p _ (by simp[jC])
  .exact p _ (by simp[jC])
 .unfold Gv at s;by_cases e:x=("BRACKET_LEVEL":Str)
  .rw [ac e]at s;subst e;cases s;exact nk X G g0
  rw[ae e]at s;clear e;by_cases e:x=("COMPARISONS":Str)
  .rw [ac e]at s;subst e;cases s;obtain⟨a,n,S,q,g,j,y,o,t5,b,m⟩:=g1;exact .plain (gb ["=","!=","<","<=",">",">="] (dM X G b) m (by show 6≤sizeLine;decide) (.cons ⟨_,rfl⟩ (.cons ⟨_,rfl⟩ (.cons ⟨_,rfl⟩ (.cons ⟨_,rfl⟩ (.cons ⟨_,rfl⟩ (.cons ⟨_,rfl⟩ .nil))))))) rfl
  rw[ae e]at s;clear e;by_cases e:x=("FACT_WORDS":Str)
  .rw [ac e]at s;subst e;cases s;obtain⟨a,n,S,q,g,j,y,o,t5,t6,t7,t8,t9,t10,t11,t12,t13,t14,t15,t16,t17,t18,t19,t20,b,m⟩:=g2;exact .plain (gb ["or","and","not","true","dry","some","all","each","many","at","when","letters","to","knows","never","always","ahead","of","last","whenever","can"] (dM X G b) m (by show 21≤sizeLine;decide) (.cons ⟨_,rfl⟩ (.cons ⟨_,rfl⟩ (.cons ⟨_,rfl⟩ (.cons ⟨_,rfl⟩ (.cons ⟨_,rfl⟩ (.cons ⟨_,rfl⟩ (.cons ⟨_,rfl⟩ (.cons ⟨_,rfl⟩ (.cons ⟨_,rfl⟩ (.cons ⟨_,rfl⟩ (.cons ⟨_,rfl⟩ (.cons ⟨_,rfl⟩ (.cons ⟨_,rfl⟩ (.cons ⟨_,rfl⟩ (.cons ⟨_,rfl⟩ (.cons ⟨_,rfl⟩ (.cons ⟨_,rfl⟩ (.cons ⟨_,rfl⟩ (.cons ⟨_,rfl⟩ (.cons ⟨_,rfl⟩ (.cons ⟨_,rfl⟩ .nil)))))))))))))))))))))) rfl
  rw[ae e]at s;clear e;by_cases e:x=("FIGURES":Str)
  .rw [ac e]at s;subst e;cases s;obtain⟨t,b⟩:=g3;exact .plain ⟨_,.str "0123456789",dM X G b,⟨_,rfl⟩,λ_ _=>rfl⟩ rfl
  rw[ae e]at s;clear e;by_cases e:x=("HAND_PARTS":Str)
  .rw [ac e]at s;subst e;cases s;obtain⟨a,n,S,q,g,j,b,m⟩:=g4;exact .plain (gb ["some","all","many"] (dM X G b) m (by show 3≤sizeLine;decide) (.cons ⟨_,rfl⟩ (.cons ⟨_,rfl⟩ (.cons ⟨_,rfl⟩ .nil)))) rfl
  rw[ae e]at s;clear e;by_cases e:x=("IS_LEVEL":Str)
  .rw [ac e]at s;subst e;cases s;exact nk X G g5
  rw[ae e]at s;clear e;by_cases e:x=("KINDS":Str)
  .rw [ac e]at s;subst e;cases s;obtain⟨a,n,F,P,A,h3,h4,q,C,g,D,j,E,y,u3,o,u4,b,m,i,q0,q1,q2,q3,q4⟩:=g6;exact d9.tab rfl ⟨_,_,_,_,i,dM X G b,m,⟨rfl,rfl,rfl⟩,rfl,⟨⟨_,rfl⟩,q0,⟨.str "or",⟨_,rfl⟩,λ_ _ _=>rfl⟩,⟨⟨_,rfl⟩,q1,⟨.str "and",⟨_,rfl⟩,λ_ _ _=>rfl⟩,⟨⟨_,rfl⟩,q2,⟨.str "plus",⟨_,rfl⟩,λ_ _ _=>rfl⟩,⟨⟨_,rfl⟩,q3,⟨.str "minus",⟨_,rfl⟩,λ_ _ _=>rfl⟩,⟨⟨_,rfl⟩,q4,⟨.str "times",⟨_,rfl⟩,λ_ _ _=>rfl⟩,trivial⟩⟩⟩⟩⟩,by decide +kernel⟩
  rw[ae e]at s;clear e;by_cases e:x=("KNOWING":Str)
  .rw [ac e]at s;subst e;cases s;obtain⟨a,n,S,q,g,b,m⟩:=g7;exact .plain (gb ["some knows","each knows"] (dM X G b) m (by show 2≤sizeLine;decide) (.cons ⟨_,rfl⟩ (.cons ⟨_,rfl⟩ .nil))) rfl
  rw[ae e]at s;clear e;by_cases e:x=("LETTERS":Str)
  .rw [ac e]at s;subst e;cases s;obtain⟨t,b⟩:=g8;exact .plain ⟨_,.str "abcdefghijklmnopqrstuvwxyz",dM X G b,⟨_,rfl⟩,λ_ _=>rfl⟩ rfl
  rw[ae e]at s;clear e;by_cases e:x=("LEVELS":Str)
  .rw [ac e]at s;subst e;cases s;obtain⟨a,n,F,P,A,q,C,g,D,j,E,b,m,i,q0,q1,q2⟩:=g9;exact d9.tab rfl ⟨_,_,_,_,i,dM X G b,m,⟨rfl,rfl,rfl⟩,rfl,⟨⟨_,rfl⟩,q0,⟨.int 1,⟨_,rfl⟩,λ_ _ _=>rfl⟩,⟨⟨_,rfl⟩,q1,⟨.int 2,⟨_,rfl⟩,λ_ _ _=>rfl⟩,⟨⟨_,rfl⟩,q2,⟨.int 3,⟨_,rfl⟩,λ_ _ _=>rfl⟩,trivial⟩⟩⟩,by decide +kernel⟩
  rw[ae e]at s;clear e;by_cases e:x=("MARK_LEVELS":Str)
  .rw [ac e]at s;subst e;cases s;obtain⟨a,n,F,P,A,h3,h4,h5,h6,h7,h8,h9,h10,h11,h12,h13,q,C,g,D,j,E,y,u3,o,u4,t5,u5,t6,u6,t7,u7,t8,u8,t9,u9,t10,u10,t11,u11,t12,u12,t13,u13,b,m,i,q0,q1,q2,q3,q4,q5,q6,q7,q8,q9,q10,q11,q12,q13⟩:=I;exact d9.tab rfl ⟨_,_,_,_,i,dM X G b,m,⟨rfl,rfl,rfl⟩,rfl,⟨⟨_,rfl⟩,q0,⟨.int 0,⟨_,rfl⟩,λ_ _ _=>rfl⟩,⟨⟨_,rfl⟩,q1,⟨.int 0,⟨_,rfl⟩,λ_ _ _=>rfl⟩,⟨⟨_,rfl⟩,q2,⟨.int 1,⟨_,rfl⟩,λ_ _ _=>rfl⟩,⟨⟨_,rfl⟩,q3,⟨.int 2,⟨_,rfl⟩,λ_ _ _=>rfl⟩,⟨⟨_,rfl⟩,q4,⟨.int 3,⟨_,rfl⟩,λ_ _ _=>rfl⟩,⟨⟨_,rfl⟩,q5,⟨.int 4,⟨_,rfl⟩,λ_ _ _=>rfl⟩,⟨⟨_,rfl⟩,q6,⟨.int 4,⟨_,rfl⟩,λ_ _ _=>rfl⟩,⟨⟨_,rfl⟩,q7,⟨.int 4,⟨_,rfl⟩,λ_ _ _=>rfl⟩,⟨⟨_,rfl⟩,q8,⟨.int 4,⟨_,rfl⟩,λ_ _ _=>rfl⟩,⟨⟨_,rfl⟩,q9,⟨.int 4,⟨_,rfl⟩,λ_ _ _=>rfl⟩,⟨⟨_,rfl⟩,q10,⟨.int 4,⟨_,rfl⟩,λ_ _ _=>rfl⟩,⟨⟨_,rfl⟩,q11,⟨.int 5,⟨_,rfl⟩,λ_ _ _=>rfl⟩,⟨⟨_,rfl⟩,q12,⟨.int 5,⟨_,rfl⟩,λ_ _ _=>rfl⟩,⟨⟨_,rfl⟩,q13,⟨.int 6,⟨_,rfl⟩,λ_ _ _=>rfl⟩,trivial⟩⟩⟩⟩⟩⟩⟩⟩⟩⟩⟩⟩⟩⟩,by decide +kernel⟩
  rw[ae e]at s;clear e;by_cases e:x=("MOST_FIGURES":Str)
  .rw [ac e]at s;subst e;cases s;exact nk X G L
  rw[ae e]at s;clear e;by_cases e:x=("MOST_LETTERS":Str)
  .rw [ac e]at s;subst e;cases s;exact nk X G M
  rw[ae e]at s;clear e;by_cases e:x=("NOT_LEVEL":Str)
  .rw [ac e]at s;subst e;cases s;exact nk X G N
  rw[ae e]at s;clear e;by_cases e:x=("OR_LEVEL_texts":Str)
  .rw [ac e]at s;subst e;cases s;exact nk X G R
  rw[ae e]at s;clear e;by_cases e:x=("OR_LEVEL_words":Str)
  .rw [ac e]at s;subst e;cases s;exact nk X G V
  rw[ae e]at s;clear e;by_cases e:x=("PLUS_LEVEL":Str)
  .rw [ac e]at s;subst e;cases s;exact nk X G W
  rw[ae e]at s;clear e;by_cases e:x=("SIGNS":Str)
  .rw [ac e]at s;subst e;cases s;obtain⟨a,n,F,P,A,h3,h4,q,C,g,D,j,E,y,u3,o,u4,b,m,i,q0,q1,q2,q3,q4⟩:=Z;exact d9.tab rfl ⟨_,_,_,_,i,dM X G b,m,⟨rfl,rfl,rfl⟩,rfl,⟨⟨_,rfl⟩,q0,⟨.str "or",⟨_,rfl⟩,λ_ _ _=>rfl⟩,⟨⟨_,rfl⟩,q1,⟨.str "and",⟨_,rfl⟩,λ_ _ _=>rfl⟩,⟨⟨_,rfl⟩,q2,⟨.str "+",⟨_,rfl⟩,λ_ _ _=>rfl⟩,⟨⟨_,rfl⟩,q3,⟨.str "-",⟨_,rfl⟩,λ_ _ _=>rfl⟩,⟨⟨_,rfl⟩,q4,⟨.str "*",⟨_,rfl⟩,λ_ _ _=>rfl⟩,trivial⟩⟩⟩⟩⟩,by decide +kernel⟩
  rw[ae e]at s;clear e;by_cases e:x=("SUM_KINDS":Str)
  .rw [ac e]at s;subst e;cases s;obtain⟨a,n,S,q,g,j,y,o,b,m⟩:=g18;exact .plain (gb ["number","name","plus","minus","times"] (dM X G b) m (by show 5≤sizeLine;decide) (.cons ⟨_,rfl⟩ (.cons ⟨_,rfl⟩ (.cons ⟨_,rfl⟩ (.cons ⟨_,rfl⟩ (.cons ⟨_,rfl⟩ .nil)))))) rfl
  rw[ae e]at s;clear e;by_cases e:x=("TREE_LEVELS":Str)
  .rw [ac e]at s;subst e;cases s;obtain⟨a,n,F,P,A,h3,h4,h5,h6,h7,h8,h9,q,C,g,D,j,E,y,u3,o,u4,t5,u5,t6,u6,t7,u7,t8,u8,t9,u9,b,m,i,q0,q1,q2,q3,q4,q5,q6,q7,q8,q9⟩:=g19;exact d9.tab rfl ⟨_,_,_,_,i,dM X G b,m,⟨rfl,rfl,rfl⟩,rfl,⟨⟨_,rfl⟩,q0,⟨.int 1,⟨_,rfl⟩,λ_ _ _=>rfl⟩,⟨⟨_,rfl⟩,q1,⟨.int 2,⟨_,rfl⟩,λ_ _ _=>rfl⟩,⟨⟨_,rfl⟩,q2,⟨.int 3,⟨_,rfl⟩,λ_ _ _=>rfl⟩,⟨⟨_,rfl⟩,q3,⟨.int 4,⟨_,rfl⟩,λ_ _ _=>rfl⟩,⟨⟨_,rfl⟩,q4,⟨.int 4,⟨_,rfl⟩,λ_ _ _=>rfl⟩,⟨⟨_,rfl⟩,q5,⟨.int 5,⟨_,rfl⟩,λ_ _ _=>rfl⟩,⟨⟨_,rfl⟩,q6,⟨.int 5,⟨_,rfl⟩,λ_ _ _=>rfl⟩,⟨⟨_,rfl⟩,q7,⟨.int 6,⟨_,rfl⟩,λ_ _ _=>rfl⟩,⟨⟨_,rfl⟩,q8,⟨.int 7,⟨_,rfl⟩,λ_ _ _=>rfl⟩,⟨⟨_,rfl⟩,q9,⟨.int 7,⟨_,rfl⟩,λ_ _ _=>rfl⟩,trivial⟩⟩⟩⟩⟩⟩⟩⟩⟩⟩,by decide +kernel⟩
  rw[ae e]at s;clear e;by_cases e:x=("WORDS":Str)
  .rw [ac e]at s;subst e;cases s;obtain⟨a,n,S,q,g,j,y,b,m⟩:=g20;exact .plain (gb ["or","and","not","true"] (dM X G b) m (by show 4≤sizeLine;decide) (.cons ⟨_,rfl⟩ (.cons ⟨_,rfl⟩ (.cons ⟨_,rfl⟩ (.cons ⟨_,rfl⟩ .nil))))) rfl
  rw[ae e]at s;clear e;cases s
 .obtain⟨x,B,e⟩:=om.mp hc;rw[aE]at e;have b:=aG e.1;have m:f ∈ x.2:=by simpa using e.2
  subst b;simp only[Att,aU,ci,ce]at B;rcases B with rfl|rfl
  .simp only[aU,ci,ce]at m;rcases m with rfl|rfl|rfl|rfl|rfl
   .exact⟨_,k.ck.ns,⟨k.ck.get,k.ck.dct,k.ck.ovr,k.ck.set⟩,k.a_marks⟩
   .exact⟨_,k.ck.ns,⟨k.ck.get,k.ck.dct,k.ck.ovr,k.ck.set⟩,k.a_pieces⟩
   .exact⟨_,k.ck.ns,⟨k.ck.get,k.ck.dct,k.ck.ovr,k.ck.set⟩,k.a_spot⟩
   .exact⟨_,k.ck.ns,⟨k.ck.get,k.ck.dct,k.ck.ovr,k.ck.set⟩,k.a_trees⟩
   .exact⟨_,k.ck.ns,⟨k.ck.get,k.ck.dct,k.ck.ovr,k.ck.set⟩,k.a_wanted⟩
  .simp only[aU,ci,ce]at m;rcases m with rfl|rfl|rfl|rfl|rfl|rfl
   .exact⟨_,r.ck.ns,⟨r.ck.get,r.ck.dct,r.ck.ovr,r.ck.set⟩,r.a_marks⟩
   .exact⟨_,r.ck.ns,⟨r.ck.get,r.ck.dct,r.ck.ovr,r.ck.set⟩,r.a_sought⟩
   .exact⟨_,r.ck.ns,⟨r.ck.get,r.ck.dct,r.ck.ovr,r.ck.set⟩,r.a_spot⟩
   .exact⟨_,r.ck.ns,⟨r.ck.get,r.ck.dct,r.ck.ovr,r.ck.set⟩,r.a_text⟩
   .exact⟨_,r.ck.ns,⟨r.ck.get,r.ck.dct,r.ck.ovr,r.ck.set⟩,r.a_trees⟩
   .exact⟨_,r.ck.ns,⟨r.ck.get,r.ck.dct,r.ck.ovr,r.ck.set⟩,r.a_wanted⟩
theorem PX{a:Type}{x:List a}{P:a}{C:Prop}(h:x=[])(e:P ∈ x):C:=by subst h;cases e
end My
set_option tactic.hygienic true
namespace PySem.W.Fast
def tw4073823561579132791:=Nat
def tw10844796666084796489:=Nat
def tw18403461709810105393:=Nat
def tw16689038052136041838:=Nat
def tw3865972089814309988:=Nat
def tw7927528100661236563:=Nat
def tw10893656959429588221:=Nat
def tw6810886970023294569:=Nat
def tw2999649491517094651:=Nat
def tw3776062684689987809:=Nat
def tw17837887846544652209:=Nat
def tw9087993881017213472:=Nat
def tw5763303583570225801:=Nat
def tw4142125672545915591:=Nat
def tw14528128366731577919:=Nat
def tw2538444904866676247:=Nat
def tw2452160859581688164:=Nat
def tw10154591760422201443:=Nat
def tw4824655848768962460:=Nat
def tw3801634234791584478:=Nat
def tw16513545088364985241:=Nat
def tw5586066023459132793:=Nat
def tw12360381791980741040:=Nat
def tw17161730045718721993:=Nat
def tw6122887258123949122:=Nat
def tw2856568018457831451:=Nat
def tw15289130619194413424:=Nat
def tw17565022826231021144:=Nat
def tw11944327450659030264:=Nat
def tw8964599665094114110:=Nat
def tw314216565682134045:=Nat
def tw9288010135351904740:=Nat
def tw14467821474623067288:=Nat
def tw10976072792826904007:=Nat
def tw518131069586879992:=Nat
def tw5334332759488980234:=Nat
def tw11680698265510570422:=Nat
def tw16401148656267545265:=Nat
def tw1397179775353379829:=Nat
def tw9341977359078379400:=Nat
def tw7761953085341409066:=Nat
def tw11782724067502294935:=Nat
def tw11054456780250964162:=Nat
def tw5386290470792041884:=Nat
def tw2039566618351937187:=Nat
def tw13887572838682322711:=Nat
def tw7911835414786294596:=Nat
def tw7378923863078804:=Nat
def tw17574393254554638301:=Nat
def tw13080380257137416530:=Nat
def tw8126708623984323262:=Nat
def tw9104538985101405832:=Nat
def tw16106839879890348423:=Nat
def tw4314633320521061588:=Nat
def tw15626311532074429260:=Nat
def tw11665787351313825323:=Nat
def tw15217918550995636408:=Nat
def tw3156505554467935055:=Nat
def tw3371745643362980440:=Nat
def tw3004865266870070821:=Nat
def tw17947715535289032771:=Nat
def tw18046723445972390275:=Nat
def tw13752694556584626443:=Nat
def tw14390601020883097632:=Nat
def tw10534994478409645941:=Nat
def tw8669197423021137316:=Nat
def tw17979775886030675489:=Nat
def tw17034893920807994098:=Nat
def tw5349812917530236340:=Nat
def tw16691300689840277979:=Nat
def tw12293702698195300826:=Nat
def tw12569856762154320490:=Nat
def tw16770326081970383692:=Nat
def tw7893669967464706732:=Nat
def tw3835967853638860724:=Nat
def tw15709415469284715261:=Nat
def tw11552455369555068742:=Nat
def tw14012639120040798526:=Nat
def tw1381327988752352159:=Nat
def tw458024868011446329:=Nat
def tw6373003138609116961:=Nat
def tw2510805743375292022:=Nat
def tw15356236949777430048:=Nat
def tw17902538443504019661:=Nat
def tw10218741992797156737:=Nat
def tw4385146584968821553:=Nat
def tw2195206761408139700:=Nat
def tw1653156653794162875:=Nat
def tw9020859347474820514:=Nat
def tw2490798014057316547:=Nat
def tw3973300297959994356:=Nat
def tw17558329771927700755:=Nat
def tw5540168228776166494:=Nat
def tw2398540226809779964:=Nat
def tw8135983613157507193:=Nat
def tw17928562209652306787:=Nat
def tw7495842345827126072:=Nat
def tw5866897758326488932:=Nat
def tw1030068567603810759:=Nat
def tw5512769656070788728:=Nat
def tw12353016275255608226:=Nat
def tw11925296981740916664:=Nat
def tw12336750046945200285:=Nat
def tw885185363733346123:=Nat
def tw14866788956608779940:=Nat
def tw4960949745058761340:=Nat
def tw10452235633773318171:=Nat
def tw5259148358384398154:=Nat
def tw3734527737929286599:=Nat
def tw10376862272662522757:=Nat
def tw17379220323055321659:=Nat
def tw11590970879663953788:=Nat
def tw8712274307529575752:=Nat
def tw980918409458628022:=Nat
def tw10969013276352438090:=Nat
def tw728765108783022260:=Nat
def tw9623910267661452030:=Nat
def tw16802464269013535636:=Nat
def tw2366210110314617142:=Nat
def tw8343044476342916621:=Nat
def tw10386349506795634898:=Nat
def tw15372222523649458741:=Nat
def tw17003135517389379756:=Nat
def tw14020434561883942500:=Nat
def tw13980601470960717351:=Nat
def tw2352250127189526909:=Nat
def tw7820014987012201425:=Nat
def tw1145940679680940251:=Nat
def tw11628606213147817992:=Nat
def tw14369948638638467419:=Nat
def tw11220375613967050498:=Nat
def tw3594103602149948780:=Nat
def tw9873010212776995627:=Nat
def tw4635803193624565439:=Nat
def tw14407207724032337878:=Nat
def tw10933341893803832842:=Nat
def tw4806808487812199954:=Nat
def tw6698732670460783915:=Nat
def tw5129799385791385945:=Nat
def tw10255285643325523322:=Nat
def tw15618370776858965786:=Nat
def tw15271487024860570346:=Nat
def tw14426659316628491510:=Nat
def tw17128664262458910803:=Nat
def tw10334038174262065753:=Nat
def tw3701461547525906735:=Nat
def tw17555887203035889045:=Nat
def tw18437799961823032397:=Nat
def tw5217846422048094067:=Nat
def tw5370487916812436641:=Nat
def tw14947718537057357588:=Nat
def tw15185916212058925873:=Nat
def tw14713547674204067202:=Nat
def tw5061730320388023308:=Nat
def tw7736782518061667205:=Nat
def tw3991332511352109225:=Nat
def tw16348272181464818568:=Nat
def tw5956101391185363736:=Nat
def tw5356395378254972359:=Nat
def tw17517757816025253652:=Nat
def tw10303268968406967223:=Nat
def tw13991983717889310818:=Nat
def tw3961972926933139676:=Nat
def tw16959005098758668487:=Nat
def tw14107597007569264117:=Nat
def tw3213154304691116378:=Nat
def tw4487002705723854981:=Nat
def tw2674552617498333533:=Nat
def tw6439803008934797996:=Nat
def tw18251317399992612986:=Nat
def tw9616565826456986649:=Nat
def tw8814354999925962427:=Nat
def tw4886344855188038423:=Nat
def tw12073629110548567036:=Nat
def tw9675422894564531774:=Nat
def tw12934208016353544801:=Nat
def tw15855380749446382021:=Nat
def tw2220669587098332409:=Nat
def tw2522403925873230655:=Nat
def tw12953568191173117830:=Nat
def tw4756384239138036134:=Nat
def tw15631446168087114405:=Nat
def tw9884851031893901247:=Nat
def tw7066902697350698882:=Nat
def tw5749375027298693695:=Nat
def tw17021136347956682944:=Nat
def tw4309707048652445781:=Nat
def tw16271665716571271445:=Nat
def tw6215547921891235191:=Nat
def tw18390520583082231158:=Nat
def tw3392340089199630402:=Nat
def tw16261361935105683755:=Nat
def tw12214697047856821632:=Nat
def tw5395947326684167816:=Nat
def tw6132178055652095093:=Nat
def tw196383038697470735:=Nat
def tw6556565504049302871:=Nat
def tw16418128237687150169:=Nat
def tw14473354789758452892:=Nat
def tw968659715499133908:=Nat
def tw16275785563996649684:=Nat
def tw375219727760111177:=Nat
def tw3409506797592032818:=Nat
def tw11878094778261971269:=Nat
def tw2135222638509261431:=Nat
def tw17344228502530773113:=Nat
def tw14907775454865301152:=Nat
def tw6042640174427226191:=Nat
def tw17010176676509166048:=Nat
def tw6524508156478277684:=Nat
def tw3555643736336290136:=Nat
def tw17470197124866750572:=Nat
def tw9090309402123612790:=Nat
def tw10642947426210984772:=Nat
def tw15419395405889746941:=Nat
def tw12308601664333224427:=Nat
def tw5417259362793742565:=Nat
def tw7361532057823553347:=Nat
def tw1159204645052036525:=Nat
def tw10289770769040761631:=Nat
def tw1748555273038514828:=Nat
def tw13860829505023343486:=Nat
def tw3370466183447038147:=Nat
def tw18346027016699779248:=Nat
def tw18246634095665734280:=Nat
def tw293928975876623736:=Nat
def tw1956987455394145737:=Nat
def tw6084702280882385808:=Nat
def tw10257104650068012038:=Nat
def tw11753047559487670534:=Nat
def tw4002988449015394006:=Nat
def tw1621090261601954221:=Nat
def tw6765511074796073312:=Nat
def tw8691557998040778756:=Nat
def tw11184317548939025738:=Nat
def tw1275841775005472346:=Nat
def tw2034764247371960335:=Nat
def tw9415209442804235486:=Nat
def tw17312035406663255758:=Nat
def tw8227100073704142956:=Nat
def tw947690890263753652:=Nat
def tw18233552175417161263:=Nat
def tw12208455864106319618:=Nat
def tw12694982774656142256:=Nat
def tw11305101153966043099:=Nat
def tw435373660378899997:=Nat
def tw14803656433646291157:=Nat
def tw2553732466861275833:=Nat
def tw1004474868830225557:=Nat
def tw17263922257282121718:=Nat
def tw8726326761014409248:=Nat
def tw3351956707450269343:=Nat
def tw1559928021233613880:=Nat
def tw4607349950037088216:=Nat
def tw13489276416122703786:=Nat
def tw2864592280331107564:=Nat
def tw12705032044217975852:=Nat
def tw8234795528917567561:=Nat
def tw18170348187202118297:=Nat
def tw15109283833704540254:=Nat
def tw17553530793343895069:=Nat
def tw5057787012184563281:=Nat
def tw4694763958067385099:=Nat
def tw9070962757117366083:=Nat
def tw998004814384195305:=Nat
def tw16577762040030141739:=Nat
def tw11564192537086285948:=Nat
def tw11553217781274183680:=Nat
def tw15821627364461826653:=Nat
def tw6873100143575744535:=Nat
def tw3485191346300713510:=Nat
def tw17125662677480003975:=Nat
def tw16753342642740545475:=Nat
def tw8911597713934071216:=Nat
def tw14064952431027617155:=Nat
def tw14201524039401535119:=Nat
def tw1226207668279338419:=Nat
def tw16960217045581657934:=Nat
def tw11472636775719298641:=Nat
def tw17709963528765563662:=Nat
def tw2592442789366145733:=Nat
def tw3487330494734319058:=Nat
def tw12290219845037301146:=Nat
def tw13330802060342128611:=Nat
def tw13887404311527551675:=Nat
def tw9291271542121954802:=Nat
def tw5347430542980860975:=Nat
def tw10376393535225353725:=Nat
def tw5565392438405264910:=Nat
def tw614252651153223803:=Nat
def tw16070550207718030743:=Nat
def tw5906603314014164078:=Nat
def tw8117878334918703772:=Nat
def tw8396872697447184668:=Nat
def tw3584683002491796693:=Nat
def tw2853842859705456399:=Nat
def tw3179245128229478500:=Nat
def tw1243102858417102703:=Nat
def tw4900876122970712529:=Nat
def tw8221326389545624152:=Nat
def tw16517099667920103107:=Nat
def tw17155179805048345714:=Nat
def tw4281100879867571253:=Nat
def tw11938847477263205296:=Nat
def tw4190757146155171699:=Nat
def tw16252043330146741369:=Nat
def tw14014994599567283909:=Nat
def tw892295927815594760:=Nat
def tw10087122657411987659:=Nat
def tw10717762515335249036:=Nat
def tw4248976854903940171:=Nat
def tw13324454588902234137:=Nat
def tw9263343574967616055:=Nat
def tw11103945562361617460:=Nat
def tw6611324287883753824:=Nat
def tw9135409196288586905:=Nat
def tw5170873055784612045:=Nat
def tw14117717268140236493:=Nat
def tw11034833265530454228:=Nat
def tw16776116864497266747:=Nat
def tw4386307165068976021:=Nat
def tw1177593444897303732:=Nat
def tw13389578408487977943:=Nat
def tw7294377723627767346:=Nat
def tw16335632728260559518:=Nat
def tw14288346824189370650:=Nat
def tw7072489073987852426:=Nat
def tw6620812968697127244:=Nat
def tw16440644232349002284:=Nat
def tw2513280649732326592:=Nat
def tw7712040105272521002:=Nat
def tw13926650472539492381:=Nat
def tw1761921917051407979:=Nat
def tw451905716962704858:=Nat
def tw13114881580936899242:=Nat
def tw15175780234853869105:=Nat
def tw6033883293258057163:=Nat
def tw837113765090026555:=Nat
def tw14426953879968781636:=Nat
def tw12870096372421796439:=Nat
def tw1357706703426998490:=Nat
def tw926690308839799300:=Nat
def tw3077221379684371372:=Nat
def tw10628227754045467834:=Nat
def tw7467425953341150181:=Nat
def tw3285091743824398033:=Nat
def tw1009168572696251835:=Nat
def tw8737990720686581379:=Nat
def tw1969488402087716204:=Nat
def tw1209080006298355025:=Nat
def tw18137329161475203142:=Nat
def tw12060597105042132727:=Nat
def tw6931761742315672116:=Nat
def tw6428254172335521722:=Nat
def tw16033585820955248576:=Nat
def tw17325809814238803605:=Nat
def tw13616911063357346307:=Nat
def tw7313430698962914914:=Nat
def tw2819392029346207794:=Nat
def tw15216088542211416074:=Nat
def tw12427192872809314998:=Nat
def tw5768389207398085360:=Nat
def tw17013725485489616599:=Nat
def tw8522858992341741590:=Nat
def tw8147883375405618996:=Nat
def tw3010276597706783395:=Nat
def tw12296686202235218025:=Nat
def tw2389473435756320515:=Nat
def tw17720710149307358473:=Nat
def tw6340662639363636555:=Nat
def tw12301143430756646582:=Nat
def tw778979037382022593:=Nat
def tw13972924082660248986:=Nat
def tw8924511810358778653:=Nat
def tw1034040022460737057:=Nat
def tw18272640259663834996:=Nat
def tw2654416329642157739:=Nat
def tw16505339291217123349:=Nat
def tw9127001726252960758:=Nat
def tw9356717204465961234:=Nat
def tw11849520345631968557:=Nat
def tw538530960432563508:=Nat
def tw13253109663668214961:=Nat
def tw1406537503502858452:=Nat
def tw1626561617852885935:=Nat
end PySem.W.Fast
open PySem PySem.W PyProof.Rows
set_option maxRecDepth 100000 in
set_option maxHeartbeats 0 in
theorem PySem.Challenge.cw_roadsall_k91_facts_as_texts_holds : PySem.Challenge.rw_roadsall_k91_facts_as_texts.Holds := by
 w_on;o_law;k_head;(case hw=>w_witness2)
 k_fill
 refine L2.Br (l:=PySem.Challenge.rw_roadsall_k91_facts_as_texts) (n:=63) (k:=200) (x:="_law_script") (CX:=L2.lC) (sp:=fun K=>Ev.qF K (Ev.bp 1 6 (My.DF (My.Ph 199) My.qo))) rfl (by decide) rfl ⟨rfl,by decide,by decide⟩ (fun w h Y=>PySem.W.kIn_of Y) (fun w=>by kernel_rfl) (fun w h Y P hP=>My.PX (by kernel_rfl) hP) ?F ?S ?C
 case F=>
  intro w mg fa h KX G hmg
  have T:Ev.TOk w My.Gv My.Att My.Tb (L2.QT KX) mg:=by
   dsimp only [L2.QT]
   refine' My.Kc KX G ?cf ?cr ?hh ?gv0 ?gv1 ?gv2 ?gv3 ?gv4 ?gv5 ?gv6 ?gv7 ?gv8 ?gv9 ?gv10 ?gv11 ?gv12 ?gv13 ?gv14 ?gv15 ?gv16 ?gv17 ?gv18 ?gv19 ?gv20 ?z
   case cf=>exact⟨⟨by k_is,by k_is,by k_is,by k_is,by k_is,by k_is,by k_is⟩,by k_is,by k_is,by k_is,by k_is,by k_is,⟨_,_,_,_,_,_,_,_,_,_,by k_is,by k_is,by k_is,by k_is,by k_is⟩,⟨_,_,_,_,_,_,_,_,_,_,by k_is,by k_is,by k_is,by k_is,by k_is⟩,⟨_,_,_,_,_,_,_,_,_,_,by k_is,by k_is,by k_is,by k_is,by k_is⟩,⟨_,_,_,_,_,_,_,_,_,_,by k_is,by k_is,by k_is,by k_is,by k_is⟩,⟨_,_,_,_,_,_,_,_,_,_,by k_is,by k_is,by k_is,by k_is,by k_is⟩,⟨_,_,_,_,_,_,_,_,_,_,by k_is,by k_is,by k_is,by k_is,by k_is⟩,⟨_,_,_,_,_,_,_,_,_,_,by k_is,by k_is,by k_is,by k_is,by k_is⟩,⟨_,_,_,_,_,_,_,_,_,_,by k_is,by k_is,by k_is,by k_is,by k_is⟩,⟨_,_,_,_,_,_,_,_,_,_,by k_is,by k_is,by k_is,by k_is,by k_is⟩,⟨_,_,_,_,_,_,_,_,_,_,by k_is,by k_is,by k_is,by k_is,by k_is⟩,⟨_,_,_,_,_,_,_,_,_,_,by k_is,by k_is,by k_is,by k_is,by k_is⟩,⟨_,_,_,_,_,_,_,_,_,_,by k_is,by k_is,by k_is,by k_is,by k_is⟩,⟨_,_,_,_,_,_,_,_,_,_,by k_is,by k_is,by k_is,by k_is,by k_is⟩,⟨_,_,_,_,_,_,_,_,_,_,by k_is,by k_is,by k_is,by k_is,by k_is⟩,⟨_,_,_,_,_,_,_,_,_,_,by k_is,by k_is,by k_is,by k_is,by k_is⟩⟩
   case cr=>exact⟨⟨by k_is,by k_is,by k_is,by k_is,by k_is,by k_is,by k_is⟩,by k_is,by k_is,by k_is,by k_is,by k_is,by k_is,⟨_,_,_,_,_,_,_,_,_,_,by k_is,by k_is,by k_is,by k_is,by k_is⟩,⟨_,_,_,_,_,_,_,_,_,_,by k_is,by k_is,by k_is,by k_is,by k_is⟩,⟨_,_,_,_,_,_,_,_,_,_,by k_is,by k_is,by k_is,by k_is,by k_is⟩,⟨_,_,_,_,_,_,_,_,_,_,by k_is,by k_is,by k_is,by k_is,by k_is⟩,⟨_,_,_,_,_,_,_,_,_,_,by k_is,by k_is,by k_is,by k_is,by k_is⟩,⟨_,_,_,_,_,_,_,_,_,_,by k_is,by k_is,by k_is,by k_is,by k_is⟩,⟨_,_,_,_,_,_,_,_,_,_,by k_is,by k_is,by k_is,by k_is,by k_is⟩,⟨_,_,_,_,_,_,_,_,_,_,by k_is,by k_is,by k_is,by k_is,by k_is⟩,⟨_,_,_,_,_,_,_,_,_,_,by k_is,by k_is,by k_is,by k_is,by k_is⟩,⟨_,_,_,_,_,_,_,_,_,_,by k_is,by k_is,by k_is,by k_is,by k_is⟩,⟨_,_,_,_,_,_,_,_,_,_,by k_is,by k_is,by k_is,by k_is,by k_is⟩,⟨_,_,_,_,_,_,_,_,_,_,by k_is,by k_is,by k_is,by k_is,by k_is⟩,⟨_,_,_,_,_,_,_,_,_,_,by k_is,by k_is,by k_is,by k_is,by k_is⟩,⟨_,_,_,_,_,_,_,_,_,_,by k_is,by k_is,by k_is,by k_is,by k_is⟩,⟨_,_,_,_,_,_,_,_,_,_,by k_is,by k_is,by k_is,by k_is,by k_is⟩,⟨_,_,_,_,_,_,_,_,_,_,by k_is,by k_is,by k_is,by k_is,by k_is⟩,⟨_,_,_,_,_,_,_,_,_,_,by k_is,by k_is,by k_is,by k_is,by k_is⟩,⟨_,_,_,_,_,_,_,_,_,_,by k_is,by k_is,by k_is,by k_is,by k_is⟩,⟨_,_,_,_,_,_,_,_,_,_,by k_is,by k_is,by k_is,by k_is,by k_is⟩,⟨_,_,_,_,_,_,_,_,_,_,by k_is,by k_is,by k_is,by k_is,by k_is⟩⟩
   case hh=>
    intro d hd
    simp only [My.jC,List.mem_cons,List.not_mem_nil,or_false] at hd
    rcases hd with rfl|rfl|rfl|rfl|rfl|rfl|rfl|rfl|rfl|rfl|rfl|rfl|rfl|rfl|rfl|rfl|rfl|rfl|rfl|rfl|rfl|rfl|rfl|rfl|rfl|rfl|rfl|rfl|rfl|rfl|rfl|rfl <;> (dsimp only [My.j4,My.jc,My.j3,My.eN,My.jd,My.gv,My.eU,My.cW,My.ja,My.im,My.gp,My.gn,My.dS,My.dR,My.dq,My.eM,My.gq,My.bt,My.jb,My.j2,My.gw,My.fy,My.ei,My.eW,My.gu,My.gx,My.ir,My.iq,My.i_,My.ip,My.io,My.bf,My.kC];exact⟨_,_,_,_,_,_,_,_,_,_,by k_is,by k_is,by k_is,by k_is⟩)
   case gv0=>exact⟨_,by k_is⟩
   case gv1=>exact⟨_,_,_,_,_,_,_,_,_,by k_is,by k_is⟩
   case gv2=>exact⟨_,_,_,_,_,_,_,_,_,_,_,_,_,_,_,_,_,_,_,_,_,_,_,_,by k_is,by k_is⟩
   case gv3=>exact⟨_,by k_is⟩
   case gv4=>exact⟨_,_,_,_,_,_,by k_is,by k_is⟩
   case gv5=>exact⟨_,by k_is⟩
   case gv6=>exact⟨_,_,_,_,_,_,_,_,_,_,_,_,_,_,_,_,_,by k_is,by k_is,by first | rfl | k_is | kernel_rfl,by first | rfl | k_is | kernel_rfl,by first | rfl | k_is | kernel_rfl,by first | rfl | k_is | kernel_rfl,by first | rfl | k_is | kernel_rfl,by first | rfl | k_is | kernel_rfl⟩
   case gv7=>exact⟨_,_,_,_,_,by k_is,by k_is⟩
   case gv8=>exact⟨_,by k_is⟩
   case gv9=>exact⟨_,_,_,_,_,_,_,_,_,_,_,by k_is,by k_is,by first | rfl | k_is | kernel_rfl,by first | rfl | k_is | kernel_rfl,by first | rfl | k_is | kernel_rfl,by first | rfl | k_is | kernel_rfl⟩
   case gv10=>exact⟨_,_,_,_,_,_,_,_,_,_,_,_,_,_,_,_,_,_,_,_,_,_,_,_,_,_,_,_,_,_,_,_,_,_,_,_,_,_,_,_,_,_,_,_,by k_is,by k_is,by first | rfl | k_is | kernel_rfl,by first | rfl | k_is | kernel_rfl,by first | rfl | k_is | kernel_rfl,by first | rfl | k_is | kernel_rfl,by first | rfl | k_is | kernel_rfl,by first | rfl | k_is | kernel_rfl,by first | rfl | k_is | kernel_rfl,by first | rfl | k_is | kernel_rfl,by first | rfl | k_is | kernel_rfl,by first | rfl | k_is | kernel_rfl,by first | rfl | k_is | kernel_rfl,by first | rfl | k_is | kernel_rfl,by first | rfl | k_is | kernel_rfl,by first | rfl | k_is | kernel_rfl,by first | rfl | k_is | kernel_rfl⟩
   case gv11=>exact⟨_,by k_is⟩
   case gv12=>exact⟨_,by k_is⟩
   case gv13=>exact⟨_,by k_is⟩
   case gv14=>exact⟨_,by k_is⟩
   case gv15=>exact⟨_,by k_is⟩
   case gv16=>exact⟨_,by k_is⟩
   case gv17=>exact⟨_,_,_,_,_,_,_,_,_,_,_,_,_,_,_,_,_,by k_is,by k_is,by first | rfl | k_is | kernel_rfl,by first | rfl | k_is | kernel_rfl,by first | rfl | k_is | kernel_rfl,by first | rfl | k_is | kernel_rfl,by first | rfl | k_is | kernel_rfl,by first | rfl | k_is | kernel_rfl⟩
   case gv18=>exact⟨_,_,_,_,_,_,_,_,by k_is,by k_is⟩
   case gv19=>exact⟨_,_,_,_,_,_,_,_,_,_,_,_,_,_,_,_,_,_,_,_,_,_,_,_,_,_,_,_,_,_,_,_,by k_is,by k_is,by first | rfl | k_is | kernel_rfl,by first | rfl | k_is | kernel_rfl,by first | rfl | k_is | kernel_rfl,by first | rfl | k_is | kernel_rfl,by first | rfl | k_is | kernel_rfl,by first | rfl | k_is | kernel_rfl,by first | rfl | k_is | kernel_rfl,by first | rfl | k_is | kernel_rfl,by first | rfl | k_is | kernel_rfl,by first | rfl | k_is | kernel_rfl,by first | rfl | k_is | kernel_rfl⟩
   case gv20=>exact⟨_,_,_,_,_,_,_,by k_is,by k_is⟩
   case z=>
    intro x hx
    simp only [Ev.DB,List.mem_cons,List.not_mem_nil,or_false] at hx
    rcases hx with rfl|rfl|rfl|rfl|rfl|rfl|rfl|rfl|rfl|rfl|rfl|rfl|rfl|rfl|rfl|rfl|rfl|rfl|rfl <;> k_is
  obtain⟨f,fd,h1⟩:=T.fn My.bf (by simp [My.Tb])
  have e0:=hmg.symm.trans (h1.gl (by decide +kernel))
  cases e0
  refine⟨fd,?_,fun base kb nb=>My.Jl (n:=198) T h1.fn⟩
  obtain⟨kV,doc,pm,an,cdv,ct,rfl⟩:=h1.pl (by decide +kernel)
  exact fun s v=>.of_eq rfl
 case S=>exact fun w H a ns hl hO hS=>Ev.Jm hO hS (My.CD (by decide) hl)
 case C=>exact fun _ _ _ _ z=>z
