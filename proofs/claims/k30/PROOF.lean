import PyProof.Rows.All
import Wide.All
import OpenK.AllK
import Wide.FinOn
import Lean
import PyProof.EqAt
import PyProof.EqKinds
import PyProof.TupleCall
import PyProof.ExcInit
import PyProof.ExcClass2
import PySem.Challenge.RW_roadsall_k30_runs_walked
set_option Elab.async false
set_option linter.all false
set_option maxRecDepth 100000
set_option maxHeartbeats 4000000
set_option tactic.hygienic false
noncomputable section
abbrev VP:=PySem.Value->PySem.Shared->Prop
abbrev PN:=List (PySem.Addr×PySem.Obj)
abbrev SV:=PySem.Str->Option PySem.Value
abbrev Aa:=PySem.Addr->Prop
abbrev LS:=List PySem.Str
abbrev LV:=List PySem.Value
abbrev Ab:=List PySem.Expr
abbrev OV:=Option PySem.Value
abbrev FG:=PySem.W.Frag
abbrev be:=@of_decide_eq_true
abbrev am:=@if_pos
abbrev au:=@if_neg
abbrev cT:=@decide_eq_false
abbrev oU:=@beq_eq_false_iff_ne
abbrev mF:=@decide_eq_true
abbrev ij:=@and_true
abbrev kD:=@beq_iff_eq
abbrev js:=@congrArg
abbrev kt:=@or_false
abbrev ik:=@if_false
abbrev kJ:=@if_true
abbrev nT:=@true_and
abbrev nS:=@not_or
open Sum.inr renaming inj->kI
open PySem renaming wpAny_bind->aa,wpAny_pure->aj,wpAny_mono->aU,wpAny_holding->db,wpAny_field->c_,wpAny_truthy_bool->kH,wpAny_Call_Name_kw->l0,wpAny_seqItems->kG,wpAny_loadPart'->lZ,wpAny_loadPart_at->nR,mem_of_lookup->rf,call_meets->i',codeAny_mono->kF,wpAny_standAt->lY,wpAny_setField_rec->re,tupleKind_room_in1->rc,wpAny_callSpecial?_slot->u3,wpAny_newObj_type->q_,wpAny_call_entry->qZ,wpAny_call->kE,sizeLine_eq->lX,codeAny_call_builtin->uX,wpAny_passesOwn->qY,wpAny_typeOf->nQ,wpAny_Try_except->uP,call_meetsIn->qX,codeAny_builtin->uM,wpAny_attempt->uJ,typeIs_int->qW,wpAny_Call_method->yN,plainObj_wpAny_Assign_Attribute->EK,wpAny_execs_cons->yM,noFill_tuple_add->yL,wpAny_execs_nil->yK,Within->yJ,wpAny_setField->yI,wpAny_rule->uG,wpAny_newTuple->yH,wpAny_newFunctionEnv_cells->EJ,wpAny_binaryOp_repeat_ref->EI,wpAny_onRaise->yG,seq_tuple_add->yF,wpAny_nextOf_list_item->EH,wpAny_Call_method_late->EG,seqSlot_of->EF,seqIndex_neg->yE,concat_meets->yD,wpAny_nextOf_list_end->ED,codeAny_call_function->EC,builtinLookup_eq_fast->EA,wpAny_updateSeq_pair->Ez,seqIndex_of->yC,wpAny_isSubtype_exc->Ey,wpAny_Name->yB,wpAny_sequenceKey->Ew,wpAny_pyIter_list->Eu,wpAny_pyIter_enum->Et,wpAny_assign_Name->Es,wpAny->Er,slot_list_getitem->Ep,slot_dict_getitem->Eo,wpAny_lookBehind->En,wpAny_eqBool_str->Em,wpAny_eqBool_int->El,wpAny_Dict_empty->Ek,pastItsLine_dict->Ej,entryFor_of_tree->Ei,typeLookup_type->Eh,wpAny_loadPart->Eg,wpAny_update'->Ef,wpAny_newList->Ee,rangeSize_one->Ed,plainId_quiet->Ec,evalPart_none->Eb,call_list_seq->Ea
open PySem.Heap renaming get?_push_of_some->bg,lt_size->aM,get?_push_size->dD,get?_update_other->jN,get?_update_self->jM,SameBut->gK,FlyingW->lW,get?_none_of_le->yA,MadeExcOf->uF,size_push->yz,HeldW->qI,get?_some_iff->BM
open Option.some renaming inj->d4,injEq->IE
open PySem.W renaming nsIn->a_,kitOne->bD,findIn->cc,mg_of->bC,keepIn->dZ,hideAll->eU,emptyDict->hJ,exmOne->gp,instObj->iV,looks_findIn->jZ,fnOf->g_,mroIn->jY,specialIn->mV,kitCls->mU,codeIn->mS,callWith_K->qH,hasDictIn->qG,clsIn->mR,plainGet->qF,kas_sort->qE,cellsFrom_some->vM,takesIn->qD,lookIn->qC,looks_mroIn->qB,plainGet_of->vL,hideAll_get->vK,tail_of_in->vJ,of_hideAll->vI,methodObj->vH,takerIn->vG,kia_one->vF,tailIn->vD,nsOkIn->vA,isFn->vw,funFrames_hide->BL,methodCall_KW->BK,looks_clsIn->vu,hideAll_none->BJ,findObj_own->BI,isNs_of_in->BH,codeRec_of->BG,plainOver->BF,handedIn->BE,makesIn->BC,OpenLaw->BB,KasFin->BA,WalkO->Bz,Looks->By,mg_none_of->Bx,set_plain->Bw,handed_on->Bv
open Nat renaming le_refl->al,le_trans->aF,lt_of_lt_of_le->bN,ne_of_lt->bo,ne_of_gt->cm,zero_le->ck,zero_add->fG,lt_irrefl->gn,lt_of_le_of_lt->jX,le_of_lt->g9,lt_trans->lq,add_sub_cancel->qA,le_succ->lp,lt_succ_self->qz,mul_comm->qy,le_of_succ_le->vr,succ_mul->vq,le_of_eq->vp,mul_le_mul_left->Bu,not_lt->vo,le_succ_of_le->Bt,min_eq_right->Bs,min_eq_left->Br,mul_assoc->Bq,sub_zero->Bp,pow_succ->Bo,mul_succ->Bn,add_comm->Bm,log2_lt->Bl
open List renaming mem_cons_of_mem->aI,getElem?_set_ne->aL,mem_cons_self->aH,getElem?_eq_some_iff->bz,length_cons->aQ,map_cons->aE,mem_of_getElem?->a9,getElem?_eq_getElem->bI,size_toArray->a7,getElem?_set_self->bH,getElem?_append_right->cB,mem_cons->aP,getElem?_append_left->cA,length_append->bx,length_map->bn,all_eq_true->bw,mem_map->bj,replicate_succ->cX,mem_append->bP,nodup_cons->cz,length_set->cN,getElem?_map->dC,eq_nil_of_length_eq_zero->g8,mem_append_right->eT,mem_singleton->dY,append_nil->dB,mem_flatMap->dX,getElem?_take_of_lt->g7,pairwise_flatMap->gm,set_set->cW,mem_filter->eE,not_mem_nil->eS,set_getElem_self->gZ,length_filter_le->gY,getD_eq_getElem?_getD->jW,isEmpty_iff->fF,getElem_mem->fE,flatten_cons->gj,append_assoc->gi,nil_append->fD,foldl_cons->fC,mem_append_left->iU,all_cons->eR,length_take->gX,mem_range->gh,lookup->eD,any_cons->gf,mem_filterMap->jV,map_nil->gc,flatMap_cons->jU,forIn_cons->jT,find?_cons->jS,mem_iff_getElem->mQ,nodup_range->lm,mem_of_find?_eq_some->qx,pairwise_map->mP,getElem?_eq_none->qw,cons_append->mO,any_eq_true->mN,mem_of_mem_take->qv,filter_eq_self->qu,filterMap_cons->qq,mem_replicate->qo,drop_zero->mM,pairwise_iff_getElem->vn,drop_eq_getElem_cons->vm,take_length->qm,lookup_cons->qh,getElem?_replicate->vl,filter_cons_of_pos->vk,filter_cons_of_neg->vj,drop_length->qg,map_map->mL,of_mem_zip->qf,pairwise_append->vh,mem_of_mem_drop->vg,contains_cons->vf,findIdx?_eq_some_iff_getElem->Bk,take_sublist->ve,nodup_append->vd,range'_succ->vc,length_drop->vb,length->qd,map_append->va,length_nil->u_,find?_some->u9,filter_map->u7,foldl->qc,mem_or_eq_of_mem_set->Bj,getElem?_eq_none_iff->Bi,mem_of_mem_eraseIdx->Bh,map_take->u6,pairwise_singleton->Bf,length_eraseIdx_le->Be,take_of_length_le->Bc,length_singleton->Bb,length_replicate->Ba,map_id->u5,map_congr_left->A',length_pos_iff->A_,mem_reverse->A9,getElem_map->A8,flatMap_def->A7,nodup_nil->A6,forIn_nil->A5,drop_drop->A4,all_nil->A3,range'->A2
open Array renaming getElem?_eq_some_iff->qa,length_toList->mK,getElem?_append_left->A1,getElem?_eq_getElem->A0,forIn_toList->AZ,find?_toList->AY,append_assoc->AX,size_append->AW,all_append->AV
open Ne renaming symm->aC
open PyProof.Rows renaming slot_tuple_getitem->jR,callWith_type1->mJ,boot_isinstance->AU,boot_list->AT,boot_int->AS,reads_list_at->u4,subscriptTail_builtinR->AR,tail_any->p_,lt_int->AQ,entry_tuple_getitem->AO,args_tuple_getitem->AN,get?_update_seq->AM,callWith_builtin1->ID,boot_zip->IC,boot_tuple->IB,boot_sorted->IA,boot_dict->Iz,boot_bool->Iy,boot_abs->Ix,slicePart_none->AL,reads_tuple_at->AK,tupleItemsOf_->AJ,listUpdate_at->AI,Constant_none->AH
open PySem.Calls renaming spliced_cons->fB,spliced_nil->iT,evalArgs_plain->ll,callWith_builtin->mI,Name_function_global->AG
open Bool renaming and_eq_true->az,false_ne_true->bt,false_eq_true->jQ,and_eq_true_iff->p9,not_eq_true'->p0,eq_iff_iff->pZ,or_eq_true->u1,false_and->u0,true_and->uZ,false_or->uY,or_eq_false_iff->AE,or_false->AD,not_true->AC,or_true->AB
open PySem.EqNone renaming ne_str_none->Iw,ne_none_str->Iv,ne_none_none->Iu,ne_none_int->Ir,ne_none_bool->Iq,ne_int_none->Ip,ne_bool_none->Io,eq_str_none->Im,eq_none_str->Il,eq_none_none->Ik,eq_none_int->Ij,eq_none_bool->Ii,eq_int_none->Ih,eq_bool_none->Ig
open PySem.EqMixed renaming ne_str_int->Ie,ne_str_bool->Ic,ne_int_str->Ib,ne_bool_str->Ia,eq_str_int->H_,eq_str_bool->H0,eq_int_str->HZ,eq_bool_str->HY
open PySem.W.Looks renaming here->pY,ld->AA,of_peek->HX
open PySem.Around renaming under_plainId->uW,under->uV
open PySem.Code renaming quiet_builtin->uU,isFrame->uT,frames->Az
open Option renaming map_eq_some_iff->eQ,bind_some->jP,isSome_iff_exists->uS,map->lj,isNone_iff_eq_none->Ay,bind_eq_some_iff->Ax,isSome_map->Aw,getD_none->Av
open PySem.F renaming slot_dict_get->li,excBase_ValueError->pX,plainAttrs_list->pW,slot_tuple_mul->pV,entry_dict_get->pU,args_tuple_add_2->uR,plainAttrs_dict->uQ,entry_tuple_add->uO,slot_tuple_add->uN,slot_dict_setdefault->Au,attrBase_ValueError->As,type_list_append->Ar,slot_tuple_index->Aq,slot_list_append->Ap,args_tuple_mul_2->Ao,slot_tuple_rmul->An,slot_list_index->Am,entry_tuple_mul->Al,args_dict_get_3->Ak,args_dict_get_2->Aj,type_dict_get->Ai,slot_int_rmul->Ah,entry_bexc_ga->Ag,args_bexc_ga->Af
open Int renaming emod_nonneg->dL,emod_lt_of_pos->eP,zero_add->df,toNat_natCast->uL,toNat_of_nonneg->Ae,natCast_mul->Ad,natCast_add->Ac,lt_irrefl->z_,ne_of_gt->z5,le_of_lt->z0
open PySem.Builtin.Slice renaming slicePlaces->pT,sliceAdjust->uK,sliceApplied->zZ,slicePartIndex->HW,sliceFields->HV
open PySem.Builtin.Tuple renaming tupleExact->pS,tupleItemsOf->zY,tupleTooMany->HU
open PySem.Str renaming length->mH
open PySem.Obj renaming mapFields->fA,mapSeq->jO
open PySem.Builtin.List renaming listTooLong->pR
open PySem.PyData renaming strOk->ao,eqv->cb,eqvAll->pQ,depth->pP,canLayAll0->uI,depthAll->uH
open PySem.SeqAt renaming eqv_refl->pO,readOf->mG,shaped->zX
open PySem.AutoSeq1 renaming sub_tuple_tuple->zW,idx_int->zV
open List.cons renaming injEq->cy
open PySem.Heap.SameBut renaming update->pN
open PySem.Builtin.SmallTypes renaming nextOf->iR,ownedTupleIsFree->pM,ownedTupleHandOut->HS
open PySem.Builtin.Dict renaming updateFrom->zU,selfAndRest->HR,pairItems->HQ,addKeywords->HP
open Classical renaming propDecidable->zT,choose_spec->zS
open Int.ofNat renaming inj->lh
namespace L2
open PySem PySem.Spec PyProof.Rows
noncomputable abbrev cj:=Sum Int Str
noncomputable def ue:cj->Value->Bool
 | .inl k,v=>Value.isInt k v
 | .inr x,v=>Value.isStrOf x v
noncomputable def Sk(w:World):cj->Int
 | .inl k=>hashInt k
 | .inr x=>hashStr w x
theorem dm:∀{k:cj}{v:Value},ue k v=true->(∃i t,k=Sum.inl i/\v=Value.int i t)\/(∃x t,k=Sum.inr x/\v=Value.str x t)
 | .inl i,v,h=>by obtain⟨t,e⟩:=Value.isInt_shape (k:=i) (v:=v) h;exact .inl ⟨i,t,rfl,e⟩
 | .inr x,v,h=>by obtain⟨t,e⟩:=Value.isStrOf_shape (x:=x) (v:=v) h;exact .inr ⟨x,t,rfl,e⟩
theorem DB(i:Int)(t:Tok):ue (.inl i) (.int i t)=true:=by simp[ue,Value.isInt]
theorem DA(x:Str)(t:Tok):ue (.inr x) (.str x t)=true:=by simp[ue,Value.isStrOf]
theorem M0(a b:Int):decide ((Sum.inl a:cj)=Sum.inl b)=(a == b):=by
 by_cases e:a=b
 .subst e;simp
 .have h:¬(Sum.inl a:cj)=Sum.inl b:=λq=>e (Sum.inl.inj q);rw[cT h];exact(oU.mpr e).symm
theorem MX(a b:Str):decide ((Sum.inr a:cj)=Sum.inr b)=decide (a=b):=by
 by_cases e:a=b
 .subst e;simp
 .have h:¬(Sum.inr a:cj)=Sum.inr b:=λq=>e (kI q);rw[cT h,cT e]
theorem MZ(a:Int)(b:Str):decide ((Sum.inl a:cj)=Sum.inr b)=false:=cT (λq=>nomatch q)
theorem MY(a:Str)(b:Int):decide ((Sum.inr a:cj)=Sum.inl b)=false:=cT (λq=>nomatch q)
def cq(prog:Program)(w:World):PySem.KeyKind prog w cj where
 is:=ue
 hash:=Sk w
 inj:=λv a b c f=>by
  rcases dm c with ⟨i,t,rfl,rfl⟩|⟨x,t,rfl,rfl⟩
  .rcases dm f with ⟨j,u,rfl,e⟩|⟨y,u,rfl,e⟩
   .injection e with s _;rw[s]
   .exact nomatch e
  .rcases dm f with ⟨j,u,rfl,e⟩|⟨y,u,rfl,e⟩
   .exact nomatch e
   .injection e with s _;rw[s]
 byValue:=λk v h=>by rcases dm h with ⟨i,t,rfl,rfl⟩|⟨x,t,rfl,rfl⟩<;>rfl
 pyHash:=λn h=>by
  rcases dm n with ⟨i,t,rfl,rfl⟩|⟨x,t,rfl,rfl⟩
  .exact wpAny_pyHash_int h
  .exact wpAny_pyHash_str h
 eqBool:=λm n h=>by
  rcases dm m with ⟨i,t,rfl,rfl⟩|⟨x,t,rfl,rfl⟩
  .rcases dm n with ⟨j,u,rfl,rfl⟩|⟨y,u,rfl,rfl⟩
   .rw [M0]at h;exact El h
   .rw [MZ]at h;exact SeqAt.EqAt.int_str i t y u _ _ _ _ h
  .rcases dm n with ⟨j,u,rfl,rfl⟩|⟨y,u,rfl,rfl⟩
   .rw [MY]at h;exact SeqAt.EqAt.str_int x t j u _ _ _ _ h
   .rw [MX]at h;exact Em h
 «strs»:=λk x t v h=>by
  rcases dm h with ⟨i,u,rfl,e⟩|⟨y,u,rfl,e⟩
  .exact nomatch e
  .injection e with s _;subst s;cases v<;>rfl
theorem xJ(prog:Program)(w:World)(i:Int)(t:Tok):(cq prog w).is (.inl i) (.int i t)=true:=DB i t
theorem xI(prog:Program)(w:World)(x:Str)(t:Tok):(cq prog w).is (.inr x) (.str x t)=true:=DA x t
inductive V where
 |non|bl (b:Bool)|int (i:Int)|str (x:Str)|byt (b:Array UInt8)|flt (b:UInt64)|ref (a:Addr)|ty (n:String)
 deriving DecidableEq
def RelV:V->Value->Prop
 | .non,u=>u=Value.none
 | .bl b,u=>u=Value.bool b
 | .int i,u=>∃t,u=Value.int i t
 | .str x,u=>∃t,u=Value.str x t
 | .byt b,u=>∃t,u=Value.bytes b t
 | .flt b,u=>∃t,u=Value.float b t
 | .ref a,u=>u=Value.ref a
 | .ty n,u=>u=Value.type n
abbrev aZ:List V->LV->Prop:=Paired RelV
variable{us:LV}
theorem aZ.length(r:aZ xs us):xs.length=us.length:=Paired.length r
theorem aZ.get:∀{xs:List V}{us:LV}{i:Nat}{x:V},aZ xs us->xs[i]? = some x->∃u,us[i]? = some u/\RelV x u
 |_,_,_,_,.nil,e=>by simp at e
 |_,_,0,_,.cons r _,e=>by simp at e;subst e;exact⟨_,rfl,r⟩
 |_,_,i+1,x,.cons _ t,e=>by obtain⟨u,h1,h2⟩:=aZ.get (i:=i) (x:=x) t (by simpa using e);exact⟨u,by simpa using h1,h2⟩
variable{u:Value}
theorem aZ.set(r:RelV x u):∀{xs:List V}{us:LV}(i:Nat),aZ xs us->aZ (xs.set i x) (us.set i u)
 |_,_,_,.nil=>.nil
 |_,_,0,.cons _ t=>.cons r t
 |_,_,i+1,.cons q t=>.cons q (aZ.set r i t)
theorem aZ.append:∀{xs ys:List V}{us w:LV},aZ xs us->aZ ys w->aZ (xs++ys) (us++w)
 |_,_,_,_,.nil,s=>s
 |_,_,_,_,.cons r t,s=>.cons r (aZ.append t s)
theorem aZ.take:∀{xs:List V}{us:LV}(n:Nat),aZ xs us->aZ (xs.take n) (us.take n)
 |_,_,0,_=>.nil
 |_,_,_+1,.nil=>.nil
 |_,_,n+1,.cons r t=>.cons r (aZ.take n t)
theorem aZ.drop:∀{xs:List V}{us:LV}(n:Nat),aZ xs us->aZ (xs.drop n) (us.drop n)
 |_,_,0,r=>r
 |_,_,_+1,.nil=>.nil
 |_,_,n+1,.cons _ t=>aZ.drop n t
def ko:Option V->OV->Prop
 |some v,some u=>RelV v u
 |none,none=>True
 |_,_=>False
def KV:List (κ×V)->List (κ×Value)->Prop:=Paired λ(p:κ×V)(q:κ×Value)=>p.1=q.1/\RelV p.2 q.2
noncomputable def kV:cj->V
 | .inl i=>.int i
 | .inr x=>.str x
def oR(h:Heap)(a:Addr)(i:Array Value):Prop:=∃o,h.get? a=some o/\(o.cls=.type "tuple"/\∃n,o.data=.seq i n)/\o.dict=none
variable{h:Heap}{a:Addr}
theorem oR.tup(x:oR h a z):IsTup h a z:=by obtain⟨o,e,c,_⟩:=x;exact⟨o,e,c⟩
theorem oR.lt(x:oR h a z):a < h.objs.size:=x.tup.lt
theorem oR.new(h:Heap)(i:Array Value):oR (h.push { cls:=.type "tuple",data:=.seq i }) h.objs.size i:=⟨_,dD _ rfl,⟨rfl,_,rfl⟩,rfl⟩
inductive HO where
 |lst (xs:List V)
 |tup (xs:List V)
 |dK (kvs:List (cj×V))|dT (kvs:List (List cj×V))
 |set (S:Int->Bool) (n:Nat)
 |ins (C dx:Addr) (fs:List (Str×V))
 |own (x:Addr)
 |xd (fs:List (Str×V))
 |met (f x:Addr)
 |rng (lo hi:Int)
 |frz (o:Obj) (u:HO)
 |tbl (ps:Array Value)
 |ext (φ:Heap->Prop)
noncomputable abbrev Hp:=Addr->Option HO
noncomputable def upd(H:Hp)(a:Addr)(o:HO):Hp:=λb=>if b=a then some o else H b
variable{H:Hp}
theorem aJ:upd H a o a=some o:=by unfold upd;rw[am rfl]
variable{b:Addr}
theorem aq(h:b≠a):upd H a o b=H b:=by unfold upd;rw[au h]
theorem IR{H:Hp}{a:Addr}{o u:HO}:upd (upd H a o) a u=upd H a u:=by funext b;unfold upd;split<;>rfl
theorem PF{H:Hp}{a b:Addr}{o u:HO}(h:H a=some o)(h':H b=some u)(d:o≠u):a≠b:=by intro e;subst e;rw[h]at h';exact d (d4 h')
theorem dw(h:H a=some o)(h':H b=none):a≠b:=by intro e;subst e;rw[h]at h';cases h'
section
variable(P:Program)(w:World)
def cM(H:Hp)(h:Heap)(a:Addr):HO->Prop
 | .lst xs=>xs.length≤sizeLine/\∃(i:LV)(n:Nat),aZ xs i/\h.get? a=some { cls:=.type "list",data:=.seq i.toArray n }
 | .tup xs=>xs.length≤sizeLine/\∃i:LV,aZ xs i/\oR h a i.toArray
 | .dK j=>j.length≤sizeLine/\(a == sysModules)=false/\∃s,KV j s/\h.DictOf (cq P w) a s
 | .dT j=>j.length≤sizeLine/\(a == sysModules)=false/\∃xs:List (List cj×Addr×Value),
   Paired (λ(p:List cj×V)(q:List cj×Addr×Value)=>p.1=q.1/\H q.2.1=some (.tup (p.1.map kV))/\RelV p.2 q.2.2) j xs /\
   ∃o es k,h.get? a=some o/\o.ExactDict/\o.data=.dict es k/\es.toList=xs.map (entryOfKey (tupleKind (cq P w)))/\(xs.map (·.1)).Nodup
 | .set S n=>h.SetOf (intKind P w) a S n
 | .ins C dx fs=>H dx=some (.own a)/\fs.length≤1000/\dx≠a/\h.get? a=some (iV C dx) /\
   ∃mA,h.Ns1 dx mA/\(∀f,ko (fs.lookup f) (mA f))/\yJ mA (fs.map (·.1))
 | .own _=>∃o,h.get? a=some o
 | .xd fs=>∃mA,h.Ns1 a mA/\∀f,ko (fs.lookup f) (mA f)
 | .rng lo hi=>∃t u v,h.get? a=some { cls:=.type "range",data:=.fields #[.int lo t,.int hi u,.int 1 v] }
 | .frz o u=>h.get? a=some o/\cM H h a u
 | .tbl ps=>h.get? a=some { cls:=.none,data:=.fields ps }
 | .met f x=>h.get? a=some (vH (.ref f) (.ref x))
 | .ext e=>e h/\(∃o,h.get? a=some o)/\∀h1 h2:Heap,e h1->(∀o,h1.get? a=some o->h2.get? a=some o)->e h2
def kq(H:Hp)(h:Heap):Prop:=∀a o,H a=some o->cM P w H h a o
end
section
variable{P:Program}{w:World}{H H':Hp}{h h':Heap}{a:Addr}{o:HO}
theorem cM.lt(x:cM P w H h a o):a < h.objs.size:=by
 cases o with
 |lst xs=>obtain⟨_,_,_,_,e⟩:=x;exact aM e
 |tup xs=>obtain⟨_,_,_,p⟩:=x;exact p.lt
 |dK j=>obtain⟨_,_,_,_,o,_,_,e,_⟩:=x;exact aM e
 |dT j=>obtain⟨_,_,_,_,o,_,_,e,_⟩:=x;exact aM e
 |set S n=>obtain⟨o,_,_,_,e,_⟩:=x;exact aM e
 |ins C dx fs=>obtain⟨_,_,_,e,_⟩:=x;exact aM e
 |own y=>obtain⟨_,e⟩:=x;exact aM e
 |xd fs=>obtain⟨_,⟨_,_,_,e,_⟩,_⟩:=x;exact aM e
 |rng lo hi=>obtain⟨_,_,_,e⟩:=x;exact aM e
 |frz b u=>obtain⟨e,_⟩:=x;exact aM e
 |tbl ps=>exact aM (show h.get? a=some _ from x)
 |met f y=>exact aM (show h.get? a=some _ from x)
 |ext s=>obtain⟨_,⟨_,e⟩,_⟩:=x;exact aM e
theorem Paired.mapP:∀{l:List α}{h:List N},Paired F l h->(∀a b,F a b->z a b)->Paired z l h
 |_,_,.nil,_=>.nil
 |_,_,.cons r t,f=>.cons (f _ _ r) (Paired.mapP t f)
theorem cM.stay(x:cM P w H h a o)(k:∀b u,(b=a\/H b=some (.own a))->h.get? b=some u->h'.get? b=some u)
  (F:∀b,H b=some (.own a)->H' b=some (.own a)) (K:∀b xs,H b=some (.tup xs)->H' b=some (.tup xs)):cM P w H' h' a o:=by
 induction o with
 |lst xs=>obtain⟨z,i,n,r,e⟩:=x;exact⟨z,i,n,r,k _ _ (.inl rfl) e⟩
 |tup xs=>obtain⟨z,i,r,s,e,c⟩:=x;exact⟨z,i,r,s,k _ _ (.inl rfl) e,c⟩
 |dK j=>obtain⟨z,y,D,r,s,es,m,e,c⟩:=x;exact⟨z,y,D,r,s,es,m,k _ _ (.inl rfl) e,c⟩
 |dT j=>obtain⟨z,y,xs,r,s,es,m,e,c⟩:=x;exact⟨z,y,xs,Paired.mapP r λp q z=>⟨z.1,K _ _ z.2.1,z.2.2⟩,s,es,m,k _ _ (.inl rfl) e,c⟩
 |set S n=>obtain⟨s,es,m,t,e,c⟩:=x;exact⟨s,es,m,t,k _ _ (.inl rfl) e,c⟩
 |ins C dx fs=>obtain⟨d,z,B,e,mA,⟨g,es,m,l,c⟩,r⟩:=x;exact⟨F _ d,z,B,k _ _ (.inl rfl) e,mA,⟨g,es,m,k _ _ (.inr d) l,c⟩,r⟩
 |own y=>obtain⟨s,e⟩:=x;exact⟨s,k _ _ (.inl rfl) e⟩
 |xd fs=>obtain⟨mA,⟨g,es,m,e,c⟩,r⟩:=x;exact⟨mA,⟨g,es,m,k _ _ (.inl rfl) e,c⟩,r⟩
 |rng lo hi=>obtain⟨t,u,v,e⟩:=x;exact⟨t,u,v,k _ _ (.inl rfl) e⟩
 |frz s u A=>obtain⟨e,q⟩:=x;exact⟨k _ _ (.inl rfl) e,A q⟩
 |tbl ps=>have e:h.get? a=some { cls:=.none,data:=.fields ps }:=x;show h'.get? a=some { cls:=.none,data:=.fields ps };exact k a _ (.inl rfl) e
 |met f y=>have e:h.get? a=some (vH (.ref f) (.ref y)):=x;show h'.get? a=some (vH (.ref f) (.ref y));exact k a _ (.inl rfl) e
 |ext E=>obtain⟨p,⟨o,e⟩,st⟩:=x;exact⟨st _ _ p λo q=>k _ _ (.inl rfl) q,⟨o,k _ _ (.inl rfl) e⟩,st⟩
theorem kq.lt(x:kq P w H h)(e:H a=some o):a < h.objs.size:=(x a o e).lt
theorem kq.fresh(x:kq P w H h)(e:h.objs.size≤a):H a=none:=by
 cases q:H a with
 |none=>rfl
 |some u=>exact absurd (bN (x.lt q) e) (gn _)
theorem kq.kept(x:kq P w H h)(k:∀b u,h.get? b=some u->h'.get? b=some u):kq P w H h':=λa o e=>
 (x a o e).stay (λb u _ q=>k b u q) (λ_ q=>q) λ_ _ q=>q
theorem kq.laid(x:kq P w H h)(k:∀b u,h.get? b=some u->h'.get? b=some u)(p:h.objs.size≤a)(n:cM P w (upd H a o) h' a o):kq P w (upd H a o) h':=λb u e=>by
 have f:=x.fresh p;by_cases s:b=a
 .subst s;rw[aJ]at e;cases e;exact n
 .rw [aq s]at e;exact(x b u e).stay (λc v _ q=>k c v q) (λc q=>by rw[aq (dw q f)];exact q) λc xs q=>by rw[aq (dw q f)];exact q
end
def Rd(H:Hp)(a:Addr)(u:HO):Prop:=H a=some u\/∃o,H a=some (.frz o u)
theorem Rd.ok{P:Program}{w:World}{H:Hp}{h:Heap}{a:Addr}{u:HO}(r:Rd H a u)(x:kq P w H h):cM P w H h a u:=by
 rcases r with r|⟨o,r⟩
 .exact x a u r
 .obtain⟨_,q⟩:=x a _ r;exact q
def QA:Option HO->Prop
 |some (.lst _)=>True
 |some (.dK _)=>True
 |some (.dT _)=>True
 |some (.set _ _)=>True
 |some (.ins _ _ _)=>True
 |some (.ext _)=>True
 |_=>False
section
variable{P:Program}{w:World}{H:Hp}{h h':Heap}{x e:Addr}{o':HO}
theorem kq.write(ok:kq P w H h)(m:QA (H x))(d:e=x\/H e=some (.own x))(k:∀b u,b≠e->h.get? b=some u->h'.get? b=some u)(o:∃u,h'.get? e=some u)
  (p:cM P w (upd H x o') h' x o'):kq P w (upd H x o') h':=λb u q=>by
 have n:∀c y,H c=some (.own y)->c≠x:=λc y r z=>by subst z;rw[r]at m;exact m
 have t:∀c xs,H c=some (.tup xs)->c≠x:=λc xs r z=>by subst z;rw[r]at m;exact m
 by_cases s:b=x
 .subst s;rw[aJ]at q;cases q;exact p
 .rw [aq s]at q;by_cases a:b=e
  .have g:H b=some (.own x):=by
    rcases d with z|z
    .exact absurd (a.trans z) s
    .rw [a];exact z
   rw[q]at g;cases g;obtain⟨v,i⟩:=o;exact⟨v,by rw[a];exact i⟩
  .refine (ok b u q).stay (λc v f r=>k c v ?_ r) (λc r=>by rw[aq (n c b r)];exact r) λc xs r=>by rw[aq (t c xs r)];exact r
   rcases f with rfl|f
   .exact a
   .rintro rfl;rcases d with z|z
    .exact n c b f z
    .rw [f]at z;cases z;exact s rfl
end
structure Un(fs ex:List Addr)(H H':Hp)(h h':Heap):Prop where
 keep:∀b o,h.get? b=some o->H b=none->b ∉ fs->b ∉ ex->h'.get? b=some o
 slot:∀b o,h.get? b=some o->H b=none->b ∈ fs->b ∉ ex->∃sl,h'.get? b=some { o with slots:=sl }
 free:∀b o,h.get? b=some o->H b=none->b ∉ ex->H' b=none
 there:∀b o,h.get? b=some o->b ∉ ex->∃o',h'.get? b=some o'
 tups:∀b xs,H b=some (.tup xs)->H' b=some (.tup xs)
 frzs:∀b o u,H b=some (.frz o u)->H' b=some (.frz o u)
 tbls:∀b ps,H b=some (.tbl ps)->∃more,H' b=some (.tbl (ps++more))
section
variable{fs fs' ex ex':List Addr}{H I H2:Hp}{h h1 h2 h':Heap}{a x e:Addr}{o:HO}
theorem Un.any(u:Un fs ex H I h h1)(q:h.get? b=some z)(n:H b=none)(a:b ∉ ex):∃s,h1.get? b=some { z with slots:=s }:=by
 by_cases x:b ∈ fs
 .exact u.slot b z q n x a
 .exact⟨z.slots,u.keep b z q n x a⟩
theorem Un.kept(k:∀b u,h.get? b=some u->h'.get? b=some u):Un fs ex H H h h':=
 ⟨λb o q _ _ _=>k b o q,λb o q _ _ _=>⟨o.slots,k b o q⟩,λ_ _ _ n _=>n,λb o q _=>⟨o,k b o q⟩,λ_ _ q=>q,λ_ _ _ q=>q,λ_ ps q=>⟨#[],by rw[q];simp⟩⟩
theorem Un.refl:Un fs ex H H h h:=Un.kept λ_ _ q=>q
theorem Un.laid(k:∀b u,h.get? b=some u->h'.get? b=some u)(p:h.objs.size≤a)(x:H a=none):Un fs ex H (upd H a o) h h' where
 keep:=λb u q _ _ _=>k b u q
 slot:=λb u q _ _ _=>⟨u.slots,k b u q⟩
 free:=λb u q n _=>by rw[aq (bo (bN (aM q) p))];exact n
 there:=λb u q _=>⟨u,k b u q⟩
 tups:=λb xs q=>by rw[aq (dw q x)];exact q
 frzs:=λb u xs q=>by rw[aq (dw q x)];exact q
 tbls:=λb ps q=>⟨#[],by rw[aq (dw q x),q];simp⟩
theorem Un.write(m:QA (H x))(p:e=x\/H e=some (.own x))(k:∀b u,b≠e->h.get? b=some u->h'.get? b=some u)(s:∃u,h'.get? e=some u):Un fs ex H (upd H x o) h h':=by
 have t:∀b,H b=none->b≠x:=λb n z=>by subst z;rw[n]at m;exact m
 have c:∀b,H b=none->b≠e:=λb n z=>by
  subst z;rcases p with r|r
  .exact t b n r
  .rw [n]at r;cases r
 have f:∀b u,H b=some u->¬QA (some u)->b≠x:=λb u q nm z=>by subst z;rw[q]at m;exact nm m
 refine⟨fun b u q n _ _=>k b u (c b n) q,fun b u q n _ _=>⟨u.slots,k b u (c b n) q⟩,fun b u q n _=>by rw [aq (t b n)];exact n,fun b u q _=>?_,
  λb xs q=>by rw[aq (f b _ q λz=>z)];exact q,λb u xs q=>by rw[aq (f b _ q λz=>z)];exact q,λb ps q=>⟨#[],by rw[aq (f b _ q λz=>z),q];simp⟩⟩
 by_cases a:b=e
 .subst a;exact s
 .exact⟨u,k b u a q⟩
end
noncomputable def trk(h:Heap)(H:Hp):List Addr:=(List.range h.objs.size).filter λa=>(H a).isSome
def wm(h:Heap)(H:Hp):Heap:=eU h (trk h H)
theorem DH(h:Heap)(H:Hp):(wm h H).objs.size=h.objs.size:=PySem.W.hideAll_size _ _
variable{o:Obj}
theorem G0(e:h.get? b=some o)(n:H b=none):(wm h H).get? b=some o:=
 vK _ e λm=>by have q:(H b).isSome=true:=(eE.mp m).2;rw[n]at q;simp at q
theorem JL(e:(wm h H).get? b=some o):h.get? b=some o/\H b=none:=by
 have a:h.get? b=some o:=vI (trk h H) e;refine⟨a,?_⟩;cases q:H b with
 |none=>rfl
 |some x=>have m:b ∈ trk h H:=eE.mpr ⟨gh.mpr (aM a),by simp[q]⟩;have z:(wm h H).get? b=none:=BJ (trk h H) m;rw[z]at e;cases e
noncomputable def lE(g h:Heap)(L:Addr):PN:=(List.range h.objs.size).filterMap λa=>if a=L\/(g.get? a).isSome=true then none else (h.get? a).map λo=>(a,o)
variable{g:Heap}{L:Addr}
theorem xK(h1:a≠L)(h2:g.get? a=none)(x:h.get? a=some o):(a,o) ∈ lE g h L:=
 jV.mpr ⟨a,gh.mpr (aM x),by simp[h1,h2,x]⟩
set_option tactic.hygienic true in
theorem rX(x:p ∈ lE g h L):p.1≠L/\g.get? p.1=none/\h.get? p.1=some p.2:=by
 obtain⟨b,_,e⟩:=jV.mp x;split at e
 .cases e
 .rename_i n;cases q:h.get? b with
  |none=>rw[q]at e;simp at e
  |some u=>
   rw[q]at e;simp only[Option.map_some,IE]at e;subst e;refine⟨λz=>n (.inl z),?_,q⟩;show g.get? b=none;cases r:g.get? b with
   |none=>rfl
   |some v=>exact(n (.inr (by simp[r]))).elim
def bS(g h:Heap)(L d:Addr):PN:=(lE g h L).filter λp=>decide (p.1≠d)
theorem xF:News g L h (lE g h L):=λp x=>let ⟨a,b,c⟩:=rX x;⟨c,a,b⟩
structure Mod(K:FG)(mg:SV)(base:Heap):Prop where
 kin:K.In base
 glob:base.Ns mainGlobals mg
 blt:∃mb,base.Ns builtinsNs mb/\∀x:Str,x≠"__name__"->mb x=bootBuiltins x
 nolimit:base.NoLimit
structure Cx where
 p:Program
 w:World
 K:FG
 g:SV
 b:Heap
 A:Around
 N:LS
 z:Shared
 y:Hp
 e:Env
 o:List Env
 k:List Env
 ex:List Addr
 fn:Str->Bool
 c:Bool
 pn:PN
 xe:VP
noncomputable def iK(l:List Env):List Addr:=l.filterMap (·.frame)
abbrev Cx.fs(X:Cx):List Addr:=iK X.o
def HN(sc:Scope)(x:Str):Prop:=sc.names.lookup x=some .local\/sc.names.lookup x=some .cell\/sc.names.lookup x=some .free
def Loc(sc:Scope)(x:Str):Prop:=sc.names.lookup x=some .local\/sc.names.lookup x=some .cell
def Look(e:Env)(h:Heap)(m:SV)(x:Str)(u:Value):Prop:=
 (e.kindOf x=some .local/\m x=some u)\/((e.kindOf x=some .cell\/e.kindOf x=some .free)/\∃c,e.cells.lookup x=some c/\h.IsCell c (some u))
structure Cx.Ok(X:Cx):Prop where
 mod:Mod X.K X.g X.b
 kind:X.e.scope.kind=.function
 glob:X.e.globals=mainGlobals
 blt:X.e.builtins=builtinsNs
 above:X.z.heap.objs.size≤X.e.locals
 inj:∀x y c,X.e.cells.lookup x=some c->X.e.cells.lookup y=some c->x=y
 has:∀x,(X.e.kindOf x=some .cell\/X.e.kindOf x=some .free)->∃c,X.e.cells.lookup x=some c
 cab:∀x c,X.fn x=true->X.e.cells.lookup x=some c->X.z.heap.objs.size≤c
 hd:X.c=true->X.A.handled=none
 frames:X.A.frames=some X.k
 stk:X.k=X.o\/(X.k=X.e::X.o/\X.e.frame=some X.e.locals)
 exf:∀b ∈ X.ex,b≠X.e.locals/\∀x c,X.e.cells.lookup x=some c->c≠b
 bs:∀b o,X.b.get? b=some o->X.z.heap.get? b=some o/\X.y b=none
 bsz:X.b.objs.size≤X.z.heap.objs.size
 noex:∀b o,X.b.get? b=some o->b ∉ X.ex
 exfs:∀b ∈ X.ex,b ∉ X.fs
 funs:X.z.heap.FunFrames X.b X.o
 frf:∀b ∈ X.fs,X.y b=none
structure Inv(X:Cx)(pins:PN)(σ:List (Option V))(H:Hp)(s:Shared):Prop where
 o:X.Ok
 os:s.os=X.z.os
 bare:AllBare s.gens
 base:Un X.fs X.ex X.y H X.z.heap s.heap
 loc:∃m,s.heap.Ns X.e.locals m/\∀(i:Nat)(x:Str)(v:V),X.N[i]? = some x->σ[i]? = some (some v)->HN X.e.scope x->∃u,RelV v u/\Look X.e s.heap m x u
 cell:∀x c,X.e.cells.lookup x=some c->∃v,s.heap.IsCell c v
 free:H X.e.locals=none
 freeC:∀x c,X.e.cells.lookup x=some c->H c=none
 pin:∀p ∈ X.pn++pins,s.heap.get? p.1=some p.2/\H p.1=none/\p.1≠X.e.locals/\p.1 ∉ X.fs/\∀v,p.2.data≠.cell v
 h:kq X.p X.w H s.heap
 len:σ.length=X.N.length
section
variable{X:Cx}{B:PN}{G:List (Option V)}{H H':Hp}{s:Shared}{h':Heap}
theorem Cx.Ok.nofr(ok:X.Ok)(e:X.b.get? b=some o):b ∉ X.fs:=λh=>by have:=(ok.funs.mem h).1;rw[e]at this;cases this
theorem Inv.bs(I:Inv X B G H s):∀b o,X.b.get? b=some o->s.heap.get? b=some o/\H b=none:=λb o e=>
 ⟨I.base.keep b o (I.o.bs b o e).1 (I.o.bs b o e).2 (I.o.nofr e) (I.o.noex b o e),I.base.free b o (I.o.bs b o e).1 (I.o.bs b o e).2 (I.o.noex b o e)⟩
theorem Inv.bk(I:Inv X B G H s):∀b o,X.b.get? b=some o->s.heap.get? b=some o:=λb o e=>(I.bs b o e).1
theorem Inv.mod(I:Inv X B G H s):Mod X.K X.g X.b:=I.o.mod
theorem Inv.kIn(I:Inv X B G H s):X.K.In s.heap:=I.o.mod.kin.keeps I.bk
theorem Inv.fr(I:Inv X B G H s):∃m,Fr X.b X.e.locals s.heap m:=
 let ⟨m,h,_⟩:=I.loc
 ⟨m,h,I.bk,aF I.o.bsz I.o.above⟩
theorem Inv.lt(I:Inv X B G H s):X.e.locals < s.heap.objs.size:=let ⟨_,h,_⟩:=I.loc;h.lt
theorem Inv.sz(I:Inv X B G H s):X.z.heap.objs.size≤s.heap.objs.size:=aF I.o.above (g9 I.lt)
theorem Inv.nofs(I:Inv X B G H s)(h:s.heap.objs.size≤a):a ∉ X.fs:=λb=>by obtain⟨_,o,x,_⟩:=I.o.funs.mem b;exact absurd (bN (aM x) (aF I.sz h)) (gn _)
theorem Inv.cne(I:Inv X B G H s):∀x c,X.e.cells.lookup x=some c->c≠X.e.locals:=λx c e z=>by obtain⟨v,o,n,hd⟩:=I.cell x c e;obtain⟨m,⟨o',es,p,a,h,_⟩,_⟩:=I.loc;rw[z,a]at n;cases n;rw[h]at hd;cases hd
theorem Inv.funs(I:Inv X B G H s):s.heap.FunFrames X.b X.o:=by
 have all:∀(l:List Env),(∀b ∈ iK l,b ∈ X.fs)->X.z.heap.FunFrames X.b l->s.heap.FunFrames X.b l:=by
  intro l;induction l with
  |nil=>intro _ _;trivial
  |cons n r i=>
   intro a c;obtain⟨k,⟨L,o,f,m,t,hd⟩,p⟩:=c;have h:L ∈ X.fs:=a L (by unfold iK;rw[qq,f];exact aH);obtain⟨q,e⟩:=I.base.slot L o t (I.o.frf L h) h λz=>I.o.exfs L z h
   exact⟨k,⟨L,_,f,m,e,hd⟩,i (λb x=>a b (by unfold iK;rw[qq,f];exact aI _ x)) p⟩
 exact all X.o (λ_ x=>x) I.o.funs
theorem Inv.stack(I:Inv X B G H s):s.heap.FunFrames X.b X.k:=by
 rcases I.o.stk with e|⟨e,h⟩
 .rw [e];exact I.funs
 .rw [e];obtain⟨m,n,_⟩:=I.loc;refine .cons (by rw[I.o.kind];decide) h n ?_ I.funs;exact yA (aF I.o.bsz I.o.above)
theorem Inv.stkSub(I:Inv X B G H s):∀b ∈ iK X.k,b ∈ X.e.locals::X.fs:=λb h=>by
 rcases I.o.stk with e|⟨e,f⟩
 .rw [e]at h;exact aI _ h
 .rw [e]at h;unfold iK at h;rw[qq,f]at h;exact h
theorem Inv.stkFree(I:Inv X B G H s):∀b ∈ iK X.k,H b=none:=λb h=>by
 rcases aP.mp (I.stkSub b h) with e|h
 .rw [e];exact I.free
 .obtain⟨_,o,x,_⟩:=I.o.funs.mem h;exact I.base.free b o x (I.o.frf b h) λz=>I.o.exfs b z h
theorem Inv.step{g':Array GenState}{t':Nat}{d':Drawn}{ch:List Addr}(I:Inv X B G H s)
  (a:∀b ∈ ch,(b ∈ X.ex\/X.z.heap.objs.size≤b)/\b≠X.e.locals/\(∀x c,X.e.cells.lookup x=some c->c≠b)/\∀p ∈ X.pn++B,p.1≠b)
  (t:∀b o,b≠X.e.locals->b ∉ X.fs->b ∉ ch->s.heap.get? b=some o->H b=none->h'.get? b=some o)
  (slot:∀b o,b≠X.e.locals->b ∈ X.fs->b ∉ ch->s.heap.get? b=some o->H b=none->∃M,h'.get? b=some { o with slots:=M }) (f:∀b o,b ∉ ch->s.heap.get? b=some o->H b=none->H' b=none)
  (y:∀b o,b ∉ ch->s.heap.get? b=some o->∃o',h'.get? b=some o')
  (D:∀b xs,H b=some (.tup xs)->H' b=some (.tup xs)) (P:∀b o u,H b=some (.frz o u)->H' b=some (.frz o u)) (A:∀b ps,H b=some (.tbl ps)->∃more,H' b=some (.tbl (ps++more)))
  (ns:∀m,s.heap.Ns X.e.locals m->h'.Ns X.e.locals m) (E:kq X.p X.w H' h') (Z:AllBare g') :
  Inv X B G H' { s with heap:=h',gens:=g',drawn:=d',toks:=t' }:=by
 have L:∀b o,X.z.heap.get? b=some o->b≠X.e.locals:=λb o e=>bo (bN (aM e) I.o.above);have C:∀b o,X.z.heap.get? b=some o->b ∉ X.ex->b ∉ ch:=λb o e h j=>by
  rcases(a b j).1 with z|z
  .exact h z
  .exact absurd (bN (aM e) z) (gn _)
 have K:∀x c,X.e.cells.lookup x=some c->∀v,s.heap.IsCell c v->h'.IsCell c v:=λx c e v hz=>by
  obtain⟨o,S,hd⟩:=hz;have w:c ∉ ch:=λz=>(a c z).2.2.1 x c e rfl;by_cases Q:c ∈ X.fs
  .obtain⟨M,q⟩:=slot c o (I.cne x c e) Q w S (I.freeC x c e);exact⟨_,q,hd⟩
  .exact⟨o,t c o (I.cne x c e) Q w S (I.freeC x c e),hd⟩
 refine⟨I.o,I.os,Z,⟨λb o e n j h=>?_,λb o e n j h=>?_,λb o e n h=>?_,λb o e h=>?_,λb xs e=>D b xs (I.base.tups b xs e),λb o xs e=>P b o xs (I.base.frzs b o xs e),λb ps e=>?_⟩,?_,λx c e=>?_,?_,λx c e=>?_,λp R=>?_,E,I.len⟩
 .exact t b o (L b o e) j (C b o e h) (I.base.keep b o e n j h) (I.base.free b o e n h)
 .obtain⟨M,g⟩:=I.base.slot b o e n j h;obtain⟨N,F⟩:=slot b _ (L b o e) j (C b o e h) g (I.base.free b o e n h);exact⟨N,F⟩
 .obtain⟨o',g⟩:=I.base.there b o e h;exact f b o' (C b o e h) g (I.base.free b o e n h)
 .obtain⟨o',g⟩:=I.base.there b o e h;exact y b o' (C b o e h) g
 .obtain⟨m1,g⟩:=I.base.tbls b ps e;obtain⟨m2,F⟩:=A b _ g;exact⟨m1++m2,by rw[F,AX]⟩
 .obtain⟨m,hn,hl⟩:=I.loc;refine⟨m,ns m hn,λi x v g F W=>?_⟩;obtain⟨u,r,l⟩:=hl i x v g F W;refine⟨u,r,?_⟩;rcases l with l|⟨k,c,e,z⟩
  .exact .inl l
  .exact .inr ⟨k,c,e,K x c e _ z⟩
 .obtain⟨v,z⟩:=I.cell x c e;exact⟨v,K x c e v z⟩
 .obtain⟨m,⟨o,_,_,S,_⟩,_⟩:=I.loc;exact f _ o (λz=>(a _ z).2.1 rfl) S I.free
 .obtain⟨v,o,S,hd⟩:=I.cell x c e;exact f c o (λz=>(a c z).2.2.1 x c e rfl) S (I.freeC x c e)
 .obtain⟨e,n,T,V,d⟩:=I.pin p R;have w:p.1 ∉ ch:=λz=>(a p.1 z).2.2.2 p R rfl;exact⟨t p.1 p.2 T V w e n,f p.1 p.2 w e n,T,V,d⟩
theorem Inv.un{t':Nat}(I:Inv X B G H s)(u:Un X.fs [] H H' s.heap h')(k:kq X.p X.w H' h'):Inv X B G H' { s with heap:=h',toks:=t' }:=by
 obtain⟨m,⟨o,es,q,f,r⟩,_⟩:=id I.loc;obtain⟨l,L⟩:=u.any f I.free (by simp);exact I.step (g':=s.gens) (d':=s.drawn) (ch:=[]) (λ_ z=>nomatch z) (λb o _ a _ e n=>u.keep b o e n a (by simp)) (λb o _ a _ e n=>u.slot b o e n a (by simp)) (λb o _ e n=>u.free b o e n (by simp)) (λb o _ e=>u.there b o e (by simp)) u.tups u.frzs u.tbls (λv c=>by obtain⟨o',x,p,h,t⟩:=c;rw[f]at h;cases h;exact⟨_,x,p,L,t⟩) k I.bare
theorem Inv.call{g':Array GenState}{t':Nat}{d':Drawn}{ch:List Addr}(I:Inv X B G H s)(u:Un (iK X.k) ch H H' s.heap h')(q:kq X.p X.w H' h')(g:AllBare g')
  (a:∀b ∈ ch,(b ∈ X.ex\/X.z.heap.objs.size≤b)/\b≠X.e.locals/\(∀x c,X.e.cells.lookup x=some c->c≠b)/\∀p ∈ X.pn++B,p.1≠b) :
  Inv X B G H' { s with heap:=h',gens:=g',drawn:=d',toks:=t' }:=by
 obtain⟨m,⟨o,es,j,v,r⟩,_⟩:=id I.loc;obtain⟨y,L⟩:=u.any v I.free λz=>(a _ z).2.1 rfl;exact I.step (ch:=ch) a (λb o L d h e n=>u.keep b o e n (λz=>(aP.mp (I.stkSub b z)).elim L d) h) (λb o _ _ h e n=>u.any e n h) (λb o h e n=>u.free b o e n h) (λb o h e=>u.there b o e h) u.tups u.frzs u.tbls (λl w=>by obtain⟨o',t,f,k,i⟩:=w;rw[v]at k;cases k;exact⟨_,t,f,L,i⟩) q g
theorem Inv.turned{t':Nat}{i:Addr}(I:Inv X B G H s)(k:∀b o,b≠i->s.heap.get? b=some o->h'.get? b=some o)(g:H i=none)(L:i≠X.e.locals)
  (h1:i ∈ X.ex\/X.z.heap.objs.size≤i) (h2:∀x c,X.e.cells.lookup x=some c->c≠i) (f:∀p ∈ X.pn++B,p.1≠i):Inv X B G H { s with heap:=h',toks:=t' }:=by
 have t:∀b u,H b=some u->b≠i:=λb u e z=>by rw[z,g]at e;cases e
 refine I.step (g':=s.gens) (d':=s.drawn) (ch:=[i]) (λb d=>?_) (λb o _ _ h e _=>k b o (λz=>h (by simp[z])) e) (λb o _ _ h e _=>⟨o.slots,k b o (λz=>h (by simp[z])) e⟩) (λ_ _ _ _ n=>n)
  (λb o h e=>⟨o,k b o (λz=>h (by simp[z])) e⟩) (λ_ _ e=>e) (λ_ _ _ e=>e) (λb ps e=>⟨#[],by rw[e];simp⟩) (λm w=>?_) (λb u e=>?_) I.bare
 .have e:b=i:=by simpa using d
  subst e;exact⟨h1,L,h2,f⟩
 .obtain⟨o,es,a,j,r⟩:=w;exact⟨o,es,a,k _ o (aC L) j,r⟩
 .refine (I.h b u e).stay (λc v h q=>k c v ?_ q) (λ_ q=>q) λ_ _ q=>q;rcases h with z|z
  .rw [z];exact t b u e
  .exact t c _ z
theorem Inv.tok(I:Inv X B G H s)(t:Nat):Inv X B G H { s with toks:=t }:=I.un (h':=s.heap) (t':=t) Un.refl I.h
theorem Inv.kept{t':Nat}(I:Inv X B G H s)(k:∀b u,s.heap.get? b=some u->h'.get? b=some u):Inv X B G H { s with heap:=h',toks:=t' }:=I.un (Un.kept k) (I.h.kept k)
theorem Inv.laid{a:Addr}{o:HO}{t':Nat}(I:Inv X B G H s)(k:∀b u,s.heap.get? b=some u->h'.get? b=some u)(h:s.heap.objs.size≤a)(n:cM X.p X.w (upd H a o) h' a o) :
  Inv X B G (upd H a o) { s with heap:=h',toks:=t' }:=I.un (Un.laid k h (I.h.fresh h)) (I.h.laid k h n)
theorem Inv.write{x e:Addr}{o:HO}{t:Nat}(I:Inv X B G H s)(m:QA (H x))(a:e=x\/H e=some (.own x))(k:∀b u,b≠e->s.heap.get? b=some u->h'.get? b=some u)(h:∃u,h'.get? e=some u)
  (n:cM X.p X.w (upd H x o) h' x o):Inv X B G (upd H x o) { s with heap:=h',toks:=t }:=I.un (Un.write m a k h) (I.h.write m a k h n)
theorem Inv.pins_of(I:Inv X B G H s)(h:∀p ∈ N,s.heap.get? p.1=some p.2/\H p.1=none/\p.1≠X.e.locals/\p.1 ∉ X.fs/\∀v,p.2.data≠.cell v):Inv X N G H s:=
 ⟨I.o,I.os,I.bare,I.base,I.loc,I.cell,I.free,I.freeC,λp x=>(bP.mp x).elim (λz=>I.pin p (iU _ z)) (h p),I.h,I.len⟩
theorem rY{N:LS}(s:N.Nodup){i j:Nat}{x:Str}(a:N[i]? = some x)(b:N[j]? = some x):i=j:=by obtain⟨h1,e⟩:=bz.mp a;obtain⟨h2,h⟩:=bz.mp b;exact(List.getElem_inj s).mp (e.trans h.symm)
theorem oa{M:Model}{A:Around}{E:VP}{i:Nat}{x:Str}{v:V}{u:Value}{Q:Unit->Shared->Prop}(I:Inv X B G H s)(hN:X.N.Nodup)(hi:X.N[i]? = some x)(l:Loc X.e.scope x)(r:RelV v u)
  (h:∀s',Inv X B (G.set i (some v)) H s'->(∃a,gK a s.heap s'.heap/\(a=X.e.locals\/X.e.cells.lookup x=some a))->Q () s') (hf:X.fn x=true\/X.e.scope.names.lookup x=some .local:=by first|exact .inl rfl|exact .inr rfl|assumption):wpAny M A (storeName X.e x u) Q E s:=by
 obtain⟨m,hn,hl⟩:=id I.loc;have W:(X.e.scope.kind == .class ||(X.e.scope.kind == .module && X.e.locals != X.e.globals))=false:=by rw[I.o.kind];rfl
 have K:i < G.length:=by rw[I.len];exact(bz.mp hi).1
 have C:=I.cne;have w:∀{a:Addr}{h':Heap},(∃o,s.heap.get? a=some o/\H a=none)->gK a s.heap h'->kq X.p X.w H h':=λ{a h'} ha f b ob e=>by
  obtain⟨_,_,S⟩:=ha;refine(I.h b ob e).stay (λc w' g q=>(f.2 c ?_).trans q) (λ_ q=>q) λ_ _ q=>q;rintro rfl;rcases g with rfl|g
  .rw [S]at e;cases e
  .rw [S]at g;cases g
 rcases l with P|P
 .refine wpAny_storeName_local P hn (λh' hn' f=>?_) W;obtain⟨oL,_,_,hoL,_⟩:=id hn;refine h _ ⟨I.o,I.os,I.bare,⟨λb o e n D l=>?_,λb o e n D l=>?_,I.base.free,λb o e l=>?_,I.base.tups,I.base.frzs,I.base.tbls⟩,⟨_,hn',λj y v' t F e3=>?_⟩,λy c e=>?_,I.free,I.freeC,λp hp=>?_,w ⟨oL,hoL,I.free⟩ f,by simpa using I.len⟩ ⟨_,f,.inl rfl⟩
  .exact (f.2 b (bo (bN (aM e) I.o.above))).trans (I.base.keep b o e n D l)
  .obtain⟨sl,t⟩:=I.base.slot b o e n D l;exact⟨sl,(f.2 b (bo (bN (aM e) I.o.above))).trans t⟩
  .obtain⟨o',t⟩:=I.base.there b o e l;exact⟨o',(f.2 b (bo (bN (aM e) I.o.above))).trans t⟩
  .by_cases N:j=i
   .subst N;rw[hi]at t;cases t;rw[bH K]at F;cases F;exact⟨u,r,.inl ⟨P,by simp⟩⟩
   .rw [aL (aC N)]at F;obtain⟨u',r',q⟩:=hl j y v' t F e3;refine⟨u',r',?_⟩;rcases q with ⟨k,e⟩|⟨k,c,e,z⟩
    .refine .inl ⟨k,?_⟩;have:y≠x:=λe=>N (rY hN t (e ▸ hi));simp[this,e]
    .exact .inr ⟨k,c,e,z.sameBut f (C y c e)⟩
  .obtain⟨w',z⟩:=I.cell y c e;exact⟨w',z.sameBut f (C y c e)⟩
  .obtain⟨e,n,ne,nf,d⟩:=I.pin p hp;exact⟨(f.2 p.1 ne).trans e,n,ne,nf,d⟩
 .have L:X.fn x=true:=by
   rcases hf with z|z
   .exact z
   .rw [z]at P;cases P
  obtain⟨c,g⟩:=I.o.has x (.inl P);obtain⟨w',z⟩:=I.cell x c g;refine wpAny_storeName_cell I.o.kind P g z (λh' R f=>?_);obtain⟨oc,Z,hocd⟩:=id z;refine h { s with heap:=h' } ⟨I.o,I.os,I.bare,⟨λb o e n D l=>?_,λb o e n D l=>?_,I.base.free,λb o e l=>?_,I.base.tups,I.base.frzs,I.base.tbls⟩,⟨m,hn.sameBut f (aC (C x c g)),λj y v' t F e3=>?_⟩,λy c' e=>?_,I.free,I.freeC,λp hp=>?_,w ⟨oc,Z,I.freeC x c g⟩ f,by simpa using I.len⟩ ⟨c,f,.inr g⟩
  .exact (f.2 b (bo (bN (aM e) (I.o.cab x c L g)))).trans (I.base.keep b o e n D l)
  .obtain⟨sl,t⟩:=I.base.slot b o e n D l;exact⟨sl,(f.2 b (bo (bN (aM e) (I.o.cab x c L g)))).trans t⟩
  .obtain⟨o',t⟩:=I.base.there b o e l;exact⟨o',(f.2 b (bo (bN (aM e) (I.o.cab x c L g)))).trans t⟩
  .by_cases N:j=i
   .subst N;rw[hi]at t;cases t;rw[bH K]at F;cases F;exact⟨u,r,.inr ⟨.inl P,c,g,R⟩⟩
   .rw [aL (aC N)]at F;obtain⟨u',r',q⟩:=hl j y v' t F e3;refine⟨u',r',?_⟩;rcases q with q|⟨k,c',e,z'⟩
    .exact .inl q
    .refine .inr ⟨k,c',e,z'.sameBut f ?_⟩;rintro rfl;exact N (rY hN t (I.o.inj _ _ _ e g ▸ hi))
  .by_cases T:c'=c
   .subst T;exact⟨_,R⟩
   .obtain⟨w2,z2⟩:=I.cell y c' e;exact⟨w2,z2.sameBut f T⟩
  .obtain⟨e,n,ne,nf,d⟩:=I.pin p hp;refine⟨(f.2 p.1 ?_).trans e,n,ne,nf,d⟩;intro q;rw[q,Z]at e;have q':oc=p.2:=d4 e;exact d w' (by rw[<- q'];exact hocd)
theorem xr(I:Inv X B G H s)(N:X.N.Nodup)(hi:X.N[i]? = some x)(e:Loc X.e.scope x)(r:RelV v u)
  (h:∀s',Inv X B (G.set i (some v)) H s'->Q () s') (f:X.fn x=true\/X.e.scope.names.lookup x=some .local:=by first|exact .inl rfl|exact .inr rfl|assumption):wpAny M A (storeName X.e x u) Q E s:=
 oa I N hi e r (λs' a _=>h s' a) f
theorem Inv.call'(I:Inv X B G H s)(n:s'.os=s.os)(u:Un (iK X.k) z H H' s.heap s'.heap)(o:kq X.p X.w H' s'.heap)(a:AllBare s'.gens)
  (h:∀b ∈ z,(b ∈ X.ex\/X.z.heap.objs.size≤b)/\b≠X.e.locals/\(∀x c,X.e.cells.lookup x=some c->c≠b)/\∀p ∈ X.pn++B,p.1≠b):Inv X B G H' s':=by
 obtain⟨h',g,d,t,o'⟩:=s';have e:o'=s.os:=n;subst e;exact I.call (g':=g) (t':=t) (d':=d) u o a h
end
noncomputable abbrev XK:=Value->Option Addr->Hp->Prop
noncomputable abbrev St:=List (Option V)
noncomputable abbrev VK:=V->Hp->Prop
noncomputable abbrev TE:=St->Hp->VK->Prop
noncomputable abbrev TT:=St->Hp->(Bool->Hp->Prop)->Prop
noncomputable abbrev TA:=St->Hp->(List V->Hp->Prop)->Prop
structure Ends where
 nx:St->Hp->Prop
 rt:VK
 bk:St->Hp->Prop:=λ_ _=>False
 ct:St->Hp->Prop:=λ_ _=>False
noncomputable abbrev TS:=Ends->St->Hp->Prop
def EP(X:Cx)(B:PN)(G:St)(Q:VK)(u:Value)(s':Shared):Prop:=∃v H',Inv X B G H' s'/\RelV v u/\Q v H'
def TP(X:Cx)(B:PN)(G:St)(Q:Bool->Hp->Prop)(b:Bool)(s':Shared):Prop:=∃H',Inv X B G H' s'/\Q b H'
def AP(X:Cx)(B:PN)(G:St)(Q:List V->Hp->Prop)(us:LV)(s':Shared):Prop:=∃v H',Inv X B G H' s'/\aZ v us/\Q v H'
def SP(X:Cx)(B:PN)(D:Ends)(f:Flow)(s':Shared):Prop:=
 match f with
 | .next=>∃h H',Inv X B h H' s'/\D.nx h H'
 | .brk=>∃h H',Inv X B h H' s'/\D.bk h H'
 | .cont=>∃h H',Inv X B h H' s'/\D.ct h H'
 | .ret u=>∃v h H',Inv X B h H' s'/\RelV v u/\D.rt v H'
variable{α:Type}
noncomputable abbrev wx(X:Cx)(m:Sem α):=wpAny (model X.p X.w) X.A m
def PE(X:Cx)(e:Expr)(t:TE):Prop:=
 ∀(B:PN)(s:Shared)(G:St)(H:Hp)(Q:VK),Inv X B G H s->t G H Q->wx X (eval e X.e) (EP X B G Q) X.xe s
def PT(X:Cx)(e:Expr)(t:TT):Prop:=
 ∀(B:PN)(s:Shared)(G:St)(H:Hp)(Q:Bool->Hp->Prop),Inv X B G H s->t G H Q->wx X (isTrue e X.e (eval e X.e)) (TP X B G Q) X.xe s
def PW(X:Cx)(e:Expr)(t:TT):Prop:=
 ∀(w:Sem Value)(B:PN)(s:Shared)(G:St)(H:Hp)(Q:Bool->Hp->Prop),Inv X B G H s->t G H Q->wx X (isTrue e X.e w) (TP X B G Q) X.xe s
variable{X:Cx}{e:Expr}
theorem PW.pt(h:PW X e t):PT X e t:=h _
def PA(X:Cx)(es:Ab)(t:TA):Prop:=
 ∀(q:Pos)(B:PN)(s:Shared)(G:St)(H:Hp)(Q:List V->Hp->Prop),Inv X B G H s->t G H Q->wx X (spliced (backTo q (starEach es X.e))) (AP X B G Q) X.xe s
def PS(X:Cx)(st:Stmt)(t:TS):Prop:=
 ∀(B:PN)(s:Shared)(G:St)(H:Hp)(D:Ends),Inv X B G H s->t D G H->wx X (exec st X.e) (SP X B D) X.xe s
def jq(X:Cx)(st:List Stmt)(t:TS):Prop:=
 ∀(B:PN)(s:Shared)(G:St)(H:Hp)(D:Ends),Inv X B G H s->t D G H->wx X (execs st X.e) (SP X B D) X.xe s
variable{M:Model}{A:Around}{E:VP}{s:Shared}
theorem du(h:wpAny M A t Q E s)(e:∀a s,Q a s->z a s):wpAny M A t z E s:=aU h e λ_ _ x=>x
section
variable{X:Cx}
noncomputable def Je(i:Nat):TE:=λG H Q=>∃v,G[i]? = some (some v)/\Q v H
noncomputable def tC(v:V):TE:=λ_ H Q=>Q v H
theorem rT(N:X.N[i]? = some x)(w:HN X.e.scope x)(hd:(x == ("__debug__":Str))=false:=by decide)(d:(x == ("__classdict__":Str))=false:=by decide):PE X (.Name x q) (Je i):=by
 intro B s G H Q I h;obtain⟨v,e,h⟩:=h;obtain⟨m,p,b⟩:=I.loc;obtain⟨u,r,l⟩:=b i x v N e w;have f:EP X B G Q u s:=⟨v,H,I,r,h⟩;rcases l with ⟨k,t⟩|⟨k,c,n,a⟩
 .exact yB (wpAny_loadName_local I.o.kind k p t f) hd
 .rcases k with k|k
  .exact yB (wpAny_loadName_cell I.o.kind k n a f) hd
  .exact yB (wpAny_loadName_free I.o.kind k n a f d) hd
theorem Mx {i z q}:PE X (.Constant (.int i) z q) (tC (.int i)):=λ_ _ _ H _ I h=>wpAny_Constant_int ⟨.int i,H,I.tok _,⟨_,rfl⟩,h⟩
theorem Pf {b z q}:PE X (.Constant (.bool b) z q) (tC (.bl b)):=λ_ _ _ H _ I h=>Constant_bool ⟨.bl b,H,I,rfl,h⟩
theorem Mw {z q}:PE X (.Constant .none z q) (tC .non):=λ_ _ _ H _ I h=>AH ⟨.non,H,I,rfl,h⟩
theorem Mt {x z q}:PE X (.Constant (.str x) z q) (tC (.str x)):=λ_ _ _ H _ I h=>Calls.Constant_str ⟨.str x,H,I.tok _,⟨_,rfl⟩,h⟩
def Gl(X:Cx)(x:Str):Prop:=X.e.kindOf x=some .globalImplicit
theorem j9(I:Inv X B G H s)(g:Gl X x)(m:X.g x=some u)(h:Q u s)
  (hd:(x == ("__debug__":Str))=false:=by decide):wx X (eval (.Name x q) X.e) Q E s:=
 AG I.o.kind g (Calls.loadGlobal_global (by rw[I.o.glob];exact I.mod.glob.keeps I.bk) m h) hd
theorem mh(I:Inv X B G H s)(g:Gl X x)(m:X.g x=none)(v:bootBuiltins x=some u)(h:Q u s)
  (n:x≠"__name__":=by decide) (hd:(x == ("__debug__":Str))=false:=by decide):wx X (eval (.Name x q) X.e) Q E s:=by
 obtain⟨b,h1,h2⟩:=I.mod.blt;exact AG I.o.kind g (Calls.loadGlobal_builtin (by rw[I.o.glob];exact I.mod.glob.keeps I.bk) m (by rw[I.o.blt];exact h1.keeps I.bk) ((h2 x n).trans v) h) hd
theorem Cg(g:Gl X x)(m:X.g x=some u)(r:RelV v u)(hd:(x == ("__debug__":Str))=false:=by decide):PE X (.Name x q) (tC v):=
 λ_ _ _ H _ I h=>j9 I g m ⟨v,H,I,r,h⟩ hd
theorem Ci(g:Gl X x)(m:X.g x=none)(a:bootBuiltins x=some u)(r:RelV v u)(n:x≠"__name__":=by decide)(hd:(x == ("__debug__":Str))=false:=by decide):PE X (.Name x q) (tC v):=
 λ_ _ _ H _ I h=>mh I g m a ⟨v,H,I,r,h⟩ n hd
def T8(ta tb:TE)(k:Int->Int->Hp->Prop):St->Hp->Prop:=λG H=>ta G H λx I=>tb G I λy H2=>∃i j,x=.int i/\y=.int j/\k i j H2
variable{a b:Expr}{ta tb:TE}{q:Pos}
noncomputable def Dh(p:Int->Int->Bool)(ta tb:TE):TE:=λG H Q=>T8 ta tb (λi j H2=>Q (.bl (p i j)) H2) G H
abbrev UE:TE->TE->TE:=Dh λi j=>decide (i < j)
abbrev UF:TE->TE->TE:=Dh λi j=>decide (i≤j)
abbrev UG:TE->TE->TE:=Dh λi j=>decide (j < i)
abbrev UH:TE->TE->TE:=Dh λi j=>decide (j≤i)
abbrev T6:TE->TE->TE:=Dh λi j=>decide (i=j)
abbrev T4:TE->TE->TE:=Dh λi j=>!decide (i=j)
variable{tA tB':TT}{bS:Ab}
noncomputable def RV(t u:TT):TT:=λG H Q=>t G H λc I=>if c=true then u G I Q else Q false I
noncomputable def T1(t u:TT):TT:=λG H Q=>t G H λc I=>if c=true then Q true I else u G I Q
noncomputable def RN(t:TT):TT:=λG H Q=>t G H λc I=>Q (!c) I
theorem Js(x:PT X a tA):PW X (.BoolOp .And [a] q) tA:=by
 intro w B s G H Q I h;refine isTrue_and (du (x B s G H Q I h) λc n e=>?_);cases c with
 |true=>exact isTrue_and_nil e
 |false=>exact e
theorem Mh(x:PT X a tA):PW X (.BoolOp .Or [a] q) tA:=by
 intro w B s G H Q I h;refine isTrue_or (du (x B s G H Q I h) λc n e=>?_);cases c with
 |false=>exact isTrue_or_nil e
 |true=>exact e
theorem Mi(k:PT X a tA)(f:PW X (.BoolOp .And (b::bS) q) tB'):PW X (.BoolOp .And (a::b::bS) q) (RV tA tB'):=by
 intro w B s G H Q x h;refine isTrue_and (du (k B s G H _ x h) λc m z=>?_);obtain⟨I,e,n⟩:=z;cases c with
 |true=>exact f w B m G I Q e n
 |false=>exact⟨I,e,n⟩
theorem O'(k:PT X a tA)(f:PW X (.BoolOp .Or (b::bS) q) tB'):PW X (.BoolOp .Or (a::b::bS) q) (T1 tA tB'):=by
 intro w B s G H Q x h;refine isTrue_or (du (k B s G H _ x h) λc m z=>?_);obtain⟨I,e,n⟩:=z;cases c with
 |true=>exact⟨I,e,n⟩
 |false=>exact f w B m G I Q e n
theorem Mj(e:PT X a tA):PT X (.UnaryOp .Not a q) (RN tA):=by intro B s G H Q x h;exact isTrue_not (e B s G H (λc I=>Q (!c) I) x h)
noncomputable def OZ(ta tb:TE):TE:=λG H Q=>ta G H λx I=>∃c,x=.bl c/\if c=true then tb G I Q else Q (.bl false) I
noncomputable def RM(ta tb:TE):TE:=λG H Q=>ta G H λx I=>∃c,x=.bl c/\if c=true then Q (.bl true) I else tb G I Q
noncomputable def OQ(ta:TE):TE:=λG H Q=>ta G H λx I=>∃c,x=.bl c/\Q (.bl (!c)) I
theorem Mu {z} (h:PE X a t):PE X (.BoolOp z [a] q) t:=λB s G H Q I hw=>BoolOp_one (h B s G H Q I hw)
theorem MA(f:PE X a ta)(m:PE X (.BoolOp .And (b::bS) q) tb):PE X (.BoolOp .And (a::b::bS) q) (OZ ta tb):=by
 intro B s G H Q e h;refine BoolOp_and (du (f B s G H _ e h) λv t z=>?_);obtain⟨x,I,k,r,n⟩:=z;obtain⟨c,rfl,n⟩:=n;cases r;refine kH ?_;cases c with
 |true=>exact m B t G I Q k n
 |false=>exact⟨.bl false,I,k,rfl,n⟩
theorem Pd(f:PE X a ta)(m:PE X (.BoolOp .Or (b::bS) q) tb):PE X (.BoolOp .Or (a::b::bS) q) (RM ta tb):=by
 intro B s G H Q e h;refine BoolOp_or (du (f B s G H _ e h) λv t z=>?_);obtain⟨x,I,k,r,n⟩:=z;obtain⟨c,rfl,n⟩:=n;cases r;refine kH ?_;cases c with
 |false=>exact m B t G I Q k n
 |true=>exact⟨.bl true,I,k,rfl,n⟩
theorem Mv(f:PE X a ta):PE X (.UnaryOp .Not a q) (OQ ta):=by intro B s G H Q e h;refine UnaryOp_ (du (f B s G H _ e h) λv b z=>?_);obtain⟨x,I,k,r,n⟩:=z;obtain⟨c,rfl,n⟩:=n;cases r;exact not_of (kH ⟨.bl (!c),I,k,rfl,n⟩)
noncomputable def T5(t:TT)(ta tb:TE):TE:=λG H Q=>t G H λc I=>if c=true then ta G I Q else tb G I Q
theorem FY(r:PT X c tA)(f:PE X a ta)(m:PE X b tb):PE X (.IfExp c a b q) (T5 tA ta tb):=by
 intro B s G H Q x h;refine wpAny_IfExp (du (r B s G H _ x h) λd k z=>?_);obtain⟨I,e,n⟩:=z;cases d with
 |true=>exact f B k G I Q e n
 |false=>exact m B k G I Q e n
end
def iO(K:FG)(H:Hp)(a:Addr)(xs:List V):Prop:=
 Rd H a (.lst xs) \/
  ∃(o:Obj)(i:Array Value)(n:Nat),K.lookup a=some o/\o.cls=.type "list"/\o.dict=none/\o.data=.seq i n/\i.size≤sizeLine/\aZ xs i.toList
def w5(K:FG)(H:Hp)(a:Addr)(xs:List V):Prop:=
 Rd H a (.tup xs) \/
  ∃(o:Obj)(i:Array Value)(n:Nat),K.lookup a=some o/\o.cls=.type "tuple"/\o.dict=none/\o.data=.seq i n/\i.size≤sizeLine/\aZ xs i.toList
noncomputable def SJ:Value->Option V
 | .none=>some .non
 | .bool b=>some (.bl b)
 | .int i _=>some (.int i)
 | .str x _=>some (.str x)
 | .bytes b _=>some (.byt b)
 | .float b _=>some (.flt b)
 | .ref a=>some (.ref a)
 | .type n=>some (.ty n)
 |_=>none
theorem RelV.abs(r:RelV x u):SJ u=some x:=by
 cases x with
 |non=>cases r;rfl
 |bl _=>cases r;rfl
 |int _=>obtain⟨t,rfl⟩:=r;rfl
 |str _=>obtain⟨t,rfl⟩:=r;rfl
 |byt _=>obtain⟨t,rfl⟩:=r;rfl
 |flt _=>obtain⟨t,rfl⟩:=r;rfl
 |ref _=>cases r;rfl
 |ty _=>cases r;rfl
variable{y:V}
theorem RelV.inj(r:RelV x u)(q:RelV y u):x=y:=d4 (r.abs.symm.trans q.abs)
theorem aZ.inj:∀{xs ys:List V}{us:LV},aZ xs us->aZ ys us->xs=ys
 |_,_,_,.nil,.nil=>rfl
 |_,_,_,.cons r t,.cons h x=>by rw[r.inj h,aZ.inj t x]
section
variable{X:Cx}{B:PN}{G:St}{H:Hp}{s:Shared}{a:Addr}{xs ys:List V}
theorem iO.of{K:FG}(h:H a=some (.lst xs)):iO K H a xs:=.inl (.inl h)
theorem Inv.list(I:Inv X B G H s)(h:iO X.K H a xs):∃i:LV,aZ xs i/\PlainL s.heap a i.toArray/\xs.length≤sizeLine:=by
 rcases h with h|⟨o,i,n,k,c,hd,x,f,r⟩
 .obtain⟨z,i,n,r,e⟩:=h.ok I.h;exact⟨i,r,⟨_,n,e,rfl,rfl,rfl⟩,z⟩
 .refine⟨i.toList,r,⟨o,n,I.kIn a o k,c,hd,by simpa using x⟩,?_⟩;have e:=r.length;simp only[mK]at e;lia
theorem Inv.tuple(I:Inv X B G H s)(h:w5 X.K H a xs):∃i:LV,aZ xs i/\IsTup s.heap a i.toArray/\xs.length≤sizeLine:=by
 rcases h with h|⟨o,i,n,k,c,_,x,f,r⟩
 .obtain⟨z,i,r,p⟩:=h.ok I.h;exact⟨i,r,p.tup,z⟩
 .refine⟨i.toList,r,⟨o,I.kIn a o k,c,n,by simpa using x⟩,?_⟩;have e:=r.length;simp only[mK]at e;lia
theorem Inv.tupleN(I:Inv X B G H s)(h:w5 X.K H a xs):∃i:LV,aZ xs i/\oR s.heap a i.toArray:=by
 rcases h with q|⟨o,v,m,e,x,n,k,_,r⟩
 .exact⟨_,(q.ok I.h).2.choose_spec⟩
 .exact⟨v.toList,r,o,I.kIn a o e,⟨x,m,by simpa using k⟩,n⟩
theorem Inv.list_inj(I:Inv X B G H s)(h:iO X.K H a xs)(h':iO X.K H a ys):xs=ys:=by
 obtain⟨t,r,⟨o,n,e,_,_,d⟩,_⟩:=I.list h;obtain⟨i,b,⟨o',c,k,_,_,x⟩,_⟩:=I.list h';rw[e]at k;cases k;rw[d]at x;injection x with f _;have:t=i:=by simpa using js Array.toList f
 subst this;exact r.inj b
end
noncomputable abbrev Cx.wish(X:Cx)(E:VP):Cx:={ X with xe:=E }
abbrev Cx.nox(X:Cx):Cx:=X.wish λ_ _=>False
theorem Cx.Ok.wish(ok:X.Ok)(E:VP):(X.wish E).Ok:=
 ⟨ok.mod,ok.kind,ok.glob,ok.blt,ok.above,ok.inj,ok.has,ok.cab,ok.hd,ok.frames,ok.stk,ok.exf,ok.bs,ok.bsz,ok.noex,ok.exfs,ok.funs,ok.frf⟩
theorem Cx.Ok.unwish(ok:(X.wish E).Ok):X.Ok:=
 ⟨ok.mod,ok.kind,ok.glob,ok.blt,ok.above,ok.inj,ok.has,ok.cab,ok.hd,ok.frames,ok.stk,ok.exf,ok.bs,ok.bsz,ok.noex,ok.exfs,ok.funs,ok.frf⟩
section
variable{X:Cx}{B:PN}{G:St}{H:Hp}{s:Shared}{E:VP}
theorem Inv.wish(I:Inv X B G H s)(E:VP):Inv (X.wish E) B G H s:=⟨I.o.wish E,I.os,I.bare,I.base,I.loc,I.cell,I.free,I.freeC,I.pin,I.h,I.len⟩
theorem Inv.unwish(I:Inv (X.wish E) B G H s):Inv X B G H s:=⟨I.o.unwish,I.os,I.bare,I.base,I.loc,I.cell,I.free,I.freeC,I.pin,I.h,I.len⟩
set_option tactic.hygienic true in
theorem SP.unwish(h:SP (X.wish E) B D f s'):SP X B D f s':=by
 cases f with
 |next=>obtain⟨x,H',I,q⟩:=h;exact⟨x,H',I.unwish,q⟩
 |brk=>obtain⟨x,H',I,q⟩:=h;exact⟨x,H',I.unwish,q⟩
 |cont=>obtain⟨x,H',I,q⟩:=h;exact⟨x,H',I.unwish,q⟩
 |ret u=>obtain⟨v,x,H',I,r,q⟩:=h;exact⟨v,x,H',I.unwish,r,q⟩
theorem jq.nox{st:List Stmt}{t:TS}(h:jq X.nox st t):jq X st t:=λB s G H D I hw=>
 aU (h B s G H D (I.wish _) hw) (λ_ _ q=>q.unwish) λ_ _ z=>False.elim z
end
section
variable{X:Cx}{st:Stmt}{bS:List Stmt}{t u:TS}{e:Expr}{te:TE}{q:Pos}
noncomputable def OS:TS:=λD G H=>D.nx G H
noncomputable def RJ(t u:TS):TS:=λD G H=>t { D with nx:=u D } G H
theorem Jt:jq X [] OS:=λ_ _ G H _ I h=>yK ⟨G,H,I,h⟩
set_option tactic.hygienic true in
theorem m7(h1:PS X st t)(h2:jq X bS u):jq X (st::bS) (RJ t u):=by
 intro B s G H D I h;refine yM (du (h1 B s G H { D with nx:=u D } I h) λf e q=>?_);cases f with
 |next=>obtain⟨x,H',a,q⟩:=q;exact h2 B e x H' D a q
 |ret v=>exact q
 |brk=>exact q
 |cont=>exact q
set_option tactic.hygienic true in
theorem m5(h1:PS X st t):jq X [st] t:=by
 intro B s G H D I h;refine yM (du (h1 B s G H D I h) λf x q=>?_);cases f with
 |next=>exact yK q
 |ret v=>exact q
 |brk=>exact q
 |cont=>exact q
noncomputable def L8:TS:=λD G H=>D.bk G H
theorem FP:PS X (.Break q) L8:=λ_ _ G H _ I h=>wpAny_Break ⟨G,H,I,h⟩
theorem Inv.quiet(I:Inv X B G H s):interactive X.e=false:=by simp[interactive,I.o.kind]
noncomputable def OU(te:TE):TS:=λD G H=>te G H λ_ I=>D.nx G I
theorem Cb(k:PE X e te)(f:swapsWith e none q.line X.e=pure false:=by rfl):PS X (.Expr e q) (OU te):=by intro B s G H D a h;exact wpAny_Expr_any (du (k B s G H _ a h) λv c z=>by obtain⟨x,I,n,r,b⟩:=z;exact⟨G,I,n,b⟩) a.quiet f
noncomputable def RK(te:TE):TS:=λD G H=>te G H D.rt
theorem FM(k:PE X e te):PS X (.Return (some e) q) (RK te):=by intro B s G H D a h;exact wpAny_Return_some (du (k B s G H _ a h) λv b z=>by obtain⟨x,I,n,r,f⟩:=z;exact⟨x,G,I,n,r,f⟩)
noncomputable def RR(c:TT)(t u:TS):TS:=λD G H=>c G H λb I=>if b=true then t D G I else u D G I
theorem Pa{c:Expr}{a b:List Stmt}{tc:TT}(r:PT X c tc)(f:jq X a t)(m:jq X b u):PS X (.If c a b q) (RR tc t u):=by
 intro B s G H D x h;refine wpAny_If (du (r B s G H _ x h) λd k z=>?_);obtain⟨I,e,n⟩:=z;cases d with
 |true=>exact f B k G I D e n
 |false=>exact m B k G I D e n
noncomputable def Fo:TS:=λ_ _ _=>False
theorem FN:PS X st Fo:=λ_ _ _ _ _ _ h=>h.elim
theorem oh:jq X z Fo:=λ_ _ _ _ _ _ h=>h.elim
end
noncomputable abbrev TG:=V->St->Hp->(St->Hp->Prop)->Prop
noncomputable abbrev NI:=List V->St->Hp->(St->Hp->Prop)->Prop
def PG(X:Cx)(a:Expr)(t:TG):Prop:=
 ∀(B:PN)(s:Shared)(G:St)(H:Hp)(v:V)(u:Value)(Q:St->Hp->Prop),Inv X B G H s->RelV v u->t v G H Q ->
  wx X (assign a X.e u) (λ_ s'=>∃h H',Inv X B h H' s'/\Q h H') X.xe s
def Qz(X:Cx)(x:Ab)(t:NI):Prop:=
 ∀(B:PN)(s:Shared)(G:St)(H:Hp)(v:List V)(us:LV)(Q:St->Hp->Prop),Inv X B G H s->aZ v us->t v G H Q ->
  wx X (assignInOrder ((assignEach x X.e).map (·.2)) us) (λ_ s'=>∃h H',Inv X B h H' s'/\Q h H') X.xe s
noncomputable abbrev NH:=V->V->V->Hp->(Hp->Prop)->Prop
def Qx(X:Cx)(t:NH):Prop:=
 ∀(B:PN)(s:Shared)(G:St)(H:Hp)(o i v:V)(x h u:Value)(Q:Hp->Prop),Inv X B G H s->RelV o x->RelV i h->RelV v u->t o i v H Q ->
  wx X (setItem x h u) (λ_ s'=>∃H',Inv X B G H' s'/\Q H') X.xe s
noncomputable abbrev UJ:=V->V->Hp->VK->Prop
section
variable{X:Cx}{q:Pos}
noncomputable def K5(i:Nat):TG:=λv G H Q=>Q (G.set i (some v)) H
theorem JC(N:X.N.Nodup)(hi:X.N[i]? = some x)(e:Loc X.e.scope x)(f:X.fn x=true\/X.e.scope.names.lookup x=some .local:=by first|exact .inl rfl|exact .inr rfl|assumption):PG X (.Name x q) (K5 i):=by intro B s G H v u Q I r h;exact Es (xr I N hi e r (λs' a=>⟨_,H,a,h⟩) f)
noncomputable def Ss:NI:=λv G H Q=>v=[]/\Q G H
noncomputable def P9(t:TG)(u:NI):NI:=λs G H Q=>∃v r,s=v::r/\t v G H λh H'=>u r h H' Q
theorem JB:Qz X [] Ss:=by intro B s G H v us Q I r h;obtain⟨e,h⟩:=h;subst e;cases r;exact assignInOrder_nil ⟨G,H,I,h⟩
theorem FT{e:Expr}{es:Ab}{t:TG}{u:NI}(h1:PG X e t)(h2:Qz X es u)
  (f:(assignEach (e::es) X.e).map (·.2)=assign e X.e::(assignEach es X.e).map (·.2):=by rfl):Qz X (e::es) (P9 t u):=by
 intro B s G H p us Q x r h;obtain⟨v,m,k,h⟩:=h;subst k;cases r with
 |cons r b=>rw[f];refine assignInOrder_cons (du (h1 B s G H _ _ _ x r h) λ_ c z=>?_);obtain⟨a,I,n,q⟩:=z;exact h2 B c a I _ _ Q n b q
noncomputable def Sq(K:FG)(n:Nat)(t:NI):TG:=λv G H Q=>∃a xs,v=.ref a/\w5 K H a xs/\xs.length=n/\t xs G H Q
theorem Mr(p:X.c=true)(h:Qz X es t)
  (d:(assignEach es X.e).length=n:=by rfl) (x:(assignEach es X.e).findIdx? (·.1)=none:=by rfl):PG X (.Tuple es k q) (Sq X.K n t):=by
 intro B s G H v u Q I r hw;obtain⟨a,xs,m,w,l,hw⟩:=hw;subst m;cases r;obtain⟨j,f,g,z⟩:=I.tuple w;refine assign_Tuple_tuple (I.o.hd p) g (by simp[d,<- l,f.length]) x λh' i=>?_
 have c:Inv X B G H { s with heap:=h' }:=I.kept (t':=s.toks) λb o e=>i b o (bo (aM e)) e;exact h B _ G H xs _ Q c (by simpa using f) hw
noncomputable def Sr(to x:TE)(t:NH):TG:=λv G H Q=>to G H λo I=>x G I λi H2=>t o i v H2 λh=>Q G h
theorem Ms{o i:Expr}{to n:TE}{t:NH}(p:PE X o to)(hi:PE X i n)(d:Qx X t)
  (m:∀v,assign (.Subscript o i q) X.e v=(do
   let z <- holding [v] (eval o X.e)
   let N <- holding [v,z] (eval i X.e)
   standAt q
   holding [v,z,N] (setItem z N v)
   release [v,z,N] []):=by intro _;rfl):PG X (.Subscript o i q) (Sr to n t):=by
 intro B s G H v u Q a r h;rw[m];refine aa (db (du (p B s G H _ a h) λz F e=>?_));obtain⟨x,I,f,l,w⟩:=e;refine aa (db (du (hi B F G I _ f w) λN K e=>?_));obtain⟨y,H2,b,S,g⟩:=e;refine aa (lY (aa (db (du (d B K G H2 x y v z N u _ b l S r g) λ_ P e=>?_))));obtain⟨k,c,j⟩:=e;exact wpAny_release ⟨G,k,c,j⟩
noncomputable def OY(te:TE)(g:TG):TS:=λD G H=>te G H λx I=>g x G I D.nx
theorem FQ{tg e:Expr}{te:TE}{g:TG}(f:PE X e te)(b:PG X tg g)(c:swapsWithSole [tg] e q.line X.e=pure false:=by rfl)(hw:swappedStores [tg] e X.e=pure none:=by rfl)
  (h1:(assignEach [tg] X.e).map (·.2)=[assign tg X.e]:=by rfl):PS X (.Assign [tg] e q) (OY te g):=by
 intro B s G H D a h;refine wpAny_Assign_stores (du (f B s G H _ a h) λv t z=>?_) c hw;obtain⟨x,I,k,r,m⟩:=z;rw[h1];exact du (b B t G I x v _ k r m) λ_ p n=>n
theorem FK(N:X.N.Nodup)(hi:X.N[i]? = some x)(m:Loc X.e.scope x)(f:PE X e te)(c:swapsWith e (some (.Name x pos')) q.line X.e=pure false:=by rfl)(b:X.fn x=true\/X.e.scope.names.lookup x=some .local:=by first|exact .inl rfl|exact .inr rfl|assumption) :
  PS X (.Assign [.Name x pos'] e q) (OY te (K5 i)):=by
 intro B s G H D a h;refine wpAny_Assign_Name (du (f B s G H _ a h) λv p z=>?_) c;obtain⟨y,I,n,t,r⟩:=z;exact xr n N hi m t (λd k=>⟨_,I,k,r⟩) b
end
structure It where
 go:Nat->Hp->Prop
 yld:Nat->Hp->V->Hp->Prop
 stop:Nat->Hp->Prop
def w_(X:Cx)(B:PN)(H:Hp)(b:Addr):Prop:=
 H b=none/\b≠X.e.locals/\b ∉ X.fs/\(b ∈ X.ex\/X.z.heap.objs.size≤b)/\(∀x c,X.e.cells.lookup x=some c->c≠b)/\∀p ∈ X.pn++B,p.1≠b
variable{B:PN}{G:St}
theorem Inv.fpOk(I:Inv X B G H s)(h:s.heap.objs.size≤b)(n:H' b=none):w_ X B H' b:=by
 refine⟨n,cm (bN I.lt h),I.nofs h,.inr (aF I.sz h),λx c e z=>?_,λp a z=>?_⟩
 .obtain⟨v,q⟩:=I.cell x c e;exact absurd (bN q.lt (by rw[z];exact h)) (gn _)
 .exact absurd (bN (aM (I.pin p a).1) (by rw[z];exact h)) (gn _)
structure Turn(P:Program)(w:World)(K:FG)(tg:Expr)(J9:It)(fp:List Addr)(it:Addr)(tn:Nat->Heap->Prop):Prop where
 mem:it ∈ fp
 obj:∀i h,tn i h->∀b ∈ fp,∃o,h.get? b=some o/\∀v,o.data≠.cell v
 keep:∀i h h',tn i h->(∀b ∈ fp,∀o,h.get? b=some o->h'.get? b=some o)->tn i h'
 item:∀(X:Cx),X.p=P->X.w=w->X.K=K->X.c=true->∀(i:Nat)(pins:PN)(s:Shared)(σ:St)(H:Hp)(E:VP),Inv X pins σ H s->(∀b ∈ fp,w_ X pins H b)->tn i s.heap->J9.go i H ->
  wpAny (model P w) X.A (pyNext (.ref it)) (fun r s1=>∃u,r=some u /\
   wpAny (model P w) X.A (letOwnedTupleGo tg (.ref it) u) (λ_ s2=>∃x H',Inv X pins σ H' s2/\RelV x u/\J9.yld i H x H'/\tn (i+1) s2.heap/\∀b ∈ fp,H' b=none) E s1) E s
 done:∀(X:Cx),X.p=P->X.w=w->X.K=K->X.c=true->∀(i:Nat)(pins:PN)(s:Shared)(σ:St)(H:Hp)(E:VP),Inv X pins σ H s->(∀b ∈ fp,w_ X pins H b)->tn i s.heap->J9.stop i H ->
  wpAny (model P w) X.A (pyNext (.ref it)) (λr s1=>r=none/\Inv X pins σ H s1) E s
 self:∀(A:Around)(i:Nat)(s:Shared)(Q:VP)(E:VP),tn i s.heap->Q (.ref it) s->wpAny (model P w) A (pyIter (.ref it)) Q E s
noncomputable abbrev TI:=St->Hp->(It->Hp->Prop)->Prop
def Q_(X:Cx)(B:PN)(G:St)(tg:Expr)(R:It->Hp->Prop)(i:Value)(s:Shared):Prop:=
 ∃(t:Addr)(f:List Addr)(n:Nat->Heap->Prop)(h:It)(H':Hp),i=.ref t/\Inv X B G H' s/\Turn X.p X.w X.K tg h f t n/\n 0 s.heap/\(∀b ∈ f,w_ X B H' b)/\R h H'
def PI(X:Cx)(tg iter:Expr)(w:TI):Prop:=
 ∀(B:PN)(s:Shared)(G:St)(H:Hp)(R:It->Hp->Prop),Inv X B G H s->w G H R ->
  wx X (eval iter X.e) (λv h=>wx X (pyIter v) (Q_ X B G tg R) X.xe h) X.xe s
variable{tg:Expr}
theorem K3(e:s.heap.get? z=some o)(c:o.cls=.type n)(hd:o.data=.fields N)
    (a:["enumerate","zip","dict_itemiterator","dict_reverseitemiterator","odict_iterator","itertools.zip_longest","itertools.pairwise"].contains n=false) (x:Q () s):wpAny M A (letOwnedTupleGo tg (.ref z) u) Q E s:=by
  unfold letOwnedTupleGo;cases tg<;>first
    |exact aj x
    | (cases u <;> first
        |exact aj x
        | (refine aa (wpAny_load e ?_)
           rw[c,hd];show wpAny M A (if (["enumerate","zip","dict_itemiterator","dict_reverseitemiterator","odict_iterator","itertools.zip_longest","itertools.pairwise"].contains n && N[0]? == some (rawInt _))=true then _ else _) Q E s;rw[au (by intro h;rw[a,u0]at h;cases h)];exact aj x))
noncomputable def Rb(K:FG)(a:Addr):It:=
 ⟨λi H=>∃xs x,iO K H a xs/\xs[i]? = some x,λi H x H'=>H'=H/\∀xs,iO K H a xs->xs[i]? = some x,λi H=>∃xs,iO K H a xs/\xs.length≤i⟩
noncomputable def Ra(lo:Int)(n:Nat):It:=⟨λi _=>i < n,λi H x H'=>H'=H/\x=.int (lo+i),λi _=>n≤i⟩
variable{w:World}{K:FG}
theorem Dc(a t:Addr):Turn P w K tg (Rb K a) [t] t (λi h=>h.IsListIter t a i) where
 mem:=by simp
 obj:=λi h st b n=>by
  have e:b=t:=by simpa using n
  subst e;obtain⟨o,e,c,d⟩:=st;exact⟨o,e,λv z=>by rw[d]at z;cases z⟩
 keep:=λi h h' st k=>st.at λo e=>k t (by simp) o e
 item:=by
  intro X F hw S M i B s G H E I m st A;subst F hw S;obtain⟨xs,x,q,C⟩:=A;obtain⟨D,L,p,W⟩:=I.list q;obtain⟨u,T,Z⟩:=L.get C;obtain⟨r,g,R,j,l,y⟩:=m t (by simp);refine wpAny_pyNext_list_item st p.isList (x:=u) (by simpa using T) λh' f sb=>?_
  have N:Inv X B G H { s with heap:=h' }:=I.turned (t':=s.toks) (λb o n e=>(sb.2 b n).trans e) r g j l y;obtain⟨o,e,c,d⟩:=id f;exact⟨u,rfl,K3 (s:={ s with heap:=h' }) e c d (by decide) ⟨x,H,N,Z,⟨rfl,λys V=>by rw[I.list_inj V q];exact C⟩,f,λb n=>(m b n).1⟩⟩
 done:=by intro X F hw S M i B s G H E I m st A;subst F hw S;obtain⟨xs,q,C⟩:=A;obtain⟨D,L,p,W⟩:=I.list q;obtain⟨r,g,R,j,l,y⟩:=m t (by simp);have hl:=L.length;exact wpAny_pyNext_list_end (I.o.hd M) st p.isList (by simp;lia) λh' Q=>⟨rfl,I.turned (t':=s.toks) (λb o n e=>Q b o n e) r g j l y⟩
 self:=λ_ _ _ _ _ st h=>wpAny_pyIter_listiter st h
theorem yU(x:Addr)(lo:Int)(n:Nat):Turn P w K tg (Ra lo n) [x] x (λi h=>IsRangeIter h x (lo+(i:Nat) * 1) ((n:Int)-(i:Nat)) 1) where
 mem:=by simp
 obj:=λi h st b a=>by
  have e:b=x:=by simpa using a
  subst e;exact⟨_,st,λv z=>by have D:Data.fields _=Data.cell v:=z;cases D⟩
 keep:=λi h h' st k=>k x (by simp) _ st
 item:=by
  intro X g hw u j i B s G H E I c st l;subst g hw u;obtain⟨m,r,F,p,q,d⟩:=c x (by simp);have W:=Walks.range (prog:=X.p) (w:=X.w) (I.o.hd j) x lo 1 n;refine W.item i s _ _ l st λv h' tk A f C=>?_
  obtain⟨t,rfl⟩:=A;have y:Inv X B G H { s with heap:=h',toks:=tk }:=I.turned (λb o a e=>C b o (by simpa using a) e) m r p q d;refine⟨_,rfl,K3 (s:={ s with heap:=h',toks:=tk }) (n:="range_iterator") f rfl rfl (by decide) ⟨.int (lo+i),H,y,⟨t,?_⟩,⟨rfl,rfl⟩,f,λb a=>(c b a).1⟩⟩;rw[Int.mul_one]
 done:=by intro X g hw u j i B s G H E I c st l;subst g hw u;obtain⟨m,r,F,p,q,d⟩:=c x (by simp);exact wpAny_pyNext_range_end (I.o.hd j) st (by have:n≤i:=l;lia) λh' S=>⟨rfl,I.turned (t':=s.toks) (λb o a e=>S b o a e) m r p q d⟩
 self:=λ_ _ _ _ _ st h=>wpAny_pyIter_rangeiter st h
section
variable{X:Cx}{tg:Expr}
theorem FF{lo hi:Int}{t u v:Tok}{tk:Nat}(I:Inv X B G H s)(h1:-(2 ^ 62)≤lo)(h2:lo < 2 ^ 62)(n:-(2 ^ 62)≤hi)(k:hi < 2 ^ 62)
  (q:R (Ra lo (hi-lo).toNat) H):wx X (pyIter (.ref s.heap.objs.size)) (Q_ X B G tg R) E { s with heap:=s.heap.push { cls:=.type "range",data:=.fields #[.int lo t,.int hi u,.int 1 v] },toks:=tk }:=by
 refine wpAny_pyIter_range (IsRange.new ..) (small_one h1 h2 n k) ?_;have h:Inv X B G H { s with heap:=s.heap.push { cls:=.type "range",data:=.fields #[.int lo t,.int hi u,.int 1 v] },toks:=tk }:=I.kept fun b o e=>bg _ e;refine⟨(s.heap.push { cls:=.type "range",data:=.fields #[.int lo t,.int hi u,.int 1 v] }).objs.size,[(s.heap.push { cls:=.type "range",data:=.fields #[.int lo t,.int hi u,.int 1 v] }).objs.size],_,_,H,rfl,
  h.kept (t':=tk) λb o e=>bg _ e,yU _ lo (hi-lo).toNat,?_,λb f=>?_,q⟩
 .have x:lo+((0:Nat):Int) * 1=lo:=by simp
  have a:(((hi-lo).toNat:Nat):Int)-((0:Nat):Int)=Builtin.Range.rangeSize lo hi 1:=by rw[Ed];split<;>lia
  show IsRangeIter _ _ (lo+((0:Nat):Int) * 1) ((((hi-lo).toNat:Nat):Int)-((0:Nat):Int)) 1;rw[x,a];exact dD _ rfl
 .have e:b=(s.heap.push { cls:=.type "range",data:=.fields #[.int lo t,.int hi u,.int 1 v] }).objs.size:=by simpa using f
  subst e;exact h.fpOk (al _) (h.h.fresh (al _))
noncomputable def PU(ta:TA):TI:=λG H R=>ta G H λv I=>∃j:Int,v=[.int j]/\-(2 ^ 62)≤j/\j < 2 ^ 62/\R (Ra 0 j.toNat) I
theorem Dt{a:Expr}{ta:TA}{p q:Pos}(g:Gl X "range")(m:X.g "range"=none)(b:PA X [a] ta)(c:starEach [a] X.e=[(false,eval a X.e)]:=by rfl):PI X tg (.Call (.Name "range" p) [a] [] q) (PU ta):=by
 intro B s G H R x h;refine Call_ (mh x g m boot_range (mJ (du (b q B s G H _ x h) λus u z=>?_) c rfl));obtain⟨i,I,f,d,k⟩:=z;obtain⟨j,e,k,v,n⟩:=k;subst e;cases d with
 |cons r w=>cases w;obtain⟨t,rfl⟩:=r;exact call_range_1 (FF f (by lia) (by lia) k v (by simpa using n))
noncomputable def RS(w:TI)(g:TG)(tb:TS):TS:=λD G H=>w G H λa I=>∃W:Nat->Nat->St->Hp->Prop,(∃m,W 0 m G I)/\∀i m G H,W i m G H ->
 (a.stop i H/\D.nx G H)\/(a.go i H/\∃N:St->Hp->Prop,(∀h H',N h H'->∃s,s < m/\W (i+1) s h H')/\∀x H',a.yld i H x H'->g x G H' λe H2=>tb { D with nx:=N,ct:=N,bk:=D.nx } e H2)
noncomputable def om(f:List Addr)(h:Heap):PN:=f.filterMap λb=>(h.get? b).map λo=>(b,o)
theorem j8(x:b ∈ z)(e:h.get? b=some o):(b,o) ∈ om z h:=jV.mpr ⟨b,x,by rw[e];rfl⟩
theorem Dv(s:p ∈ om z h):p.1 ∈ z/\h.get? p.1=some p.2:=by
 obtain⟨b,a,e⟩:=jV.mp s;cases q:h.get? b with
 |none=>rw[q]at e;cases e
 |some o=>rw[q]at e;have x:(b,o)=p:=d4 e;subst x;exact⟨a,q⟩
theorem Inv.pinned(I:Inv X B G H s)(k:∀b ∈ N,w_ X B H b)(c:∀b ∈ N,∃o,s.heap.get? b=some o/\∀v,o.data≠.cell v):Inv X (B++om N s.heap) G H s:=
 I.pins_of λp m=>(bP.mp m).elim (λz=>I.pin p (eT _ z)) λz=>by obtain⟨x,e⟩:=Dv z;obtain⟨f,a,n,_⟩:=k p.1 x;obtain⟨o,h,d⟩:=c p.1 x;rw[e]at h;cases h;exact⟨e,f,a,n,d⟩
theorem Inv.unpinned(I:Inv X (B++z) G H s):Inv X B G H s:=I.pins_of λp h=>I.pin p (eT _ (iU _ h))
set_option tactic.hygienic true in
theorem FO{iter:Expr}{y:List Stmt}{wi:TI}{g:TG}{tb:TS}{q:Pos}(K:PassesOwn (model X.p X.w) X.A X.e X.xe)(hc:X.c=true)(hi:PI X tg iter wi)(hg:PG X tg g)(t:jq X y tb)
  (hs:∀x,foldedSetIterable iter X.e x=pure x:=by intro _;rfl):PS X (.For tg iter y [] q) (RS wi g tb):=by
 intro B s G H D I h;refine wpAny_For (du (hi B s G H _ I h) λv s1 h1=>du h1 λitv s2 h2=>?_) hs;obtain⟨it,S,tn,J9,H2,e,I2,T,V,f2,W,⟨m0,w0⟩,C⟩:=h2;subst e;have p:∀{H':Hp},(∀b ∈ S,H' b=none)->∀b ∈ S,w_ X B H' b:=λhn b t=>⟨hn b t,(f2 b t).2⟩
 refine codeAny_forLoop_any (λn s'=>∃i w H',Inv X B w H' s'/\tn i s'.heap/\(∀b ∈ S,H' b=none)/\W i n w H') ?_ m0 ⟨0,G,H2,I2,V,λb t=>(f2 b t).1,w0⟩;rintro n s3 ⟨i,j,E,I3,xt,F,w3⟩;rcases C i n j E w3 with ⟨A,qn⟩|⟨go,N,hN,step⟩
 .refine qY K (du (T.done X rfl rfl rfl hc i B s3 j E X.xe I3 (p F) xt A) λr s4 z=>?_);obtain⟨Q,I4⟩:=z;subst Q;exact yK ⟨j,E,I4,qn⟩
 .refine qY K (du (T.item X rfl rfl rfl hc i B s3 j E X.xe I3 (p F) xt go) λr s4 z=>?_);obtain⟨u,Q,h4⟩:=z;subst Q;refine qY K (du h4 λ_ s5 z=>?_);obtain⟨x,H5,I5,r5,y5,O0,M⟩:=z;have L:=I5.pinned (p M) (T.obj _ _ O0);refine qY K (du (hg _ s5 j H5 x u _ L r5 (step x H5 y5)) λ_ s6 z=>?_);obtain⟨Z,H6,I6,q6⟩:=z;refine qY K (du (t _ s6 Z H6 _ I6 q6) λf R l=>?_);have again:∀{a:St}{k:Hp},Inv X (B++om S s5.heap) a k R->N a k->∃m,m < n/\∃i w H',Inv X B w H' R/\tn i R.heap/\(∀b ∈ S,H' b=none)/\W i m w H':=λ{a k} c P=>by
   obtain⟨m',hm,w7⟩:=hN a k P;refine⟨m',hm,i+1,a,k,c.unpinned,T.keep _ _ _ O0 λb t o e=>(c.pin (b,o) (eT _ (eT _ (j8 t e)))).1,λb t=>?_,w7⟩;obtain⟨o,e,d⟩:=T.obj _ _ O0 b t;exact(c.pin (b,o) (eT _ (eT _ (j8 t e)))).2.1
  cases f with
  |next=>obtain⟨a,k,c,P⟩:=l;exact again c P
  |cont=>obtain⟨a,k,c,P⟩:=l;exact again c P
  |brk=>obtain⟨a,k,c,l⟩:=l;exact⟨a,k,c.unpinned,l⟩
  |ret v=>obtain⟨x7,a,k,c,r7,l⟩:=l;exact⟨x7,a,k,c.unpinned,r7,l⟩
end
noncomputable abbrev R2:=V->V->Hp->VK->Prop
def jL(X:Cx)(f:Value->Value->Sem Value)(r:R2):Prop:=
 ∀(B:PN)(s:Shared)(G:St)(H:Hp)(x y:V)(v u:Value)(Q:VK),Inv X B G H s->RelV x v->RelV y u->r x y H Q ->
  wx X (f v u) (EP X B G Q) X.xe s
def SK(X:Cx)(f:Value->Sem Value)(r:V->Hp->VK->Prop):Prop:=
 ∀(B:PN)(s:Shared)(G:St)(H:Hp)(x:V)(v:Value)(Q:VK),Inv X B G H s->RelV x v->r x H Q ->
  wx X (f v) (EP X B G Q) X.xe s
def dW(X:Cx)(f:Value)(r:List V->Hp->VK->Prop):Prop:=
 ∀(B:PN)(s:Shared)(G:St)(H:Hp)(xs:List V)(us:LV)(Q:VK),Inv X B G H s->aZ xs us->r xs H Q ->
  wx X (call f us) (EP X B G Q) X.xe s
def SM(X:Cx)(r:V->Hp->(Bool->Hp->Prop)->Prop):Prop:=
 ∀(B:PN)(s:Shared)(G:St)(H:Hp)(x:V)(v:Value)(Q:Bool->Hp->Prop),Inv X B G H s->RelV x v->r x H Q ->
  wx X (truthy v) (TP X B G Q) X.xe s
noncomputable def L0(r:R2)(ta tb:TE):TE:=λG H Q=>ta G H λx I=>tb G I λy H2=>r x y H2 Q
noncomputable def TY(r:V->Hp->VK->Prop)(ta:TE):TE:=λG H Q=>ta G H λx I=>r x I Q
noncomputable def rI(C:Int->Int->Prop)(g:Int->Int->V):R2:=λx y H Q=>∃i j,x=.int i/\y=.int j/\C i j/\Q (g i j) H
noncomputable def Jp(g:Int->Int->V):R2:=λx y H Q=>∃i j,x=.int i/\y=.int j/\Q (g i j) H
def rU(g:Int->V):V->Hp->VK->Prop:=λx H Q=>∃i,x=.int i/\Q (g i) H
section
variable{X:Cx}{a b c:Expr}{ta tb tc:TE}{q:Pos}
theorem NA(t:PE X a ta)(p:PE X b tb){B:PN}{s:Shared}{G:St}{H:Hp}{R:V->V->Hp->Prop}(e:Inv X B G H s)
  (h:ta G H λx I=>tb G I λy H2=>R x y H2) {Q:VP}{f:Value->Value->Sem Value}
  (q:∀v u c x y H2,Inv X B G H2 c->RelV x v->RelV y u->R x y H2->wx X (f v u) Q X.xe c) :
  wx X (eval a X.e) (λv n=>wx X (eval b X.e) (λu k=>wx X (f v u) Q X.xe k) X.xe n) X.xe s:=by
 refine du (t B s G H _ e h) λv j z=>?_;obtain⟨x,I,m,g,d⟩:=z;refine du (p B j G I _ m d) λu c z=>?_;obtain⟨y,H2,r,i,w⟩:=z;exact q v u c x y H2 r g i w
theorem Pe{o:Operator}{r:R2}(c:jL X (binaryOp o) r)(k:PE X a ta)(f:PE X b tb):PE X (.BinOp a o b q) (L0 r ta tb):=by intro B s G H Q I h;exact wpAny_BinOp (NA k f I h λv u p x y H2 n m t e=>c B p G H2 x y v u Q n m t e)
theorem Pc(o:SK X (unaryOp N) r)(k:PE X a ta):PE X (.UnaryOp N a q) (TY r ta):=by intro B s G H Q e h;exact UnaryOp_ (du (k B s G H _ e h) λv c z=>by obtain⟨x,I,n,b,f⟩:=z;exact o B c G I x v Q n b f)
theorem QK{f:Value->Value->Sem Value}{C:Int->Int->Prop}{g:Int->Int->Int}
  (rule:∀(i j:Int)(t u:Tok)(s:Shared)(Q:VP)(E:VP),C i j->Q (.int (g i j) s.toks) { s with toks:=s.toks+1 }->wx X (f (.int i t) (.int j u)) Q E s) :
  jL X f (rI C λi j=>.int (g i j)):=by
 intro B s G H x y v u Q I r a h;obtain⟨i,j,rfl,rfl,c,q⟩:=h;obtain⟨t,rfl⟩:=r;obtain⟨e,rfl⟩:=a;exact rule i j t e s _ _ c ⟨.int (g i j),H,I.tok _,⟨_,rfl⟩,q⟩
theorem Pu{f:Value->Value->Sem Value}{g:Int->Int->Int}
  (rule:∀(i j:Int)(t u:Tok)(s:Shared)(Q:VP)(E:VP),Q (.int (g i j) s.toks) { s with toks:=s.toks+1 }->wx X (f (.int i t) (.int j u)) Q E s) :
  jL X f (Jp λi j=>.int (g i j)):=by
 intro B s G H x y v u Q I r a h;obtain⟨i,j,rfl,rfl,q⟩:=h;obtain⟨t,rfl⟩:=r;obtain⟨e,rfl⟩:=a;exact rule i j t e s _ _ ⟨.int (g i j),H,I.tok _,⟨_,rfl⟩,q⟩
theorem JJ{f:Value->Value->Sem Value}{g:Int->Int->Bool}
  (rule:∀(i j:Int)(t u:Tok)(s:Shared)(Q:VP)(E:VP),Q (.bool (g i j)) s->wx X (f (.int i t) (.int j u)) Q E s) :
  jL X f (Jp λi j=>.bl (g i j)):=by
 intro B s G H x y v u Q I r a h;obtain⟨i,j,rfl,rfl,q⟩:=h;obtain⟨t,rfl⟩:=r;obtain⟨e,rfl⟩:=a;exact rule i j t e s _ _ ⟨.bl (g i j),H,I,rfl,q⟩
def SX(i j:Int):Prop:=0≤j/\j≤1000000/\i.natAbs < 2 ^ 64
def UA(i j:Int):Prop:=(-(2 ^ 64) < i/\i < 2 ^ 64)\/(-(2 ^ 64) < j/\j < 2 ^ 64)
theorem MH:jL X (binaryOp .Add) (Jp λi j=>.int (i+j)):=Pu λ_ _ _ _ _ _ _ q=>add_int q
theorem MB:jL X (binaryOp .Sub) (Jp λi j=>.int (i-j)):=Pu λ_ _ _ _ _ _ _ q=>sub_int q
theorem ME:jL X (binaryOp .Mod) (rI (λ_ j=>0 < j) λi j=>.int (i % j)):=QK λi j _ _ _ _ _ h q=>by have h1:(0:Int) < j:=h;exact mod_int' (by lia) (by rw[Int.fmod_eq_emod_of_nonneg i (by lia)];exact q)
theorem MD:jL X (binaryOp .Pow) (rI SX λi j=>.int (i ^ j.toNat)):=QK λ_ _ _ _ _ _ _ h q=>pow_int_small h.1 h.2.1 h.2.2 q
theorem TV{f:Value->Sem Value}{g:Int->Int}
  (rule:∀(i:Int)(t:Tok)(s:Shared)(Q:VP)(E:VP),Q (.int (g i) s.toks) { s with toks:=s.toks+1 }->wx X (f (.int i t)) Q E s) :
  SK X f (rU λi=>.int (g i)):=by
 intro B s G H x v Q I r h;obtain⟨i,rfl,q⟩:=h;obtain⟨t,rfl⟩:=r;exact rule i t s _ _ ⟨.int (g i),H,I.tok _,⟨_,rfl⟩,q⟩
theorem LK:SK X (unaryOp .USub) (rU λi=>.int (-i)):=TV λ_ _ _ _ _ q=>neg_int q
end
noncomputable def O7:V->V->Bool
 | .non,.non=>true | .non,.int _=>true | .int _,.non=>true | .non,.bl _=>true | .bl _,.non=>true | .non,.str _=>true | .str _,.non=>true
 | .int _,.int _=>true | .bl _,.bl _=>true | .str _,.str _=>true | .byt _,.byt _=>true
 | .int _,.str _=>true | .str _,.int _=>true | .bl _,.str _=>true | .str _,.bl _=>true
 |_,_=>false
def Ub:R2:=λx y H Q=>O7 x y=true/\Q (.bl (decide (x=y))) H
def Ua:R2:=λx y H Q=>O7 x y=true/\Q (.bl (!decide (x=y))) H
theorem CL{i j:Int}:decide (V.int i=V.int j)=(i == j):=by rw[pZ];simp
theorem Hk:decide (V.bl i=V.bl z)=(i == z):=by rw[pZ];simp
theorem CK:decide (V.str i=V.str z)=(i == z):=by rw[pZ];simp
theorem CM:decide (V.byt i=V.byt z)=(i.toList == z.toList):=by rw[pZ];cases i;cases z;simp
section
variable{X:Cx}{a b c:Expr}{ta tb tc:TE}{q:Pos}
theorem bG(I:Inv X B G H s)(q:Q (.bl k) H)(e:k=z):EP X B G Q (.bool z) s:=by subst e;exact⟨.bl k,H,I,rfl,q⟩
theorem Gd:jL X (compareOp .Eq) Ub:=by
 intro B s G H x y v u Q I n r h;obtain⟨e,q⟩:=h;cases x with
 |non=>
  cases n;cases y with
  |non=>cases r;exact Ik (bG I q (by simp))
  |bl j=>cases r;exact Ii (bG I q (by simp))
  |int j=>obtain⟨a,rfl⟩:=r;exact Ij (bG I q (by simp))
  |str j=>obtain⟨a,rfl⟩:=r;exact Il (bG I q (by simp))
  |_=>exact absurd (show false=true from e) bt
 |bl i=>
  cases n;cases y with
  |non=>cases r;exact Ig (bG I q (by simp))
  |bl j=>cases r;exact eq_bool (bG I q Hk)
  |str j=>obtain⟨a,rfl⟩:=r;exact HY (bG I q (by simp))
  |_=>exact absurd (show false=true from e) bt
 |int i=>
  obtain⟨t,rfl⟩:=n;cases y with
  |non=>cases r;exact Ih (bG I q (by simp))
  |int j=>obtain⟨a,rfl⟩:=r;exact eq_int (bG I q CL)
  |str j=>obtain⟨a,rfl⟩:=r;exact HZ (bG I q (by simp))
  |_=>exact absurd (show false=true from e) bt
 |str i=>
  obtain⟨t,rfl⟩:=n;cases y with
  |non=>cases r;exact Im (bG I q (by simp))
  |bl j=>cases r;exact H0 (bG I q (by simp))
  |int j=>obtain⟨a,rfl⟩:=r;exact H_ (bG I q (by simp))
  |str j=>obtain⟨a,rfl⟩:=r;exact eq_str (bG I q CK)
  |_=>exact absurd (show false=true from e) bt
 |byt i=>
  obtain⟨t,rfl⟩:=n;cases y with
  |byt j=>obtain⟨a,rfl⟩:=r;exact PySem.W.eq_bytes (bG I q CM)
  |_=>exact absurd (show false=true from e) bt
 |_=>cases y<;>exact absurd (show false=true from e) bt
theorem Gb:jL X (compareOp .NotEq) Ua:=by
 intro B s G H x y v u Q I n r h;obtain⟨e,q⟩:=h;cases x with
 |non=>
  cases n;cases y with
  |non=>cases r;exact Iu (bG I q (by simp))
  |bl j=>cases r;exact Iq (bG I q (by simp))
  |int j=>obtain⟨a,rfl⟩:=r;exact Ir (bG I q (by simp))
  |str j=>obtain⟨a,rfl⟩:=r;exact Iv (bG I q (by simp))
  |_=>exact absurd (show false=true from e) bt
 |bl i=>
  cases n;cases y with
  |non=>cases r;exact Io (bG I q (by simp))
  |bl j=>cases r;exact ne_bool (bG I q (js not Hk))
  |str j=>obtain⟨a,rfl⟩:=r;exact Ia (bG I q (by simp))
  |_=>exact absurd (show false=true from e) bt
 |int i=>
  obtain⟨t,rfl⟩:=n;cases y with
  |non=>cases r;exact Ip (bG I q (by simp))
  |int j=>obtain⟨a,rfl⟩:=r;exact ne_int (bG I q (js not CL))
  |str j=>obtain⟨a,rfl⟩:=r;exact Ib (bG I q (by simp))
  |_=>exact absurd (show false=true from e) bt
 |str i=>
  obtain⟨t,rfl⟩:=n;cases y with
  |non=>cases r;exact Iw (bG I q (by simp))
  |bl j=>cases r;exact Ic (bG I q (by simp))
  |int j=>obtain⟨a,rfl⟩:=r;exact Ie (bG I q (by simp))
  |str j=>obtain⟨a,rfl⟩:=r;exact ne_str (bG I q (js not CK))
  |_=>exact absurd (show false=true from e) bt
 |byt i=>
  obtain⟨t,rfl⟩:=n;cases y with
  |byt j=>obtain⟨a,rfl⟩:=r;exact PySem.W.ne_bytes (bG I q (js not CM))
  |_=>exact absurd (show false=true from e) bt
 |_=>cases y<;>exact absurd (show false=true from e) bt
theorem Pj:jL X (compareOp .Lt) (Jp λi j=>.bl (decide (i < j))):=JJ λ_ _ _ _ _ _ _ q=>AQ q
theorem Pk:jL X (compareOp .LtE) (Jp λi j=>.bl (decide (i≤j))):=JJ λ_ _ _ _ _ _ _ q=>le_int q
theorem Pl:jL X (compareOp .Gt) (Jp λi j=>.bl (decide (j < i))):=JJ λ_ _ _ _ _ _ _ q=>gt_int q
theorem Pm:jL X (compareOp .GtE) (Jp λi j=>.bl (decide (j≤i))):=JJ λ_ _ _ _ _ _ _ q=>ge_int q
theorem MF:jL X (compareOp .Is) (λx y H Q=>y=.non/\Q (.bl (decide (x=.non))) H):=by
 intro B s G H x y v u Q I r a h;obtain⟨rfl,q⟩:=h;cases a;refine is_none_gen (bG I q ?_);cases x<;>first
  |(cases r;rfl)
  |(obtain⟨t,rfl⟩:=r;rfl)
theorem JF:jL X (compareOp .IsNot) (λx y H Q=>y=.non/\Q (.bl (!decide (x=.non))) H):=by
 intro B s G H x y v u Q I r a h;obtain⟨rfl,q⟩:=h;cases a;refine isnot_none_gen (bG I q ?_);cases x<;>first
  |(cases r;rfl)
  |(obtain⟨t,rfl⟩:=r;rfl)
theorem Ch{o:CmpOp}{r:R2}(c:jL X (compareOp o) r)(k:PE X a ta)(f:PE X b tb)(m:behindInMarks o b=false):PE X (.Compare a [o] [b] q) (L0 r ta tb):=by intro B s G H Q I h;exact wpAny_Compare1 (NA k f I h λv u d x y H2 n t p e=>c B d G H2 x y v u Q n t p e) m
noncomputable def Fm(t:TE):TT:=λG H Q=>t G H λx H'=>∃k,x=.bl k/\Q k H'
theorem Ca(o:jL X (compareOp N) r)(d:PE X a ta)(w:PE X b tb)(g:behindInMarks N b=false):PT X (.Compare a [N] [b] q) (Fm (L0 r ta tb)):=by
 intro B s G H Q n h;refine wpAny_isTrue_Compare1 (du (d B s G H _ n h) fun v P ⟨x,I,m,S,i⟩=>du (w B P G I _ m i) fun u A ⟨y,H2,t,F,j⟩=>
  du (o B A G H2 x y v u _ t S F j) λc C ⟨z,f,p,K,k,e,l⟩=>?_) g
 subst e;cases K;exact kH ⟨f,p,l⟩
noncomputable def yX(r e:R2)(ta tb tc:TE):TE:=λG H Q=>ta G H λx I=>tb G I λy H2=>r x y H2 λz h=>∃k,z=.bl k /\
 (if k=true then tc G h λw a=>e y w a Q else Q (.bl false) h)
theorem F7(P:jL X (compareOp op) r)(o:jL X (compareOp N) r')(l:PE X a ta)(S:PE X b tb)(F:PE X c tc)
  (K:lastMarks [op,N] [b,c]=false:=by with_unfolding_all rfl):PE X (.Compare a [op,N] [b,c] q) (yX r r' ta tb tc):=by
 intro B s G H Q n h;refine Compare_chain (du (l B s G H _ n h) fun v R ⟨x,I,g,E,A⟩=>chain_link (du (S B R G I _ g A) fun u T ⟨y,H2,i,p,C⟩=>
  du (P B T G H2 x y v u _ i E p C) λd V ⟨z,f,m,L,k,e,t⟩=>?_)) K
 subst e;cases L;refine kH ?_;cases k with
 |false=>exact ite_ff ⟨.bl false,f,m,rfl,t⟩
 |true=>exact ite_tt (chain_last (du (F B V G f _ m t) λZ W ⟨z',w,j,M,D⟩=>o B W G w y z' u Z Q j p M D))
theorem FJ(E:jL X (compareOp op) r)(o:jL X (compareOp N) r')(P:PE X a ta)(A:PE X b tb)(C:PE X c tc)
  (D:lastMarks [op,N] [b,c]=false:=by with_unfolding_all rfl):PT X (.Compare a [op,N] [b,c] q) (Fm (yX r r' ta tb tc)):=by
 intro B s G H Q n h;refine isTrue_chain (du (P B s G H _ n h) fun v s1 ⟨x,I,i,Z,R⟩=>test_link (du (A B s1 G I _ i R) fun u s2 ⟨y,H2,j,p,T⟩=>
  du (E B s2 G H2 x y v u _ j Z p T) λd s3 ⟨z,f,m,r3,k,e,t⟩=>?_)) D
 subst e;cases r3;refine kH ?_;cases k with
 |false=>obtain⟨k',F,M⟩:=t;cases F;exact ite_ff ⟨f,m,M⟩
 |true=>refine ite_tt (test_last (du (C B s3 G f _ m t) λw' s4 ⟨z',w,l,r4,V⟩=>du (o B s4 G w y z' u w' _ l p r4 V) λd' s5 L=>?_));obtain⟨z2,g,S,r5,k2,K,W⟩:=L;subst K;cases r5;exact kH ⟨g,S,W⟩
def NG(K:FG)(x:V)(H:Hp)(k:Bool):Prop:=
 match x with
 | .non=>k=false
 | .bl b=>k=b
 | .int i=>k=(i != 0)
 | .str y=>y.length≤sizeLine/\k=((y.length:Int) != 0)
 | .byt y=>y.size≤sizeLine/\k=((y.size:Int) != 0)
 | .ref p=>(∃xs,iO K H p xs/\k=!xs.isEmpty)\/(∃xs,w5 K H p xs/\k=!xs.isEmpty)\/∃j,H p=some (.dK j)/\k=!j.isEmpty
 |_=>False
theorem zl(r:KV j z):(!z.isEmpty)=!j.isEmpty:=by cases r<;>rfl
theorem sj(r:aZ xs z):(!z.toArray.isEmpty)=!xs.isEmpty:=by cases r<;>simp
theorem kO:(sizeLine:Nat) < 2 ^ 63:=by rw[lX];decide
theorem LP:SM X (λx H Q=>∃k,NG X.K x H k/\Q k H):=by
 intro B s G H x v Q I n h;obtain⟨k,e,q⟩:=h;have g:=kO;have o:sizeLine=16777216:=lX;cases x with
 |non=>cases n;have a:k=false:=e;subst a;exact truthy_none ⟨H,I,q⟩
 |bl b=>cases n;have a:k=b:=e;subst a;exact kH ⟨H,I,q⟩
 |int i=>obtain⟨t,rfl⟩:=n;have a:k=(i != 0):=e;subst a;exact PySem.P.truthy_int ⟨H,I,q⟩
 |str y=>obtain⟨t,rfl⟩:=n;obtain⟨u,a⟩:y.length≤sizeLine/\k=((y.length:Int) != 0):=e;subst a;exact PySem.P.truthy_str (by lia) ⟨H,I.tok _,q⟩
 |byt y=>obtain⟨t,rfl⟩:=n;obtain⟨u,a⟩:y.size≤sizeLine/\k=((y.size:Int) != 0):=e;subst a;exact PySem.W.truthy_bytes (by lia) ⟨H,I.tok _,q⟩
 |ref p=>
  cases n;have a:(∃xs,iO X.K H p xs/\k=!xs.isEmpty)\/(∃xs,w5 X.K H p xs/\k=!xs.isEmpty)\/∃j,H p=some (.dK j)/\k=!j.isEmpty:=e;rcases a with ⟨xs,f,a⟩|⟨xs,f,a⟩|⟨j,f,a⟩
  .subst a;obtain⟨d,r,w,z⟩:=I.list f;have l:=r.length;exact wpAny_truthy_list w.isList (by simp only[a7];lia) ⟨H,I.tok _,by rw[sj r];exact q⟩
  .subst a;obtain⟨d,r,w,z⟩:=I.tuple f;have l:=r.length;exact truthy_tuple w (by simp only[a7];lia) ⟨H,I.tok _,by rw[sj r];exact q⟩
  .subst a;obtain⟨z,S,c,r,m⟩:j.length≤sizeLine/\(p == sysModules)=false/\∃c,KV j c/\s.heap.DictOf (cq X.p X.w) p c:=I.h p _ f;have l:j.length=c.length:=Paired.length r;exact wpAny_truthy_dict S m (by lia) ⟨H,I.tok _,by rw[zl r];exact q⟩
 |_=>exact(show False from e).elim
theorem FI(f:PE X a ta)(b:∀w,isTrue a X.e w=(do let v <- w;standAt a.pos;holding [v] (truthy v))) :
  PT X a (λG H Q=>ta G H λx H'=>∃k,NG X.K x H' k/\Q k H'):=by
 intro B s G H Q e h;exact isTrue_plain (du (f B s G H _ e h) λv c z=>by obtain⟨x,I,n,r,q⟩:=z;exact LP B c G I x v Q n r q) (b _)
theorem y_:jL X (binaryOp .Add) (λx y H Q=>∃i j,x=.str i/\y=.str j/\i.length+j.length≤sizeLine/\Q (.str (i++j)) H):=by intro B s G H x y v u Q I r a h;obtain⟨i,j,rfl,rfl,z,q⟩:=h;obtain⟨t,rfl⟩:=r;obtain⟨e,rfl⟩:=a;exact add_str (λe tk=>⟨.str (i++j),H,I.tok _,⟨_,rfl⟩,q⟩) z
theorem vals1(r:aZ [x] us):∃u,us=[u]/\RelV x u:=by
 cases r with
 |cons h a=>cases a;exact⟨_,rfl,h⟩
theorem vals2(r:aZ [x,y] us):∃u w,us=[u,w]/\RelV x u/\RelV y w:=by
 cases r with
 |cons h a=>
  cases a with
  |cons e s=>cases s;exact⟨_,_,rfl,h,e⟩
theorem Hv:dW X (.builtin "abs") (λxs H Q=>∃i,xs=[.int i]/\Q (.int (if i < 0 then -i else i)) H):=by intro B s G H xs us Q I r h;obtain⟨i,rfl,q⟩:=h;obtain⟨u,rfl,t,rfl⟩:=vals1 r;exact call_abs_int λu tk=>⟨.int (if i < 0 then -i else i),H,I.tok _,⟨_,rfl⟩,q⟩
theorem uw:dW X (.type "int") (λxs H Q=>(∃i,xs=[.int i]/\Q (.int i) H)\/∃k,xs=[.bl k]/\Q (.int (if k then 1 else 0)) H):=by
 intro B s G H xs us Q I r h;rcases h with ⟨i,rfl,q⟩|⟨k,rfl,q⟩
 .obtain⟨u,rfl,t,rfl⟩:=vals1 r;exact call_int_int ⟨.int i,H,I,⟨_,rfl⟩,q⟩
 .obtain⟨u,rfl,x⟩:=vals1 r;cases x;exact call_int_bool ⟨.int (if k then 1 else 0),H,I.tok _,⟨_,rfl⟩,q⟩
end
structure ObjM(h:Heap)(x dx C:Addr)(mA:SV):Prop where
 obj:h.get? x=some (iV C dx)
 ns:h.Ns1 dx mA
 ne:dx≠x
set_option tactic.hygienic true in
theorem ud(n:h.Ns1 dx mA):∃d,h.get? dx=some d/\∀name,qC name d=some (mA name):=by
 obtain⟨o,es,p,f,hd,s,_,m⟩:=n;refine⟨o,f,λname=>?_⟩;have e:=m name;unfold nsFind findBy at e;rw[<- AY]at e;unfold qC;rw[hd];dsimp only;split
 .rename_i y q;rw[q]at e;exact js some e
 .rename_i q;rw[q]at e;have a:es.toList.any (·.refKey)=false:=by
   rw[List.any_eq_false];intro y b;obtain⟨z,t,k⟩:=s y (Array.mem_toList_iff.mp b);simp[DictEntry.refKey,k]
  have x:¬es.toList.any (·.refKey)=true:=by rw[a];exact bt
  rw[au x];exact js some e
variable{C:Addr}
theorem ObjM.look(I:ObjM h x dx C mA):∃o,PySem.W.InstAt h x (iV C dx) C (some o)/\∀name,qC name o=some (mA name):=
 let ⟨o,a,l⟩:=ud I.ns
 ⟨o,⟨I.obj,rfl,rfl,a⟩,l⟩
section
variable{prog:Program}{w:World}{A:Around}{E:VP}{s:Shared}{K:FG}{x dx C f:Addr}{mA:SV}{name:Str}{v:Value}
theorem J7(X:K.In s.heap)(I:ObjM s.heap x dx C mA)(g:qF K C name=true)(k:qG K C=true)
  (n:cc K (.ref C) name=some none) (f:mA name=some v) (a:BE v=true) (h:Q v { s with toks:=s.toks+1 }) :
  wpAny (model prog w) A (getAttr (.ref x) name z) Q E s:=by
 obtain⟨o,e,l⟩:=I.look;exact PySem.W.get_value X e (vL g).1 (BI k n rfl (by rw[l,f])) a h
theorem G3(X:K.In s.heap)(I:ObjM s.heap x dx C mA)(g:qF K C name=true)
  (e:cc K (.ref C) name=some (some (.ref f))) (t:vw K (.ref f)=true) (v:mA name=none) (h:Q (.ref f,[.ref x]) s) :
  wpAny (model prog w) A (getMethod (.ref x) name z) Q E s:=by
 obtain⟨o,a,l⟩:=I.look;exact PySem.W.method_fn X a (vL g).1 (vL g).2 e (kD.mp t) (by show(qC name o).map (·.isSome)=some false;rw[l,v];rfl) h
theorem Jk(X:K.In s.heap)(I:ObjM s.heap x dx C mA)
  (u:cc K (.ref C) "__setattr__"=some (some (.builtin "object.__setattr__"))) (q:BF K C=true) (g:vG K C name=some none) (t:qG K C=true)
  (hw:yJ mA N) (z:N.length≤sizeLine)
  (h:∀h',ObjM h' x dx C (λy=>if y=name then some v else mA y)->gK dx s.heap h'->Q () { s with heap:=h',toks:=s.toks+2 }) :
  wpAny (model prog w) A (setAttr (.ref x) name v) Q E s:=by
 obtain⟨S,k,l⟩:=I.look;refine Bw X k u (PySem.W.osa_open (s:={ s with toks:=s.toks+1 }) (r:=none) X k q g λb=>?_);obtain⟨j,m,d⟩:=PySem.W.any_some t;have i:s.heap.get? x=some ⟨.ref C,some dx,.plain,#[]⟩:=I.obj;refine aa (aj (aa (aa (Eg i (aa (pY (s:={ s with toks:=s.toks+1 }) (vu X m) ?_))))));rw[d];refine aj (a:=some dx) (aa (aj (aa ?_)));refine wpAny_nsSet1 (s:={ s with toks:=s.toks+1 }) I.ns λh' n e=>?_;obtain⟨H,f,p,o,D,c⟩:=n.count (PySem.Within.cons name v hw);refine aa (En o (by rw[D];exact Ej (aF c (by rw[aQ];lia))) ?_);exact aj (h _ ⟨(e.2 _ (aC I.ne)).trans I.obj,n,I.ne⟩ e)
theorem Gr(X:K.In s.heap)(m:BC K C=true)
  (hi:cc K (.ref C) "__init__"=some (some (.ref f))) (x:PySem.W.typeIn K (.ref f)=some (.type "function"))
  (h:codeAny (model prog w) (A.under (.builtin "type.__call__" ⟨.ref C::z,kw⟩)) (.call (.ref f) ⟨.ref (s.heap.objs.size+1)::z,kw⟩) (PySem.W.InitBack (s.heap.objs.size+1) R)
   { s with heap:=(s.heap.push hJ).push (iV C s.heap.objs.size) }) :
  codeAny (model prog w) A (.call (.ref C) ⟨z,kw⟩) R s:=by
 obtain⟨a,g,d,t,os⟩:=s;exact PySem.W.make_core (PySem.W.makes_of X m) (jZ X hi) (λe=>PySem.W.bind_fn X e x) (.inl rfl) h
end
noncomputable def jb(f:Str)(v:V):List (Str×V)->List (Str×V)
 | []=>[(f,v)]
 |(g,x)::r=>if g=f then (g,v)::r else (g,x)::jb f v r
theorem o6(f g:Str)(v:V):∀fs:List (Str×V),(jb f v fs).lookup g=if g=f then some v else fs.lookup g
 | []=>by
  show eD g [(f,v)]=_;by_cases h:g=f
  .have b:(g == f)=true:=kD.mpr h;simp only[eD,b,am h]
  .have b:(g == f)=false:=oU.mpr h;simp only[eD,b,au h]
 |(k,x)::r=>by
  have i:=o6 f g v r;rw[show jb f v ((k,x)::r)=(if k=f then (k,v)::r else (k,x)::jb f v r) from rfl];by_cases a:k=f
  .rw [am a];by_cases h:g=k
   .have b:(g == k)=true:=kD.mpr h;simp only[eD,b,am (h.trans a)]
   .have b:(g == k)=false:=oU.mpr h;simp only[eD,b,au (λe:g=f=>h (e.trans a.symm))]
  .rw [au a];by_cases h:g=k
   .have b:(g == k)=true:=kD.mpr h;simp only[eD,b,au (λe:g=f=>a (h.symm.trans e))]
   .have b:(g == k)=false:=oU.mpr h;simp only[eD,b];exact i
theorem ov(f:Str)(v:V):∀fs:List (Str×V),f ∈ (jb f v fs).map (·.1)/\∀g,g ∈ fs.map (·.1)->g ∈ (jb f v fs).map (·.1)
 | []=>⟨by simp[jb],λg h=>by simp at h⟩
 |(k,x)::r=>by
  obtain⟨i,s⟩:=ov f v r;rw[show jb f v ((k,x)::r)=(if k=f then (k,v)::r else (k,x)::jb f v r) from rfl];by_cases a:k=f
  .rw [am a];subst a;exact⟨by simp,λg h=>by simpa using h⟩
  .rw [au a];refine⟨?_,λg h=>?_⟩
   .rw [aE];exact aI _ i
   .rw [aE]at h ⊢;rcases aP.mp h with e|e
    .exact aP.mpr (.inl e)
    .exact aI _ (s g e)
theorem o7(f:Str)(v:V):∀fs:List (Str×V),(jb f v fs).length≤fs.length+1
 | []=>by simp[jb]
 |(k,x)::r=>by
  have i:=o7 f v r;rw[show jb f v ((k,x)::r)=(if k=f then (k,v)::r else (k,x)::jb f v r) from rfl];by_cases h:k=f
  .rw [am h,aQ,aQ];lia
  .rw [au h,aQ,aQ];lia
theorem ko.some_of{v:V}{o:OV}(r:ko (some v) o):∃u,o=some u/\RelV v u:=by
 cases o with
 |none=>exact(show False from r).elim
 |some u=>exact⟨u,rfl,r⟩
theorem ko.none_of{o:OV}(r:ko none o):o=none:=by
 cases o with
 |none=>rfl
 |some u=>exact(show False from r).elim
variable{v:V}
theorem uj(r:RelV v u):BE u=true:=by
 cases v with
 |non=>cases (show u=Value.none from r);rfl
 |bl b=>cases (show u=Value.bool b from r);rfl
 |int i=>obtain⟨t,e⟩:=(show ∃t,u=Value.int i t from r);cases e;rfl
 |str x=>obtain⟨t,e⟩:=(show ∃t,u=Value.str x t from r);cases e;rfl
 |byt b=>obtain⟨t,e⟩:=(show ∃t,u=Value.bytes b t from r);cases e;rfl
 |flt b=>obtain⟨t,e⟩:=(show ∃t,u=Value.float b t from r);cases e;rfl
 |ref a=>cases (show u=Value.ref a from r);rfl
 |ty n=>cases (show u=Value.type n from r);rfl
section
variable{P:Program}{w:World}{H H':Hp}{h h':Heap}{a C dx:Addr}{fs fs':List (Str×V)}
theorem wj(o:kq P w H h)(e:H a=some (.ins C dx fs)):∃mA,ObjM h a dx C mA/\(∀f,ko (fs.lookup f) (mA f))/\yJ mA (fs.map (·.1))/\fs.length≤1000/\H dx=some (.own a):=by obtain⟨d,z,x,b,mA,n,r,q⟩:=(show cM P w H h a (.ins C dx fs) from o a _ e);exact⟨mA,⟨b,n,x⟩,r,q,z,d⟩
end
structure Cls(K:FG)(C:Addr):Prop where
 pg:qF K C Str.empty=true
 hd:qG K C=true
 po:BF K C=true
 sa:cc K (.ref C) "__setattr__"=some (some (.builtin "object.__setattr__"))
theorem Cls.get(c:Cls K C)(f:Str):qF K C f=true:=c.pg
def mB(K:FG)(C:Addr)(f:Str):Prop:=cc K (.ref C) f=some none
theorem mB.taker(n:mB K C f):vG K C f=some none:=by unfold vG;rw[show cc K (.ref C) f=some none from n];rfl
structure Con(K:FG)(C:Addr)(f:Str)(v:V)(u:Value):Prop where
 at_:cc K (.ref C) f=some (some u)
 rel:RelV v u
 get:mV K u "__get__"=some none
 cp:PySem.W.copiedNames.contains f=false
structure Meth(K:FG)(C:Addr)(m:Str)(f:Addr):Prop where
 at_:cc K (.ref C) m=some (some (.ref f))
 fn:vw K (.ref f)=true
 kp:dZ K (.ref f)=true
section
variable{X:Cx}{B:PN}{G:St}{H:Hp}{s:Shared}{a C dx:Addr}{fs:List (Str×V)}{f:Str}{v:V}{A:Around}{E:VP}
theorem zo{b:Bool}{Q:VP}(I:Inv X B G H s)(e:H a=some (.ins C dx fs))(c:Cls X.K C)(n:mB X.K C f)(l:fs.lookup f=some v)
  (h:∀u s',Inv X B G H s'->RelV v u->Q u s'):wpAny (model X.p X.w) A (getAttr (.ref a) f b) Q E s:=by
 obtain⟨mA,k,r,_,_,_⟩:=wj I.h e;obtain⟨u,m,x⟩:=ko.some_of (v:=v) (o:=mA f) (by rw[<- l];exact r f);exact J7 I.kIn k (c.get f) c.hd n m (uj x) (h u _ (I.tok _) x)
theorem su{m:Str}{g:Addr}{p:Sem Bool}{Q:Value×LV->Shared->Prop}(I:Inv X B G H s)(e:H a=some (.ins C dx fs))(c:Cls X.K C)(k:Meth X.K C m g)(l:fs.lookup m=none)
  (h:Q (.ref g,[.ref a]) s):wpAny (model X.p X.w) A (getMethod (.ref a) m p) Q E s:=by
 obtain⟨mA,x,r,_,_,_⟩:=wj I.h e;have n:mA m=none:=ko.none_of (by rw[<- l];exact r m);exact G3 I.kIn x (c.get m) k.at_ k.fn n h
theorem y1(I:Inv X B G H s)(e:H a=some (.ins C dx fs))(c:Cls X.K C)(n:mB X.K C f)(S:fs.length < 1000)(j:RelV y u)
  (h:∀s',Inv X B G (upd H a (.ins C dx (jb f y fs))) s'->Q () s'):wpAny (model X.p X.w) A (setAttr (.ref a) f u) Q E s:=by
 obtain⟨mA,m,r,w,_,t⟩:=wj I.h e;have i:(fs.map (·.1)).length≤sizeLine:=by rw[bn,lX];lia
 refine Jk I.kIn m c.sa c.po n.taker c.hd w i λh' k l=>h _ ?_;have hd:∃o,h'.get? dx=some o:=let ⟨o,_,_,p,_⟩:=k.ns;⟨o,p⟩
 refine I.write (x:=a) (e:=dx) (by rw[e];exact True.intro) (.inr t) (λb q v z=>(l.2 b v).trans z) hd ?_;refine⟨by rw[aq m.ne];exact t,?_,m.ne,k.obj,_,k.ns,λg=>?_,λg d=>?_⟩
 .have:=o7 f y fs;lia
 .show ko ((jb f y fs).lookup g) (if g=f then some u else mA g);rw[o6];by_cases q:g=f
  .rw [am q,am q];exact j
  .rw [au q,au q];exact r g
 .by_cases q:g=f
  .rw [q];exact(ov f y fs).1
  .refine (ov f y fs).2 g (w g λz=>d ?_);show(if g=f then some u else mA g)=none;rw[au q];exact z
theorem Inv.made(I:Inv X B G H s):Inv X B G (upd (upd H s.heap.objs.size (.own (s.heap.objs.size+1))) (s.heap.objs.size+1) (.ins C s.heap.objs.size []))
  { s with heap:=(s.heap.push hJ).push (iV C s.heap.objs.size) }:=by
 have h:(s.heap.push hJ).get? s.heap.objs.size=some hJ:=dD s.heap rfl;have k:((s.heap.push hJ).push (iV C s.heap.objs.size)).get? (s.heap.objs.size+1)=some (iV C s.heap.objs.size):=by have:=dD (s.heap.push hJ) (o:=iV C s.heap.objs.size) rfl;rwa [yz]at this
 have f:(s.heap.push hJ).Ns s.heap.objs.size (λ_=>none):=⟨hJ,#[],_,h,rfl,(λe c=>absurd c (by simp)),λ_=>rfl⟩;have x:=I.laid (a:=s.heap.objs.size) (o:=.own (s.heap.objs.size+1)) (h':=s.heap.push hJ) (t':=s.toks) (λb u q=>bg _ q) (al _) ⟨_,h⟩;refine x.laid (a:=s.heap.objs.size+1) (o:=.ins C s.heap.objs.size []) (t':=s.toks) (λb u q=>bg _ q) (vp (yz _ _)) ?_;have n:s.heap.objs.size≠s.heap.objs.size+1:=bo (qz _);refine⟨by rw[aq n,aJ],ck _,n,k,λ_=>none,(Heap.Ns1.of_empty f).at λo q=>bg _ q,λ_=>True.intro,λy m=>absurd rfl m⟩
theorem CW(b:attributeBase e f z (eval e z)=eval e z)
  (h:wpAny (model prog w) A (eval e z) (λo x=>wpAny (model prog w) A (getAttr o f true) Q E x) E s):wpAny (model prog w) A (eval (.Attribute e f q) z) Q E s:=
 Attribute_any_ h (by rw[arm_eval_Attribute,b])
end
def RT(K:FG)(ta:TE)(f:Str):TE:=λG H Q=>ta G H λx I=>∃a C dx fs v,x=.ref a/\I a=some (.ins C dx fs)/\Cls K C/\mB K C f/\fs.lookup f=some v/\Q v I
def RX(K:FG)(ta tv:TE)(f:Str):TS:=λD G H=>tv G H λy I=>ta G I λx H2=>∃a C dx fs,x=.ref a/\H2 a=some (.ins C dx fs)/\Cls K C/\mB K C f/\fs.length < 1000 /\
 D.nx G (upd H2 a (.ins C dx (jb f y fs)))
section
variable{X:Cx}{o e value:Expr}{f:Str}{q pos' tpos:Pos}{ta tv:TE}
theorem Mz(d:PE X e ta)(p:attributeBase e f X.e (eval e X.e)=eval e X.e):PE X (.Attribute e f q) (RT X.K ta f):=by intro B s G H Q k h;refine CW p (du (d B s G H _ k h) λu i z=>?_);obtain⟨x,I,m,g,a,C,dx,fs,v,ex,t,c,n,l,b⟩:=z;subst ex;obtain rfl:u=Value.ref a:=g;exact zo m t c n l λy j r w=>⟨v,I,r,w,b⟩
theorem Mm(p:PE X o ta)(d:PE X value tv)(v:swapsWith value (some (.Attribute o f pos')) q.line X.e=pure false):PS X (.Assign [.Attribute o f pos'] value q) (RX X.K ta tv f):=by intro B s G H D e h;refine EK (du (d B s G H _ e h) λu S ⟨y,I,b,j,k⟩=>du (p B S G I _ b k) λw F z=>?_) v;obtain⟨x,H2,m,i,a,C,dx,fs,ex,t,c,n,l,g⟩:=z;subst ex;obtain rfl:w=Value.ref a:=i;exact y1 m t c n l j λK r=>⟨G,_,r,g⟩
end
section
variable{X:Cx}{B:PN}{G:St}{H:Hp}{s:Shared}{A:Around}{E:VP}{Q:VP}{c:Value}{b:Bool}
inductive TyOf(K:FG)(H:Hp):V->Value->Prop where
 |non:TyOf K H .non (.type "NoneType")
 |bl (x:Bool):TyOf K H (.bl x) (.type "bool")
 |int (i:Int):TyOf K H (.int i) (.type "int")
 |str (x:Str):TyOf K H (.str x) (.type "str")
 |flt (x:UInt64):TyOf K H (.flt x) (.type "float")
 |lst {a:Addr}{xs:List V} (e:H a=some (.lst xs)):TyOf K H (.ref a) (.type "list")
 |frz {a:Addr}{o:Obj}{xs:List V} (e:H a=some (.frz o (.lst xs))):TyOf K H (.ref a) (.type "list")
 |tup {a:Addr}{xs:List V} (e:H a=some (.tup xs)):TyOf K H (.ref a) (.type "tuple")
 |dK {a:Addr}{kvs:List (cj×V)} (e:H a=some (.dK kvs)):TyOf K H (.ref a) (.type "dict")
 |dT {a:Addr}{kvs:List (List cj×V)} (e:H a=some (.dT kvs)):TyOf K H (.ref a) (.type "dict")
 |ins {a C dx:Addr}{fs:List (Str×V)} (e:H a=some (.ins C dx fs)) (cl:Cls K C) (ha:cc K (.ref C) "__class__"=some (some (.builtin "object.__class__")))
   (hn:mV K (.builtin "object.__class__") "__get__"=some (some (.builtin "getset_descriptor.__get__"))) (htk:qD K (.builtin "object.__class__")=some true)
   (hm:jY K C (.type "object")=some true):TyOf K H (.ref a) (.ref C)
end
structure Room(k:Nat)(A:Around):Prop where
 hd:A.handled=none
 dp:A.depth+3 * k+5 < recursionLimit
 un:A.units+16 * k+200 < cLine
variable{k:Nat}
theorem Room.mono(r:Room k A)(h:z≤k):Room z A:=⟨r.hd,by have:=r.dp;lia,by have:=r.un;lia⟩
theorem Room.deeper(r:Room (k+1) A)(e:Env):Room k (A.deeper e):=
 ⟨r.hd,by have:=r.dp;show A.depth+1+3 * k+5 < _;lia,by have:=r.un;show A.units+3+16 * k+200 < _;lia⟩
variable{kw:List (Str×Value)}
theorem r_:(A.under (.builtin "type.__call__" ⟨.ref C::us,kw⟩)).depth=A.depth+1:=by first|rfl|simp[uV,Code.weight,Code.isCreation,Code.isGuard,Code.isCaller,Az,uT,guardIds]
theorem zd:(A.under (.builtin "type.__call__" ⟨.ref C::us,kw⟩)).units=A.units+1:=by first|rfl|simp[uV,Code.cUnits,Az,uT]
theorem Room.make(r:Room (k+1) A)(C:Addr)(us:LV)(kw:List (Str×Value)):Room k (A.under (.builtin "type.__call__" ⟨.ref C::us,kw⟩)):=
 ⟨r.hd,by have:=r.dp;rw[r_];lia,by have:=r.un;rw[zd];lia⟩
theorem Room.depth(r:Room k A):A.depth < recursionLimit:=by have:=r.dp;lia
noncomputable def OR:TA:=λ_ H Q=>Q [] H
noncomputable def OW(ta:TE)(tr:TA):TA:=λG H Q=>ta G H λx I=>tr G I λxs H2=>Q (x::xs) H2
section
variable{X:Cx}{e:Expr}{es:Ab}{te:TE}{t:TA}{q:Pos}
theorem gM:PA X [] OR:=λ_ _ _ _ H Q I h=>iT ⟨[],H,I,.nil,h⟩
theorem d7(f:PE X e te)(r:PA X es t)(b:starEach (e::es) X.e=(false,eval e X.e)::starEach es X.e:=by rfl):PA X (e::es) (OW te t):=by intro q B s G H Q a h;rw[b];show wpAny _ _ (spliced ((false,eval e X.e)::backTo q (starEach es X.e))) _ _ s;refine fB (du (f B s G H _ a h) λu d z=>?_);obtain⟨x,I,n,p,c⟩:=z;exact du (r q B d G I _ n c) λus w z=>by obtain⟨xs,H2,k,v,m⟩:=z;exact⟨x::xs,H2,k,.cons p v,m⟩
def RI(t:TA):TE:=λG H Q=>t G H λxs I=>xs.length≤sizeLine/\∀p,I p=none->Q (.ref p) (upd I p (.tup xs))
def RQ(t:TA):TE:=λG H Q=>t G H λxs I=>xs.length≤sizeLine/\∀p,I p=none->Q (.ref p) (upd I p (.lst xs))
theorem rV {N} (h:PA X es t):PE X (.Tuple es N q) (RI t):=by intro B s G H Q x c;refine wpAny_Tuple_spliced (du (h q B s G H _ x c) λus n m=>?_);obtain⟨xs,I,k,r,z,a⟩:=m;refine⟨by rw[<- r.length];exact z,?_⟩;have f:I n.heap.objs.size=none:=k.h.fresh (al _);refine⟨.ref n.heap.objs.size,upd I n.heap.objs.size (.tup xs),k.laid (t':=n.toks) (λb u e=>bg _ e) (al _) ?_,rfl,a _ f⟩;exact⟨z,us,r,oR.new _ _⟩
theorem FW(h:PA X es t):PE X (.List es q) (RQ t):=by intro B s G H Q x c;refine wpAny_List_spliced (du (h q B s G H _ x c) λus n m=>?_);obtain⟨xs,I,k,r,z,a⟩:=m;refine⟨by rw[<- r.length];exact z,?_⟩;have f:I n.heap.objs.size=none:=k.h.fresh (al _);refine⟨.ref n.heap.objs.size,upd I n.heap.objs.size (.lst xs),k.laid (t':=n.toks) (λb u e=>bg _ e) (al _) ?_,rfl,a _ f⟩;exact⟨z,us,0,r,dD _ rfl⟩
end
noncomputable abbrev Sp:=List V->Hp->VK->XK->Prop
noncomputable abbrev D9:=List Env->Hp->Shared->XK->VP
structure Env0(P:Program)(w:World)(K:FG)(mg:SV)(base:Heap)(A:Around)(outer:List Env)(s:Shared)(H:Hp):Prop where
 frames:A.frames=some outer
 mod:Mod K mg base
 bs:∀b o,base.get? b=some o->s.heap.get? b=some o/\H b=none
 bsz:base.objs.size≤s.heap.objs.size
 funs:s.heap.FunFrames base outer
 frf:∀b ∈ iK outer,H b=none
 h:kq P w H s.heap
 bare:AllBare s.gens
def CE(o:List Env)(P:Program)(w:World)(H:Hp)(s:Shared)(Q:VK)(u:Value)(s':Shared):Prop:=
 ∃v H',s'.os=s.os/\AllBare s'.gens/\Un (iK o) [] H H' s.heap s'.heap/\kq P w H' s'.heap/\RelV v u/\Q v H'
def CR(CX:D9)(o:List Env)(P:Program)(w:World)(H:Hp)(s:Shared)(Q:VK)(E:XK)(r:Result)(s':Shared):Prop:=
 match r with
 | .ok (.ret u)=>CE o P w H s Q u s'
 | .ok _=>False
 | .error e=>CX o H s E e s'
structure FnOk(P:Program)(w:World)(K:FG)(mg:SV)(base:Heap)(CX:D9)(k:Nat)(f:Addr)(fd:FuncData)(ps:LS)(sp:Sp):Prop where
 len:∀vs H Q E,sp vs H Q E->vs.length=ps.length
 run:∀(A:Around)(outer:List Env)(s:Shared)(H:Hp)(args:Args)(us:LV)(vs:List V)(Q:VK)(E:XK),Room k A->Env0 P w K mg base A outer s H->BindsTo s fd args (ps.zip us)->aZ vs us->sp vs H Q E ->
  codeAny (model P w) A (.call (.ref f) args) (CR CX outer P w H s Q E) s
variable{mg:SV}{base:Heap}{fd:FuncData}{ps:LS}
theorem FnOk.mono(F:FnOk P w K mg base CX z f fd ps sp)(h:z≤k) :
  FnOk P w K mg base CX k f fd ps sp:=⟨F.len,λA o s H a us v Q E r=>F.run A o s H a us v Q E (r.mono h)⟩
theorem FnOk.imp(F:FnOk P w K mg base CX k f fd ps sp)
  (h:∀v H Q E,z v H Q E->sp v H Q E):FnOk P w K mg base CX k f fd ps z:=
 ⟨λv H Q E q=>F.len v H Q E (h _ _ _ _ q),λA o s H a us v Q E r e b n x=>F.run A o s H a us v Q E r e b n (h _ _ _ _ x)⟩
theorem Env0.make(e:Env0 P w K mg base A z s H)(C:Addr)(us:LV)(kw:List (Str×Value)) :
  Env0 P w K mg base (A.under (.builtin "type.__call__" ⟨.ref C::us,kw⟩)) z s H:=⟨by first|exact e.frames|(simpa[uV,Code.envs,uT,pushEnvs] using e.frames),e.mod,e.bs,e.bsz,e.funs,e.frf,e.h,e.bare⟩
section
variable{X:Cx}{B:PN}{G:St}{H:Hp}{s s':Shared}
theorem Inv.env0(I:Inv X B G H s):Env0 X.p X.w X.K X.g X.b X.A X.k s H:=
 ⟨I.o.frames,I.o.mod,I.bs,aF I.o.bsz I.sz,I.stack,I.stkFree,I.h,I.bare⟩
theorem Inv.after(I:Inv X B G H s)(h:CE X.k X.p X.w H s Q u s'):EP X B G Q u s':=by obtain⟨v,H',os,a,un,o,r,q⟩:=h;obtain⟨e,g,d,t,x⟩:=s';obtain rfl:x=s.os:=os;exact⟨v,H',I.call (h':=e) (g':=g) (d':=d) (t':=t) (ch:=[]) un o a (λb z=>absurd z (by simp)),r,q⟩
end
noncomputable def OX(sp:Sp)(dvs:List V)(E:XK)(t:TA):TE:=λG H Q=>t G H λv I=>sp (v++dvs) I Q E
def Fp(C:Addr)(m:Str)(sp:Sp)(dvs:List V)(E:XK)(ta:TE)(t:TA):TE:=λG H Q=>ta G H λx I=>∃a dx fs,x=.ref a/\I a=some (.ins C dx fs)/\fs.lookup m=none /\
 t G I λv H2=>sp (x::(v++dvs)) H2 Q E
def OT(C:Addr)(sp:Sp)(dvs:List V)(E:XK)(t:TA):TE:=λG H Q=>t G H λs I=>∀x dx,I x=none->I dx=none->dx≠x ->
 sp (.ref x::(s++dvs)) (upd (upd I dx (.own x)) x (.ins C dx [])) (λv H2=>v=.non/\Q (.ref x) H2) E
def Binds(K:FG)(fd:FuncData)(ps:LS)(ds:LV):Prop:=
 ∀(s:Shared)(us:LV),K.In s.heap->(us++ds).length=ps.length->BindsTo s fd ⟨us,[]⟩ (ps.zip (us++ds))
theorem Binds.all(h:∀us:LV,us.length=ps.length->bindArgs fd ⟨us,[]⟩=pure (ps.zip us)):Binds K fd ps []:=λs us _ l=>by rw[dB]at l ⊢;exact .of_eq (h us l)
def my(CX:D9)(X:Cx)(E:XK):Prop:=∀(B:PN)(G:St)(H:Hp)(s:Shared)(e:Value)(s':Shared),Inv X B G H s->CX X.k H s E e s'->X.xe e s'
section
variable{X:Cx}{CX:D9}{k:Nat}{f C:Addr}{fd:FuncData}{ps:LS}{sp:Sp}{dvs:List V}{ds:LV}{E:XK}{x m:Str}{p q apos:Pos}{e o:Expr}{es:Ab}{ta:TE}{t:TA}
set_option tactic.hygienic true in
theorem y6(F:FnOk X.p X.w X.K X.g X.b CX k f fd ps sp)(n:Room k X.A)(b:Binds X.K fd ps ds)(hd:aZ dvs ds)(c:my CX X E)
  (I:Inv X B G H s) (r:aZ z us) (h:sp (z++dvs) H Q E):wx X (call (.ref f) us) (EP X B G Q) X.xe s:=by
 have x:aZ (z++dvs) (us++ds):=r.append hd;have a:(us++ds).length=ps.length:=by rw[<- x.length];exact F.len _ _ _ _ h
 refine kE (kF (F.run X.A X.k s H ⟨us,[]⟩ (us++ds) (z++dvs) Q E n I.env0 (b s us I.kIn a) x h) λr s' q=>?_);cases r with
 |error e=>exact c B G H s e s' I q
 |ok l=>
  cases l with
  |ret u=>exact I.after q
  |next=>exact False.elim q
  |brk=>exact False.elim q
  |cont=>exact False.elim q
theorem qM(F:FnOk X.p X.w X.K X.g X.b CX k f fd ps sp)(i:Room k X.A)(g:Gl X x)(u:X.g x=some (.ref f))(w:dZ X.K (.ref f)=true)(m:Binds X.K fd ps ds)(hd:aZ dvs ds)(j:my CX X E)
  (c:PA X (e::es) t) (d:(x == ("__debug__":Str))=false:=by decide) (v:starEach (e::es) X.e=(false,eval e X.e)::starEach es X.e:=by rfl) (l:(backTo q (starEach es X.e)).any (·.1)=false:=by rfl) :
  PE X (.Call (.Name x p) (e::es) [] q) (OX sp dvs E t):=by
 intro B s G H Q a h;refine l0 (j9 a g u ?_ d);refine qH (h₀:=X.b) a.o.mod.kin w (du (c q B s G H _ a h) λus y z=>?_) v l;obtain⟨o,I,b,r,n⟩:=z;refine⟨b.kIn,?_⟩;exact y6 F i m hd j b r n
theorem JD(S:PE X o ta)(c:Cls X.K C)(g:Meth X.K C m f)(F:FnOk X.p X.w X.K X.g X.b CX k f fd ps sp)(K:Room k X.A)(y:Binds X.K fd ps ds)(hd:aZ dvs ds)(A:my CX X E)(j:PA X (e::es) t)
  (v:starEach (e::es) X.e=(false,eval e X.e)::starEach es X.e:=by rfl) (p:(backTo q (starEach es X.e)).any (·.1)=false:=by rfl)
  (P:eval (.Call (.Attribute o m apos) (e::es) [] q) X.e=(do
   let N <- eval o X.e
   standAt apos.atName
   let (f,first) <- holding [N] (getMethod N m pl)
   callWith q f first (backTo q (starEach (e::es) X.e)) (backToKw q (keywordEach [] X.e))):=by rfl) :
  PE X (.Call (.Attribute o m apos) (e::es) [] q) (Fp C m sp dvs E ta t):=by
 intro B s G H Q n h;refine BK (pl:=pl) (du (S B s G H _ n h) λu M z=>?_) P;obtain⟨x,I,d,L,a,dx,fs,ex,i,l,b⟩:=z;subst ex;obtain rfl:u=Value.ref a:=L;refine su d i c g l ?_;refine qH (first:=[.ref a]) (h₀:=X.b) n.o.mod.kin g.kp (du (j q B M G I _ d b) λus T z=>?_) v p;obtain⟨R,H2,w,r,D⟩:=z;refine⟨w.kIn,?_⟩;exact y6 (us:=.ref a::us) (z:=.ref a::R) F K y hd A w (.cons rfl r) D
theorem FV(v:PE X o ta)(c:Cls X.K C)(r:Meth X.K C m f)(F:FnOk X.p X.w X.K X.g X.b CX k f fd ps sp)(d:Room k X.A)(p:Binds X.K fd ps ds)(hd:aZ dvs ds)(g:my CX X E)
  (w:eval (.Call (.Attribute o m apos) [] [] q) X.e=(do
   let z <- eval o X.e
   standAt apos.atName
   let (f,first) <- holding [z] (getMethod z m N)
   callWith q f first (backTo q (starEach [] X.e)) (backToKw q (keywordEach [] X.e))):=by rfl) :
  PE X (.Call (.Attribute o m apos) [] [] q) (Fp C m sp dvs E ta OR):=by
 intro B s G H Q e h;refine BK (pl:=N) (du (v B s G H _ e h) λu y i=>?_) w;obtain⟨x,I,b,j,a,dx,fs,ex,t,l,n⟩:=i;subst ex;obtain rfl:u=Value.ref a:=j;refine su b t c r l ?_;exact PySem.W.callWith_K0 (first:=[.ref a]) b.kIn r.kp (y6 (us:=[.ref a]) (z:=[.ref a]) F d p hd g b (.cons rfl .nil) n)
structure Mk(K:FG)(C f:Addr):Prop where
 makes:BC K C=true
 init:cc K (.ref C) "__init__"=some (some (.ref f))
 fn:vw K (.ref f)=true
 kp:dZ K (.ref C)=true
set_option tactic.hygienic true in
theorem Fz(M:Mk X.K C f)(F:FnOk X.p X.w X.K X.g X.b CX k f fd ps sp)(d:Room (k+1) X.A)(t:Binds X.K fd ps ds)(hd:aZ dvs ds)
  (w:my CX X E) (I:Inv X B G H s) (r:aZ z us)
  (h:∀x dx,H x=none->H dx=none->dx≠x->sp (.ref x::(z++dvs)) (upd (upd H dx (.own x)) x (.ins C dx [])) (λv H2=>v=.non/\Q (.ref x) H2) E) :
  wx X (call (.ref C) us) (EP X B G Q) X.xe s:=by
 have n:=h (s.heap.objs.size+1) s.heap.objs.size (I.h.fresh (lp _)) (I.h.fresh (al _)) (bo (qz _));have a:=Inv.made (C:=C) I;have b:aZ (V.ref (s.heap.objs.size+1)::(z++dvs)) (Value.ref (s.heap.objs.size+1)::(us++ds)):=.cons rfl (r.append hd);have p:(Value.ref (s.heap.objs.size+1)::us++ds).length=ps.length:=by have e:=b.length;rw[F.len _ _ _ _ n]at e;exact e.symm
 refine kE (Gr (f:=f) I.kIn M.makes M.init (kD.mp M.fn) (kF (F.run _ X.k _ _ ⟨Value.ref (s.heap.objs.size+1)::us,[]⟩ (Value.ref (s.heap.objs.size+1)::(us++ds)) _ _ E (d.make C us [])
  (a.env0.make C us []) (t _ (Value.ref (s.heap.objs.size+1)::us) a.kIn p) b n) λr s' q=>?_))
 cases r with
 |error e=>exact w B G _ _ e s' a q
 |ok l=>
  cases l with
  |ret u=>obtain⟨v,H',c,i,m,g⟩:=a.after q;subst m;exact⟨i,⟨V.ref (s.heap.objs.size+1),H',c,rfl,g⟩⟩
  |next=>exact False.elim q
  |brk=>exact False.elim q
  |cont=>exact False.elim q
theorem JE(M:Mk X.K C f)(F:FnOk X.p X.w X.K X.g X.b CX k f fd ps sp)(u:Room (k+1) X.A)(g:Gl X x)(w:X.g x=some (.ref C))(m:Binds X.K fd ps ds)(hd:aZ dvs ds)(i:my CX X E)
  (c:PA X (e::es) t) (d:(x == ("__debug__":Str))=false:=by decide) (v:starEach (e::es) X.e=(false,eval e X.e)::starEach es X.e:=by rfl) (l:(backTo q (starEach es X.e)).any (·.1)=false:=by rfl) :
  PE X (.Call (.Name x p) (e::es) [] q) (OT C sp dvs E t):=by
 intro B s G H Q a h;refine l0 (j9 a g w ?_ d);refine qH (h₀:=X.b) a.o.mod.kin M.kp (du (c q B s G H _ a h) λus j z=>?_) v l;obtain⟨y,I,b,r,n⟩:=z;refine⟨b.kIn,?_⟩;exact Fz M F u m hd i b r n
end
section
variable{X:Cx}{CX:D9}{k:Nat}{f C:Addr}{fd:FuncData}{ps ks:LS}{sp:Sp}{E:XK}{x m:Str}{p q apos kpos:Pos}{e o:Expr}{es:Ab}{kws:List Keyword}{te ta:TE}{t tk:TA}{nm:Option Str}
structure KBinds(K:FG)(fd:FuncData)(ps ks:LS)(g:LV->LV->LV)(gV:List V->List V->List V):Prop where
 to:∀(s:Shared)(us ws:LV),K.In s.heap->(g us ws).length=ps.length->BindsTo s fd ⟨us,ks.zip ws⟩ (ps.zip (g us ws))
 rel:∀{vs:List V}{us:LV}{zs:List V}{ws:LV},aZ vs us->aZ zs ws->aZ (gV vs zs) (g us ws)
variable{g:LV->LV->LV}{gV:List V->List V->List V}
end
structure FnScope(N P:LS)(sc:Scope):Prop where
 kind:sc.kind=.function
 co:sc.isCoroutine=false
 gen:sc.isGenerator=false
 nd:N.Nodup
 pre:N.take P.length=P
 par:∀x ∈ P,sc.names.lookup x=some .local\/sc.names.lookup x=some .cell
 nofree:∀y ∈ sc.names,y.2≠.free
theorem uA{kindOf:Str->Option NameKind}{x:Str}:∀{b:List (Str×Value)}{m:SV},(∀v,(x,v) ∉ b)->bindL kindOf b m x=m x
 | [],_,_=>rfl
 |(n,v)::r,m,h=>by
  unfold bindL;rw[uA λw hw=>h w (aI _ hw)];split
  .have:x≠n:=by rintro rfl;exact h v aH
   simp[this]
  .rfl
theorem uC{kindOf:Str->Option NameKind}{x:Str}:∀{b:List (Str×Value)}{m:SV},(∀v,(x,v) ∉ b)->bindC kindOf b m x=m x
 | [],_,_=>rfl
 |(n,v)::r,m,h=>by
  unfold bindC;rw[uC λw hw=>h w (aI _ hw)];split
  .rfl
  .have:x≠n:=by rintro rfl;exact h v aH
   simp[this]
theorem uB{kindOf:Str->Option NameKind}{x:Str}{v:Value}:∀{P:LS}{s:LV}{i:Nat}{m:SV},P.Nodup->P[i]? = some x->s[i]? = some v->kindOf x=some .local ->
  bindL kindOf (P.zip s) m x=some v
 | [],_,_,_,_,h,_,_=>by simp at h
 |_::_,[],_,_,_,_,h,_=>by simp at h
 |p::P,w::s,0,m,n,h1,h2,k=>by simp at h1 h2;subst h1;subst h2;show bindL kindOf ((p,w)::P.zip s) m p=_;unfold bindL;rw[uA λv a=>(cz.mp n).1 (qf a).1,am k];simp
 |p::P,w::s,i+1,m,n,h1,h2,k=>by show bindL kindOf ((p,w)::P.zip s) m x=_;unfold bindL;exact uB (i:=i) (cz.mp n).2 (by simpa using h1) (by simpa using h2) k
theorem uD{kindOf:Str->Option NameKind}{x:Str}{v:Value}:∀{P:LS}{s:LV}{i:Nat}{m:SV},P.Nodup->P[i]? = some x->s[i]? = some v->kindOf x≠some .local ->
  bindC kindOf (P.zip s) m x=some v
 | [],_,_,_,_,h,_,_=>by simp at h
 |_::_,[],_,_,_,_,h,_=>by simp at h
 |p::P,w::s,0,m,n,h1,h2,k=>by simp at h1 h2;subst h1;subst h2;show bindC kindOf ((p,w)::P.zip s) m p=_;unfold bindC;rw[uC λv a=>(cz.mp n).1 (qf a).1,au k];simp
 |p::P,w::s,i+1,m,n,h1,h2,k=>by show bindC kindOf ((p,w)::P.zip s) m x=_;unfold bindC;exact uD (i:=i) (cz.mp n).2 (by simpa using h1) (by simpa using h2) k
noncomputable def start(N:LS)(v:List V):St:=v.map some++List.replicate (N.length-v.length) none
noncomputable def pH(CX:D9)(P:Program)(w:World)(K:FG)(mg:SV)(base:Heap)(N:LS)(q:Str)(h:Scope)(f:Addr)(d:Value)(A:Around)(u:List Env)(s:Shared)(H:Hp)(E:XK):Cx where
 p:=P
 w:=w
 K:=K
 g:=mg
 b:=base
 A:=A.deeper (envOfC q h s.heap.objs.size f d)
 N:=N
 z:=s
 y:=H
 e:=envOfC q h s.heap.objs.size f d
 o:=u
 k:=envOfC q h s.heap.objs.size f d::u
 ex:=[]
 c:=true
 fn:=λ_=>true
 pn:=[]
 xe:=λe s'=>wpAny (model P w) (A.deeper (envOfC q h s.heap.objs.size f d)) (leaving (envOfC q h s.heap.objs.size f d) e) (λ_ x=>CX u H s E e x) (λa x=>CX u H s E a x) s'
variable{x:Str}
theorem yh{sc:Scope}(h:sc.names.lookup x=some .cell):∃c,(cellsFrom n sc.names []).lookup x=some c:=by have q:=vM sc.names n [] (.inl h);exact uS.mp q
theorem ui{CX:D9}{P:Program}{w:World}{K:FG}{mg:SV}{base:Heap}{N ps:LS}{l:Str}{o:Scope}{f:Addr}{C:Value}{A:Around}{t:List Env}{s I:Shared}{H:Hp}{E:XK}{us:LV}{j:List V}
  (S:FnScope N ps o) (hd:A.handled=none) (m:Env0 P w K mg base A t s H) (T:j.length=ps.length) (r:aZ j us)
  (x:InCallC s s.heap.objs.size (bindL (envOfC l o s.heap.objs.size f C).kindOf (ps.zip us) λ_=>none) (cellsFrom (s.heap.objs.size+1) o.names []) (bindC (envOfC l o s.heap.objs.size f C).kindOf (ps.zip us) λ_=>none) I) :
  Inv (pH CX P w K mg base N l o f C A t s H E) [] (start N j) H I:=by
 have M:ps.length≤N.length:=by have:=js qd S.pre;rw[gX]at this;lia
 obtain⟨h1,tk,rfl,D⟩:=x.done;have g:∀b:Addr,b ∉ (pH CX P w K mg base N l o f C A t s H E).ex:=fun b z=>absurd (show b ∈ ([]:List Addr) from z) (by simp);refine⟨⟨m.mod,S.kind,rfl,rfl,al _,fun y z c h1 h2=>?_,fun y d=>?_,fun y c _ h=>?_,fun _=>hd,Around.frames_deeper m.frames,.inr ⟨rfl,rfl⟩,fun b z=>absurd z (g b),m.bs,m.bsz,fun b _ _=>g b,fun b z=>absurd z (g b),m.funs,m.frf⟩,
  rfl,m.bare,Un.kept D,⟨_,x.toInCall.ns,λi y v h1 h2 R=>?_⟩,λy c h=>⟨_,x.cell y c h⟩,m.h.fresh (al _),λy c h=>?_,λp F=>absurd (show p ∈ ([]:PN) from F) (by simp),m.h.kept D,?_⟩
 .exact name_of_addr x.apart (rf h1) (rf h2)
 .have d:o.names.lookup y=some .cell\/o.names.lookup y=some .free:=d;rcases d with d|d
  .exact yh d
  .exact absurd rfl (S.nofree _ (rf d))
 .exact g9 (x.above y c (rf h))
 .have hi:i < j.length:=by
   unfold start at h2;by_cases hi:i < j.length
   .exact hi
   .rw [cB (by simpa using hi)]at h2;rw[vl]at h2;split at h2<;>cases h2
  have L:j[i]? = some v:=by
   unfold start at h2;rw[cA (by simpa using hi),dC]at h2;cases e:j[i]? with
   |none=>rw[e]at h2;cases h2
   |some a=>rw[e]at h2;cases h2;rfl
  obtain⟨u,G,Q⟩:=r.get L;have F:ps[i]? = some y:=by rw[<- S.pre,g7 (by lia)];exact h1
  have B:ps.Nodup:=by rw[<- S.pre];exact S.nd.sublist (ve _ _)
  refine⟨u,Q,?_⟩;rcases S.par y (a9 F) with k|k
  .exact .inl ⟨k,uB B F G k⟩
  .obtain⟨c,e⟩:=yh (n:=s.heap.objs.size+1) k;refine .inr ⟨.inl k,c,e,?_⟩;have q:=x.cell y c e;rw[uD B F G (by show o.names.lookup y≠_;rw[k];decide)]at q;exact q
 .exact m.h.fresh (g9 (x.above y c (rf h)))
 .unfold start;show _=N.length;rw[bx,bn,Ba];lia
set_option tactic.hygienic true in
theorem K9{CX:D9}{P:Program}{w:World}{K:FG}{mg:SV}{base:Heap}{k:Nat}{f:Addr}{name a:Str}{p:Arguments}{m:List Stmt}{c:Scope}{dV kV B pm d ct oc:Value}{Z od:Option Addr}
  {T:Array (OV)}{N ps:LS}{sp:Sp} (lk:K.lookup f=some ⟨oc,od,.func (g_ name a p m c dV kV B pm Z d ct),T⟩) (L:mS K d a=true) (S:FnScope N ps c)
  (len:∀g H Q E,sp g H Q E->g.length=ps.length)
  (l:∀(A:Around) (h:List Env) (s:Shared) (H:Hp) (g:List V) (Q:VK) (E:XK),Room k (A.deeper (envOfC a c s.heap.objs.size f d))->sp g H Q E ->
   ∃t,jq (pH CX P w K mg base N a c f d A h s H E) m t/\t { nx:=λ_ H'=>Q .non H',rt:=Q } (start N g) H) :
  FnOk P w K mg base CX (k+1) f (g_ name a p m c dV kV B pm Z d ct) ps sp:=by
 refine⟨len,λA h s H args us g Q E M C hb r G=>?_⟩;have hl:=len _ _ _ _ G;have X:K.In s.heap:=C.mod.kin.keeps λb o e=>(C.bs b o e).1;have R:s.heap.NoLimit:=C.mod.nolimit.keeps λb o e=>(C.bs b o e).1;have z:∀y ∈ ps.zip us,c.names.lookup y.1=some .local\/(c.names.lookup y.1=some .cell/\((cellsFrom (s.heap.objs.size+1) c.names []).lookup y.1).isSome=true):=λ⟨n,v⟩ hy=>by
  rcases S.par n (qf hy).1 with q|q
  .exact .inl q
  .exact .inr ⟨q,vM _ _ _ (.inl q)⟩
 refine EC M.depth (X _ _ lk) rfl S.co S.gen rfl (BG X L) (hb _ _ _ _ ?_);refine EJ S.kind z λenv he s1 x=>?_;subst he;refine⟨R.keeps x.toInCall.keep,codeAny_func ?_⟩;obtain⟨t,ht,hq⟩:=l A h s H g Q E (M.deeper _) G;have I:Inv (pH CX P w K mg base N a c f d A h s H E) [] (start N g) H s1:=ui S M.hd C hl r x;refine aU (ht [] s1 (start N g) H _ I hq) (λfl s' F=>?_) λe s' F=>F;have D:∀{i:St}{H':Hp}{v:V}{u:Value},Inv (pH CX P w K mg base N a c f d A h s H E) [] i H' s'->RelV v u->Q v H'->CE h P w H s Q u s':=
  λ{i H' v u} j W q=>⟨v,H',j.os,j.bare,j.base,j.h,W,q⟩
 cases fl with
 |ret u=>obtain⟨v,i,H',j,W,q⟩:=F;exact D j W q
 |next=>obtain⟨i,H',j,q⟩:=F;exact D (v:=V.non) (u:=Value.none) j rfl q
 |brk=>obtain⟨_,_,_,q⟩:=F;exact False.elim q
 |cont=>obtain⟨_,_,_,q⟩:=F;exact False.elim q
section
variable{X:Cx}{x:Str}{p q:Pos}{e:Expr}{es:Ab}{t:TA}{id T:String}{r:List V->Hp->VK->Prop}
noncomputable def Tc(r:List V->Hp->VK->Prop)(t:TA):TE:=λG H Q=>t G H λv I=>r v I Q
theorem kM(c:dW X (.builtin id) r)(g:Gl X x)(m:X.g x=none)(v:bootBuiltins x=some (.builtin id))(k:PA X (e::es) t)(b:x≠"__name__":=by decide)(d:(x == ("__debug__":Str))=false:=by decide)
  (f:starEach (e::es) X.e=(false,eval e X.e)::starEach es X.e:=by rfl) (l:(backTo q (starEach es X.e)).any (·.1)=false:=by rfl):PE X (.Call (.Name x p) (e::es) [] q) (Tc r t):=by
 intro B s G H Q a h;refine l0 (mh a g m v ?_ b d);exact ID (du (k q B s G H _ a h) λus i z=>by obtain⟨j,I,n,u,w⟩:=z;exact c B i G I j us Q n u w) f l
theorem oo(c:dW X (.type T) r)(g:Gl X x)(m:X.g x=none)(v:bootBuiltins x=some (.type T))(k:PA X (e::es) t)(b:x≠"__name__":=by decide)(d:(x == ("__debug__":Str))=false:=by decide)
  (f:starEach (e::es) X.e=(false,eval e X.e)::starEach es X.e:=by rfl) (l:(backTo q (starEach es X.e)).any (·.1)=false:=by rfl):PE X (.Call (.Name x p) (e::es) [] q) (Tc r t):=by
 intro B s G H Q a h;refine l0 (mh a g m v ?_ b d);exact mJ (du (k q B s G H _ a h) λus i z=>by obtain⟨j,I,n,u,w⟩:=z;exact c B i G I j us Q n u w) f l
end
end L2
namespace HT
open PySem PyProof.Rows
section
variable{prog:Program}{w:World}{A:Around}{E:VP}{s:Shared}
theorem Kn(u:IsTup s.heap t N.toArray)(q:IsTup s.heap b z.toArray)(v:N≠[])
  (h1:z=[]->Q (.ref t) s) (h2:z≠[]->Q (.ref s.heap.objs.size) { s with heap:=s.heap.push { cls:=.type "tuple",data:=.seq (N++z).toArray } })
  (a:N.length+z.length≤sizeLine):wpAny (model prog w) A (binaryOp .Add (.ref t) (.ref b)) Q E s:=by
 obtain⟨⟨cls,f,data,p⟩,o,m,n,hd⟩:=id u;obtain⟨⟨k,d,data2,l⟩,h,c,r,x⟩:=id q;simp only at m hd c x;subst m hd c x;have e:N.toArray++z.toArray=(N++z).toArray:=by simp
 by_cases hw:z=[]
 .exact yD ⟨_,o,rfl⟩ ⟨_,h,rfl⟩ yL yF uN uO (uR _ _)
   (tuple_addW1 t b N.toArray z.toArray n r f d p l (by simpa using v) (by simp[hw])) ⟨o,h,h1 hw⟩
 .refine yD ⟨_,o,rfl⟩ ⟨_,h,rfl⟩ yL yF uN uO (uR _ _)
   (tuple_addW2 t b N.toArray z.toArray n r f d p l (by simpa using v) (by simpa using hw) (by rw[a7,a7];exact a)) ⟨o,h,?_⟩
  rw[e];exact h2 hw
noncomputable def eW(n d:Nat):Option Int->Nat
 |none=>d
 |some v=>if v < 0 then (v+(n:Int)).toNat else min v.toNat n
theorem xw(n d:Nat):eW n d none=d:=rfl
theorem B9(n d k:Nat):eW n d (some (k:Int))=min k n:=by show(if (k:Int) < 0 then ((k:Int)+(n:Int)).toNat else min (k:Int).toNat n)=min k n;rw[au (by lia),uL]
theorem Mb(n d:Nat)(hd:d≤n)(o:Option Int):eW n d o≤n:=by
 cases o with
 |none=>exact hd
 |some v=>
  show(if v < 0 then (v+(n:Int)).toNat else min v.toNat n)≤n;by_cases h:v < 0
  .rw [am h];lia
  .rw [au h];exact Nat.min_le_right _ _
theorem CP(v:Int)(n d:Nat):(if v < 0 then max (v+(n:Int)) 0 else min v (n:Int))=((eW n d (some v):Nat):Int):=by
 show(if v < 0 then max (v+(n:Int)) 0 else min v (n:Int))=(((if v < 0 then (v+(n:Int)).toNat else min v.toNat n):Nat):Int);by_cases h:v < 0
 .simp only[am h];lia
 .simp only[au h];lia
theorem zN(lo hi:Option Int)(n:Nat):uK lo hi 1 (n:Int)=(((eW n 0 lo:Nat):Int),((eW n n hi:Nat):Int)):=by
 have h1:¬((1:Int) < 0):=by lia
 unfold uK;simp only[h1,ik];refine Prod.ext ?_ ?_
 .cases lo with
  |none=>rfl
  |some v=>exact CP v n 0
 .cases hi with
  |none=>rfl
  |some v=>exact CP v n n
theorem y9(i j:Nat):pT (i:Int) (j:Int) 1=j-i:=by
 unfold pT;have h1:(1:Int) > 0:=by lia
 simp only[h1,kJ,Int.ediv_one];split<;>lia
theorem rO(p:IsPart v o)(h:Q o s):wpAny (model prog w) A (HW v) Q E s:=by
 cases p with
 |none=>exact AL h
 |int i t=>exact slicePart_int h
theorem jt{l:Addr}{v u:Value}{lo hi:Option Int}{n:Nat}{Q:Int×Int×Nat->Shared->Prop}(a:s.heap.IsSliceOf l v u .none)(p:IsPart v lo)(e:IsPart u hi)
  (h:Q (((eW n 0 lo:Nat):Int),1,eW n n hi-eW n 0 lo) s):wpAny (model prog w) A (zZ (.ref l) (pure (n:Int))) Q E s:=by
 obtain⟨os,o,c,d⟩:=id a;unfold zZ HV;refine aa (aa (c_ o d (x:=v) rfl (aa (c_ o d (x:=u) rfl (aa (c_ o d (x:=.none) rfl (aj ?_)))))));refine aa (AL ?_);show wpAny _ _ (if ((1:Int) == 0)=true then _ else _) _ _ s;rw[au (by decide)];refine aa (rO p (aa (rO e (aa (aj ?_)))));show wpAny _ _ (match uK lo hi 1 (n:Int) with|(lo,hi)=>pure (lo,(1:Int),pT lo hi 1)) _ _ s;rw[zN lo hi n];show wpAny _ _ (pure (((eW n 0 lo:Nat):Int),(1:Int),pT ((eW n 0 lo:Nat):Int) ((eW n n hi:Nat):Int) 1)) _ _ s;rw[y9];exact aj h
theorem FS(xs:Array Value)(i k:Nat):((List.range k).filterMap λ(m:Nat)=>xs[((i:Int)+(m:Int) * 1).toNat]?).toArray=((xs.toList.drop i).take k).toArray:=by
 have e:(λ(m:Nat)=>xs[((i:Int)+(m:Int) * 1).toNat]?)=λm=>xs[i+m]?:=by
  funext m;have:((i:Int)+(m:Int) * 1).toNat=i+m:=by lia
  rw[this]
 rw[e];have:=pick_run xs i k
 rw[List.filterMap_map]at this;have h:((λx=>xs[x]?) ∘ λx=>i+x)=λm=>xs[i+m]?:=rfl;rw[h]at this;rw[this]
theorem nl{t l:Addr}{i:Array Value}{v u:Value}{lo hi:Option Int}{Q:VP}(x:IsTup s.heap t i)(e:s.heap.IsSliceOf l v u .none)(p:IsPart v lo)(k:IsPart u hi)
  (hw:¬(eW i.size 0 lo=0/\eW i.size i.size hi=i.size))
  (h:Q (.ref s.heap.objs.size) { s with heap:=s.heap.push { cls:=.type "tuple",data:=.seq ((i.toList.drop (eW i.size 0 lo)).take (eW i.size i.size hi-eW i.size 0 lo)).toArray } })
  (z:i.size≤sizeLine):wpAny (model prog w) A (getItem (.ref t) (.ref l)) Q E s:=by
 have a:sizeOk (.seq ((i.toList.drop (eW i.size 0 lo)).take (eW i.size i.size hi-eW i.size 0 lo)).toArray):=by show((i.toList.drop (eW i.size 0 lo)).take (eW i.size i.size hi-eW i.size 0 lo)).toArray.size≤sizeLine;rw[a7,gX,vb,mK];lia
 have j:eW i.size i.size hi≤i.size:=Mb _ _ (al _) hi;obtain⟨os,o,c,d⟩:=id e;have T:s.TypeIs (.ref l) "slice":=⟨os,o,c⟩;unfold getItem;try with_reducible refine db ?_
 first|refine aa (aj ?_)|skip
 refine aa (Ew x.typeIs (by decide) ?_);refine aa (u3 (name:=Str.ofString "__getitem__") x.typeIs jR
  (qZ jR x.typeIs AO ?_ (AN _ _)))
 show wpAny _ _ (zY (.ref t) >>= _) _ _ s;refine aa (AJ x ?_);refine aa (nQ T ?_);rw[am (by decide)];refine aa (jt e p k ?_);have n:¬((((eW i.size 0 lo:Nat):Int) == 0 && (1:Int) == 1 && (eW i.size i.size hi-eW i.size 0 lo) == i.size)=true):=by intro q;rw[az,az]at q;have f:((eW i.size 0 lo:Nat):Int)=0:=eq_of_beq q.1.1;have b:eW i.size i.size hi-eW i.size 0 lo=i.size:=eq_of_beq q.2;exact hw ⟨by lia,by lia⟩
 show wpAny _ _ (if (((eW i.size 0 lo:Nat):Int) == 0 && (1:Int) == 1 && (eW i.size i.size hi-eW i.size 0 lo) == i.size)=true then _ else _) _ _ s;rw[au n,FS];first
  |exact aa (m:=pS _) (q_ (aj ⟨_,rfl,aj h⟩) a)
  |exact aa (m:=pS _) (q_ (aa (aj (aj ⟨_,rfl,aj h⟩))) a)
  |exact aa (aa (m:=pS _) (q_ (aj (aj ⟨_,rfl,aj h⟩)) a))
  |exact aa (aa (m:=pS _) (q_ (aj ⟨_,rfl,aj h⟩) a))
end
end HT
namespace L2
open PySem PySem.Spec PyProof.Rows
noncomputable abbrev TO:=St->Hp->(Option Int->Hp->Prop)->Prop
def PO(X:Cx)(e:Option Expr)(t:TO):Prop:=
 ∀(B:PN)(s:Shared)(G:St)(H:Hp)(Q:Option Int->Hp->Prop),Inv X B G H s->t G H Q ->
  wx X (evalPart e X.e) (λu s'=>∃o H',Inv X B G H' s'/\IsPart u o/\Q o H') X.xe s
noncomputable def Jf:TO:=λ_ H Q=>Q none H
noncomputable def OP(t:TE):TO:=λG H Q=>t G H λx I=>∃i,x=.int i/\Q (some i) I
section
variable{X:Cx}{e:Expr}{te:TE}{lo hi:Option Expr}{tl th:TO}{q p2:Pos}
theorem Jz:PO X none Jf:=by intro B s G H Q I h;rw[Eb];exact aj ⟨none,H,I,.none,h⟩
theorem Jx(h:PE X e te):PO X (some e) (OP te):=by
 intro B s G H Q a hw;rw[evalPart_some];refine du (h B s G H _ a hw) λu f z=>?_
 obtain⟨x,I,n,r,k⟩:=z;obtain⟨i,rfl,q⟩:=k;obtain⟨t,rfl⟩:=r;exact⟨some i,I,n,.int i t,q⟩
def Le(X:Cx)(r:V->Option Int->Option Int->Hp->VK->Prop):Prop:=
 ∀(B:PN)(s:Shared)(G:St)(H:Hp)(x:V)(v h u:Value)(lo hi:Option Int)(l:Addr)(Q:VK),Inv X B G H s->RelV x v->s.heap.IsSliceOf l h u .none->IsPart h lo->IsPart u hi->r x lo hi H Q ->
  ∃T id,typeLookup (.type T) "__getitem__"=pure (some (.builtin id))/\s.TypeIs v T/\wx X (getItem v (.ref l)) (EP X B G Q) X.xe s
theorem Le.or(h:Le X r)(h':Le X z):Le X (λx lo hi H Q=>r x lo hi H Q\/z x lo hi H Q):=by
 intro B s G H x v n k lo hi l Q I e a p u q;rcases q with q|q
 .exact h B s G H x v n k lo hi l Q I e a p u q
 .exact h' B s G H x v n k lo hi l Q I e a p u q
noncomputable def TZ(r:V->Option Int->Option Int->Hp->VK->Prop)(te:TE)(tl th:TO):TE:=λG H Q=>te G H λx I=>tl G I λl H2=>th G H2 λu h=>r x l u h Q
theorem FU(o:Le X r)(i:PE X e te)(y:PO X lo tl)(F:PO X hi th):PE X (.Subscript e (.Slice lo hi none p2) q) (TZ r te tl th):=by
 intro B s G H Q a h;refine Subscript_ (du (i B s G H _ a h) λv L z=>?_);obtain⟨x,I,t,E,A⟩:=z;refine wpAny_Slice (du (y B L G I _ t A) λf M ⟨l,H2,p,K,C⟩=>du (F B M G H2 _ p C) λc k z=>?_);obtain⟨u,m,d,P,D⟩:=z;rw[Eb];refine aj ?_;have w:Inv X B G m { k with heap:=k.heap.push { cls:=.type "slice",data:=.fields #[f,c,.none] } }:=d.kept (t':=k.toks) λb N n=>bg _ n
 obtain⟨T,id,g,S,j⟩:=o B { k with heap:=k.heap.push { cls:=.type "slice",data:=.fields #[f,c,.none] } } G m x v f c l u k.heap.objs.size Q w E (Heap.IsSliceOf.new ..) K P D;show wx X (subscriptTail e (.Slice lo hi none p2) v (.ref k.heap.objs.size)) (EP X B G Q) X.xe { k with heap:=k.heap.push { cls:=.type "slice",data:=.fields #[f,c,.none] } };exact p_ (ops:=[.ref k.heap.objs.size,v]) S g j (by with_unfolding_all rfl)
def yd(xs:List V)(lo hi:Option Int):List V:=(xs.drop (HT.eW xs.length 0 lo)).take (HT.eW xs.length xs.length hi-HT.eW xs.length 0 lo)
theorem pi(xs:List V)(lo hi:Option Int):(yd xs lo hi).length≤xs.length:=by unfold yd;rw[gX,vb];lia
def RZ(K:FG):V->Option Int->Option Int->Hp->VK->Prop:=λx lo hi H Q=>∃a xs,x=.ref a/\w5 K H a xs /\
 ¬(HT.eW xs.length 0 lo=0/\HT.eW xs.length xs.length hi=xs.length)/\∀p,H p=none->Q (.ref p) (upd H p (.tup (yd xs lo hi)))
theorem L9:Le X (RZ X.K):=by
 intro B s G H x v m d lo hi c Q I k e p u h;obtain⟨a,xs,rfl,n,hw,q⟩:=h;cases k;obtain⟨i,r,t,z⟩:=I.tuple n;have l:i.toArray.size=xs.length:=by rw[a7];exact r.length.symm
 refine⟨"tuple",_,jR.lookup,t.typeIs,?_⟩;refine HT.nl t e p u (by rw[l];exact hw) ?_ (by rw[l];exact z);rw[l];refine⟨.ref s.heap.objs.size,_,I.laid (t':=s.toks) (o:=.tup (yd xs lo hi)) (λb f q=>bg _ q) (al _) ?_,rfl,q _ (I.h.fresh (al _))⟩;exact⟨aF (pi xs lo hi) z,_,(r.drop (HT.eW xs.length 0 lo)).take (HT.eW xs.length xs.length hi-HT.eW xs.length 0 lo),oR.new _ _⟩
def O_(K:FG):R2:=λx y H Q=>∃a b xs ys,x=.ref a/\y=.ref b/\w5 K H a xs/\w5 K H b ys/\xs≠[]/\xs.length+ys.length≤sizeLine /\
 (ys=[]->Q (.ref a) H)/\(ys≠[]->∀p,H p=none->Q (.ref p) (upd H p (.tup (xs++ys))))
theorem aZ.nil_iff(r:aZ xs us):us=[]↔xs=[]:=by
 cases r with
 |nil=>simp
 |cons _ _=>simp
theorem JH:jL X (binaryOp .Add) (O_ X.K):=by intro B s G H x y v u Q I g j h;obtain⟨a,b,xs,ys,rfl,rfl,k,f,c,n,m,d⟩:=h;cases g;cases j;obtain⟨t,e,p,_⟩:=I.tuple k;obtain⟨i,r,p2,_⟩:=I.tuple f;refine HT.Kn p p2 (λz=>c (e.nil_iff.mp z)) (λz=>⟨.ref a,H,I,rfl,m (r.nil_iff.mp z)⟩) (λz=>?_) (by rw[<- e.length,<- r.length];exact n);refine⟨.ref s.heap.objs.size,_,I.laid (t':=s.toks) (o:=.tup (xs++ys)) (λb l q=>bg _ q) (al _) ?_,rfl,d (λw=>z (r.nil_iff.mpr w)) _ (I.h.fresh (al _))⟩;exact⟨by rw[bx];exact n,_,e.append r,oR.new _ _⟩
end
noncomputable def Cy(n:Nat)(i:Int):Option Nat:=if 0≤i then (if i < n then some i.toNat else none) else if -(n:Int)≤i then some (i+n).toNat else none
variable{α:Type}
def atI(xs:List α)(i:Int):Option α:=(Cy xs.length i).bind λj=>xs[j]?
variable{n:Nat}
theorem Cw{i:Int}(h:Cy n i=some z):seqIndex? i n=some z/\z < n/\-(n:Int)≤i/\i < n:=by
 unfold Cy at h;by_cases x:0≤i
 .rw [am x]at h;by_cases h1:i < n
  .rw [am h1]at h;have e:i.toNat=z:=d4 h;exact⟨by rw[yC x h1,e],by lia,by lia,h1⟩
  .rw [au h1]at h;cases h
 .rw [au x]at h;by_cases h1:-(n:Int)≤i
  .rw [am h1]at h;have e:(i+n).toNat=z:=d4 h;exact⟨by rw[yE (by lia) h1,e],by lia,h1,by lia⟩
  .rw [au h1]at h;cases h
theorem w4{i:Int}(h:atI xs i=some v):∃j,seqIndex? i xs.length=some j/\xs[j]? = some v/\j < xs.length/\-(xs.length:Int)≤i/\i < xs.length:=by
 unfold atI at h;cases e:Cy xs.length i with
 |none=>rw[e]at h;cases h
 |some j=>rw[e]at h;obtain⟨h1,h2,x,a⟩:=Cw e;exact⟨j,h1,h,h2,x,a⟩
theorem atI_last(xs:List α)(v:α):atI (xs++[v]) (-1)=some v:=by
 have h:(xs++[v]).length=xs.length+1:=by simp
 have e:Cy (xs++[v]).length (-1)=some xs.length:=by unfold Cy;rw[h,au (by decide),am (by lia)];congr 1;lia
 unfold atI;rw[e];show(xs++[v])[xs.length]? = some v;simp
def nK(b:Expr):Prop:=∀o i,subscripted b false o i=operate [o,i] (getItem o i)
def HI(X:Cx)(r:R2):Prop:=
 ∀(value l:Expr)(B:PN)(s:Shared)(G:St)(H:Hp)(x y:V)(v u:Value)(Q:VK),Inv X B G H s->RelV x v->RelV y u->r x y H Q ->
  subscripted l false v u=operate [v,u] (getItem v u)->wx X (subscriptTail value l v u) (EP X B G Q) X.xe s
def Uy(X:Cx)(id:String)(r:V->List V->Hp->VK->Prop):Prop:=
 ∀(B:PN)(s:Shared)(G:St)(H:Hp)(x:V)(xs:List V)(v:Value)(us:LV)(Q:VK),Inv X B G H s->RelV x v->aZ xs us->r x xs H Q ->
  wx X (call (.builtin id) (v::us)) (EP X B G Q) X.xe s
section
variable{X:Cx}{a b:Expr}{ta tb:TE}{q:Pos}
theorem HI.or(h:HI X r)(h':HI X z):HI X (λx y H Q=>r x y H Q\/z x y H Q):=by
 intro value l B s G H x y v u Q I e n q a;rcases q with q|q
 .exact h value l B s G H x y v u Q I e n q a
 .exact h' value l B s G H x y v u Q I e n q a
theorem FX(c:HI X r)(k:PE X a ta)(f:PE X b tb)(m:nK b):PE X (.Subscript a b q) (L0 r ta tb):=by intro B s G H Q I h;exact Subscript_ (NA k f I h λv u d x y H2 n t p e=>c a b B d G H2 x y v u Q n t p e (m _ _))
def R6(K:FG):R2:=λx y H Q=>∃p xs i v,x=.ref p/\y=.int i/\iO K H p xs/\atI xs i=some v/\Q v H
def R4(K:FG):R2:=λx y H Q=>∃p xs i v,x=.ref p/\y=.int i/\w5 K H p xs/\atI xs i=some v/\Q v H
def R5:R2:=λx y H Q=>∃z i c,x=.str z/\y=.int i/\z.length≤sizeLine/\atI z.cps.toList i=some c/\Q (.str ⟨#[c]⟩) H
theorem wf:HI X (R6 X.K):=by
 intro value c B s G H x y v u Q I K P h m;obtain⟨p,xs,i,z,rfl,rfl,F,o,q⟩:=h;cases K;obtain⟨t,rfl⟩:=P;obtain⟨e,r,l,D⟩:=I.list F;obtain⟨j,h1,h2,A,d,g⟩:=w4 o;obtain⟨w,k,n⟩:=r.get h2;have S:=r.length;have C:=kO;have f:EP X B G Q w s:=⟨z,H,I,n,q⟩;by_cases b:0≤i
 .have a:i.toNat=j:=by
   rw[yC b g]at h1;exact d4 h1
  exact item_listR l.isList b (by lia) (by rw[a];simpa using k) f m
 .have a:(i+(e.toArray.size:Int)).toNat=j:=by
   rw[yE (by lia) d]at h1;rw[a7,<- S];exact d4 h1
  exact AR (x:=w) l.isList.typeIs Ep.lookup
   (wpAny_getItem_list_neg (Q:=λr s'=>r=w/\EP X B G Q r s') l.isList (by lia) (by rw[a7]<;>lia) (by lia) (by rw[a];simpa using k) ⟨rfl,f⟩) m
theorem GB:HI X (R4 X.K):=by
 intro value l B s G H x y v u Q I g o h m;obtain⟨p,xs,i,z,rfl,rfl,c,k,q⟩:=h;cases g;obtain⟨t,rfl⟩:=o;obtain⟨d,r,e,A⟩:=I.tuple c;obtain⟨j,h1,h2,S,F,K⟩:=w4 k;obtain⟨w,n,a⟩:=r.get h2;have b:=r.length;have P:=kO;have f:EP X B G Q w s:=⟨z,H,I,a,q⟩;exact AR (x:=w) e.typeIs jR.lookup
  (getItem_tuple (j:=j) (Q:=λr s'=>r=w/\EP X B G Q r s') e (by lia) (by lia) (by rw[a7,<- b];exact h1) (by simpa using n) ⟨rfl,f⟩) m
theorem M3:HI X R5:=by
 intro value l B s G H x y v u Q I r p h m;obtain⟨z,i,c,rfl,rfl,g,f,q⟩:=h;obtain⟨t,rfl⟩:=r;obtain⟨o,rfl⟩:=p;obtain⟨j,h1,h2,d,n,k⟩:=w4 f;have b:z.cps.toList.length=z.length:=by simp[mH]
 rw[b]at h1 n k;have w:=kO;exact p_ (typeIs_str s z t) slot_str_getitem.lookup (getItem_str (c:=c) (by have e:decide (i < -(2 ^ 63:Int))=false:=cT (by lia);have a:decide (i ≥ 2 ^ 63)=false:=cT (by lia);rw[e,a,AD]) (by rw[h1];simpa using h2) ⟨.str ⟨#[c]⟩,H,I.tok _,⟨_,rfl⟩,q⟩) m
theorem zc(i:LV)(n j:Nat)(u:Value):jO (·.setIfInBounds j u) { cls:=.type "list",data:=.seq i.toArray n }={ cls:=.type "list",data:=.seq (i.set j u).toArray n }:=by simp[jO]
theorem Inv.lst(I:Inv X B G H s)(h:H p=some (.lst xs)) :
  ∃(i:LV)(n:Nat),aZ xs i/\s.heap.get? p=some { cls:=.type "list",data:=.seq i.toArray n }/\xs.length≤sizeLine:=by
 obtain⟨z,i,n,r,e⟩:=I.h p _ h;exact⟨i,n,r,e,z⟩
theorem Inv.lstUpd{i:LV}(I:Inv X B G H s)(h:H p=some (.lst xs))
  (o:s.heap.get? p=some { cls:=.type "list",data:=.seq i.toArray n }) (a:f { cls:=.type "list",data:=.seq i.toArray n }={ cls:=.type "list",data:=.seq z.toArray N }) (r:aZ ys z) (c:ys.length≤sizeLine) (t:Nat) :
  Inv X B G (upd H p (.lst ys)) { s with heap:=s.heap.update p f,toks:=t }:=by
 have e:(s.heap.update p f).get? p=some { cls:=.type "list",data:=.seq z.toArray N }:=by rw[jM f o (by rw[a]<;>rfl),a]
 refine I.write (x:=p) (e:=p) (by rw[h];trivial) (.inl rfl) (λb u k q=>(jN _ _ (aC k)).trans q) ⟨_,e⟩ ?_;exact⟨c,z,N,r,e⟩
def O9:V->V->V->Hp->(Hp->Prop)->Prop:=λo i v H Q=>∃p xs k j,o=.ref p/\i=.int k/\H p=some (.lst xs)/\Cy xs.length k=some j/\Q (upd H p (.lst (xs.set j v)))
theorem Ft:Qx X O9:=by
 intro B s G H o i v P K u Q I y g S h;obtain⟨p,xs,k,j,rfl,rfl,d,w,q⟩:=h;cases y;obtain⟨t,rfl⟩:=g;obtain⟨x,n,r,e,z⟩:=I.lst d;obtain⟨h1,h2,c,m⟩:=Cw w;have l:=r.length;have F:=kO;have f:Inv X B G (upd H p (.lst (xs.set j v))) { s with heap:=s.heap.update p (jO (·.setIfInBounds j u)) }:=
  I.lstUpd d e (zc x n j u) (r.set S j) (by rw[cN];exact z) s.toks
 by_cases b:0≤k
 .have a:k.toNat=j:=by
   rw[yC b m]at h1;exact d4 h1
  exact PySem.W.ki_setAt e b (by lia) (by rw[a7,<- l];exact m) (by rw[a];exact⟨_,f,q⟩)
 .have a:(k+(x.toArray.size:Int)).toNat=j:=by
   rw[yE (by lia) c]at h1;rw[a7,<- l];exact d4 h1
  exact PySem.W.ki_setBack e (by lia) (by rw[a7,<- l];exact c) (by lia) (by rw[a];exact⟨_,f,q⟩)
theorem vV(lo hi:Option Int)(n:Nat):(sliceBounds lo hi none n).1=((HT.eW n 0 lo:Nat):Int)/\(sliceBounds lo hi none n).2.1=((HT.eW n n hi:Nat):Int)/\(sliceBounds lo hi none n).2.2=1:=by
 refine⟨?_,?_,rfl⟩
 .cases lo with
  |none=>simp[sliceBounds,HT.eW]
  |some i=>
   simp only[sliceBounds,HT.eW,Av,show(1:Int) > 0 by decide,kJ];by_cases h:i < 0
   .simp only[h,kJ]<;>lia
   .simp only[h,ik]<;>lia
 .cases hi with
  |none=>simp[sliceBounds,HT.eW]
  |some i=>
   simp only[sliceBounds,HT.eW,Av,show(1:Int) > 0 by decide,kJ];by_cases h:i < 0
   .simp only[h,kJ]<;>lia
   .simp only[h,ik]<;>lia
theorem s_(i:LV)(lo hi:Option Int):slicePick i.toArray lo hi none=((i.drop (HT.eW i.length 0 lo)).take (HT.eW i.length i.length hi-HT.eW i.length 0 lo)).toArray:=by obtain⟨h1,h2,h⟩:=vV lo hi i.toArray.size;unfold slicePick;rw[h1,h2,h];simp only[sliceRange_one,pick_run,a7]<;>rfl
def R0(K:FG):V->Option Int->Option Int->Hp->VK->Prop:=λx lo hi H Q=>∃a xs,x=.ref a/\iO K H a xs/\∀p,H p=none->Q (.ref p) (upd H p (.lst (yd xs lo hi)))
theorem Ji:Le X (R0 X.K):=by intro B s G H x v m d lo hi c Q I k e p u h;obtain⟨a,xs,rfl,n,q⟩:=h;cases k;obtain⟨i,r,t,z⟩:=I.list n;have l:=r.length;refine⟨"list",_,Ep.lookup,t.isList.typeIs,?_⟩;refine wpAny_getItem_list_slice t.isList e p u .none (by simp) ?_ (by rw[a7]<;>lia);rw[s_,<- l];refine⟨.ref s.heap.objs.size,_,I.laid (t':=s.toks) (o:=.lst (yd xs lo hi)) (λb f q=>bg _ q) (al _) ?_,rfl,q _ (I.h.fresh (al _))⟩;exact⟨aF (pi xs lo hi) z,_,0,(r.drop (HT.eW xs.length 0 lo)).take (HT.eW xs.length xs.length hi-HT.eW xs.length 0 lo),dD _ rfl⟩
theorem wX:dW X (.builtin "len") (λxs H Q=>∃p ys,xs=[.ref p]/\(iO X.K H p ys\/w5 X.K H p ys)/\Q (.int ys.length) H):=by
 intro B s G H xs us Q I r h;obtain⟨p,ys,rfl,x,q⟩:=h;obtain⟨u,rfl,n⟩:=vals1 r;cases n;have k:=kO;rcases x with x|x
 .obtain⟨i,e,a,z⟩:=I.list x;have l:=e.length;exact Calls.call_len_list a.isList (by simp only[a7]<;>lia) ⟨.int ys.length,H,I.tok _,⟨s.toks+1,by rw[a7,l]⟩,q⟩
 .obtain⟨i,e,a,z⟩:=I.tuple x;have l:=e.length;exact len_tuple a (by simp only[a7]<;>lia) ⟨.int ys.length,H,I.tok _,⟨s.toks+1,by rw[a7,l]⟩,q⟩
theorem wW:dW X (.builtin "len") (λxs H Q=>∃z,xs=[.str z]/\z.length≤sizeLine/\Q (.int z.length) H):=by intro B s G H xs us Q I r h;obtain⟨z,rfl,x,q⟩:=h;obtain⟨u,rfl,t,rfl⟩:=vals1 r;have n:=kO;exact len_str (by lia) ⟨.int z.length,H,I.tok _,⟨_,rfl⟩,q⟩
theorem dW.or(h:dW X f r)(h':dW X f z):dW X f (λxs H Q=>r xs H Q\/z xs H Q):=by
 intro B s G H xs us Q I x q;rcases q with q|q
 .exact h B s G H xs us Q I x q
 .exact h' B s G H xs us Q I x q
theorem nA:dW X (.type "list") (λxs H Q=>∃p ys,xs=[.ref p]/\(iO X.K H p ys\/w5 X.K H p ys)/\∀l,H l=none->Q (.ref l) (upd H l (.lst ys))):=by
 intro B s G H xs us Q I r h;obtain⟨p,ys,rfl,k,q⟩:=h;obtain⟨u,rfl,w⟩:=vals1 r;cases w;have f:∀(i:LV),aZ ys i->ys.length≤sizeLine->∀(h':Heap)(c:Nat),(∀b o',s.heap.get? b=some o'->h'.get? b=some o') ->
   h'.get? s.heap.objs.size=some { cls:=.type "list",dict:=none,data:=.seq i.toArray c,slots:=#[] }->EP X B G Q (.ref s.heap.objs.size) { s with heap:=h' }:=λi x z h' c m e=>
  ⟨.ref s.heap.objs.size,_,I.laid (t':=s.toks) m (al _) (show cM X.p X.w _ h' _ (.lst ys) from ⟨z,i,c,x,e⟩),rfl,q _ (I.h.fresh (al _))⟩
 rcases k with k|k
 .obtain⟨i,x,d,z⟩:=I.list k;have a:=x.length;obtain⟨o,v,t,n,hd⟩:=d.isList;exact Ea p (.inl rfl) v t hd (λh' c m e=>f i x z h' c m e) (by simp only[a7]<;>lia)
 .obtain⟨i,x,d,z⟩:=I.tuple k;have a:=x.length;obtain⟨o,v,t,n,hd⟩:=d;exact Ea p (.inr rfl) v t hd (λh' c m e=>f i x z h' c m e) (by simp only[a7]<;>lia)
theorem lQ:dW X (.type "tuple") (λxs H Q=>∃p ys,xs=[.ref p]/\((iO X.K H p ys/\∀l,H l=none->Q (.ref l) (upd H l (.tup ys)))\/(w5 X.K H p ys/\Q (.ref p) H))):=by
 intro B s G H xs us Q I r h;obtain⟨p,ys,rfl,h⟩:=h;obtain⟨u,rfl,t⟩:=vals1 r;cases t;rcases h with ⟨x,q⟩|⟨x,q⟩
 .obtain⟨i,n,a,z⟩:=I.list x;have f:=n.length;refine call_tuple_list a.isList (λh' m=>?_) (by simp only[a7]<;>lia);have k:Inv X B G H { s with heap:=h' }:=I.kept (t':=s.toks) m;have c:Inv X B G (upd H h'.objs.size (.tup ys)) { s with heap:=h'.push { cls:=.type "tuple",data:=.seq i.toArray } }:=
   k.laid (t':=s.toks) (λb o e=>bg _ e) (al _) (show cM X.p X.w _ _ _ (.tup ys) from ⟨z,i,n,oR.new _ _⟩)
  exact⟨.ref h'.objs.size,_,c,rfl,q _ (k.h.fresh (al _))⟩
 .obtain⟨i,n,a,z⟩:=I.tuple x;exact call_tuple_same a ⟨.ref p,H,I,rfl,q⟩
def tyV(K:FG)(T:String)(x:V)(H:Hp):Prop:=match x with
 | .str _=>T="str"
 | .int _=>T="int"
 | .ref p=>(T="list"/\∃xs,iO K H p xs)\/(T="tuple"/\∃o,K.lookup p=some o/\o.cls=.type "tuple"/\o.dict=none) \/
   (T="dict"/\((∃j,H p=some (.dK j))\/∃j,H p=some (.dT j)))\/(T="set"/\∃S n,H p=some (.set S n))
 |_=>False
theorem LM(I:Inv X B G H s)(r:RelV x v)(ty:tyV X.K T x H) :
  s.TypeIs v T/\∀a,v=.ref a->∃b,s.heap.get? a=some b/\b.dict=none:=by
 cases x with
 |str z=>obtain⟨t,rfl⟩:=r;cases (show T="str" from ty);exact⟨typeIs_str s z t,λ_ e=>nomatch e⟩
 |int i=>obtain⟨t,rfl⟩:=r;cases (show T="int" from ty);exact⟨qW s i t,λ_ e=>nomatch e⟩
 |ref p=>
  cases r;rcases ty with ⟨rfl,xs,q⟩|⟨rfl,o,h,f,hd⟩|⟨rfl,h⟩|⟨rfl,S,n,h⟩
  .obtain⟨m,_,l,_⟩:=I.list q;refine⟨l.isList.typeIs,λa e=>?_⟩;cases e;obtain⟨o,n,e,c,hd,_⟩:=l;exact⟨o,e,hd⟩
  .refine⟨⟨o,I.kIn p o h,f⟩,λa e=>?_⟩;cases e;exact⟨o,I.kIn _ o h,hd⟩
  .have z:∃o,s.heap.get? p=some o/\o.ExactDict:=by
    rcases h with ⟨j,h⟩|⟨j,h⟩
    .obtain⟨_,_,_,_,o,_,_,e,ex,_⟩:=I.h p _ h;exact⟨o,e,ex⟩
    .obtain⟨_,_,_,_,o,_,_,e,ex,_⟩:=I.h p _ h;exact⟨o,e,ex⟩
   obtain⟨o,e,ex⟩:=z;refine⟨⟨o,e,ex.1⟩,λa k=>?_⟩;cases k;exact⟨o,e,ex.2.1⟩
  .obtain⟨o,_,_,_,e,ex,_⟩:=I.h p _ h;refine⟨⟨o,e,ex.1⟩,λa k=>?_⟩;cases k;exact⟨o,e,ex.2.1⟩
 |_=>exact False.elim ty
noncomputable def T7(K:FG)(T:String)(r:V->List V->Hp->VK->Prop)(to:TE)(t:TA):TE:=λG H Q=>to G H λx I=>tyV K T x I/\t G I λxs H2=>r x xs H2 Q
variable{o e:Expr}{es:Ab}{to:TE}{t:TA}{name:Str}{apos cpos:Pos}{T id:String}{r:V->List V->Hp->VK->Prop}
theorem F9(u:PlainAttrs T)(slot:Slot T name id)(y:typeOf (.builtin id)=pure (.type "method_descriptor"))(q:Uy X id r)(d:PE X o to)(m:PA X (e::es) t)
  (b:attributeBase o name X.e (eval o X.e)=eval o X.e:=by rfl)
  (f:((backTo cpos (starEach (e::es) X.e)).all (fun x=>!x.1) && (backToKw cpos (keywordEach [] X.e)).all (fun x=>x.1.isSome)
   && decide ((e::es).length+([]:List Keyword).length+(if ([]:List Keyword).isEmpty then 0 else 1) < 30))=true:=by rfl)
  (l:(apos.endLine == cpos.line)=true:=by rfl) (w:starEach (e::es) X.e=(false,eval e X.e)::starEach es X.e:=by rfl) (p:(backTo cpos (starEach es X.e)).any (·.1)=false:=by rfl) :
  PE X (.Call (.Attribute o name apos) (e::es) [] cpos) (T7 X.K T r to t):=by
 intro B s G H Q a h;refine EG b f l rfl (du (d B s G H _ a h) λv S z=>?_);obtain⟨x,I,n,k,ty,g⟩:=z;obtain⟨h1,h2⟩:=LM n k ty;refine⟨T,id,u,slot,y,h1,h2,?_⟩;have A:=m cpos B S G I _ n g;rw[w]at A ⊢;refine mI (by show(false ||(backTo cpos (starEach es X.e)).any (·.1))=false;rw[p]<;>rfl) (ll ?_);exact du A λus F z=>by obtain⟨K,H2,c,j,i⟩:=z;exact q B F G H2 x K v us Q c k j i
end
def TC(X:Cx)(id:String)(r:V->List V->Hp->VK->Prop):Prop:=
 ∀(B:PN)(s:Shared)(G:St)(H:Hp)(x:V)(xs:List V)(v:Value)(us:LV)(Q:VK),Inv X B G H s->RelV x v->aZ xs us->r x xs H Q ->
  wx X (call (.builtin id) (v::us)) (EP X B G Q) X.xe s
theorem aZ.one:∀{x:V}{us:LV},aZ [x] us->∃u,us=[u]/\RelV x u
 |_,_,.cons r .nil=>⟨_,rfl,r⟩
theorem aZ.rep(h:aZ xs us):∀k:Nat,aZ (List.replicate k xs).flatten (List.replicate k us).flatten
 |0=>.nil
 |k+1=>by rw[cX,cX,gj,gj];exact aZ.append h (aZ.rep h k)
theorem foldl_rep(i:LV):∀(k:Nat)(a:LV),
  qc (λx s=>x++s) a.toArray (List.replicate k i.toArray)=(a++(List.replicate k i).flatten).toArray
 |0,a=>by simp
 |k+1,a=>by
  have e:a.toArray++i.toArray=(a++i).toArray:=by simp
  have h:(a++i)++(List.replicate k i).flatten=a++(List.replicate (k+1) i).flatten:=by rw[cX,gj,gi]
  rw[<- h,<- foldl_rep i k (a++i),<- e,cX,fC]
section
variable{X:Cx}{B:PN}{G:St}{H:Hp}{s:Shared}{l b:Addr}{xs ys zs:List V}
theorem Inv.lset{i:LV}{t:Nat}(I:Inv X B G H s)(h:H l=some (.lst xs))
  (e:s.heap.get? l=some { cls:=.type "list",data:=.seq i.toArray n }) (a:f i.toArray=z.toArray) (v:aZ ys z) (c:ys.length≤sizeLine) :
  Inv X B G (upd H l (.lst ys)) { s with heap:=s.heap.update l (jO f),toks:=t }:=by
 have q:=PySem.IsL.update e f;rw[a]at q;refine I.write (x:=l) (e:=l) (by rw[h];exact trivial) (.inl rfl) (λm u b k=>(jN s.heap (jO f) (aC b)).trans k) ⟨_,q⟩ ?_;exact⟨c,z,_,v,q⟩
theorem Inv.lnew{t:Nat}(I:Inv X B G H s)(h:aZ ys z)(x:ys.length≤sizeLine) :
  Inv X B G (upd H s.heap.objs.size (.lst ys)) { s with heap:=s.heap.push { cls:=.type "list",data:=.seq z.toArray },toks:=t }:=
 I.laid (λ_ _ q=>bg _ q) (al _) ⟨x,z,0,h,dD _ rfl⟩
theorem Inv.fresh(I:Inv X B G H s):H s.heap.objs.size=none:=I.h.fresh (al _)
theorem Inv.lstM(I:Inv X B G H s)(h:H l=some (.lst xs)):xs.length≤sizeLine/\∃(i:LV)(n:Nat),aZ xs i/\xs.length=i.length/\s.heap.get? l=some { cls:=.type "list",data:=.seq i.toArray n }:=by obtain⟨z,i,n,r,e⟩:=I.h l _ h;exact⟨z,i,n,r,r.length,e⟩
theorem xD(h:n≤sizeLine):pR n=false:=by unfold pR;exact cT (by lia)
end
section
variable{X:Cx}
def Jr:V->List V->Hp->VK->Prop:=λx v H Q=>∃l xs y,x=.ref l/\v=[y]/\H l=some (.lst xs)/\xs.length < sizeLine/\Q .non (upd H l (.lst (xs++[y])))
theorem ou:TC X "list.append" Jr:=by intro B s G H x t v us Q I b f h;obtain⟨l,xs,y,rfl,rfl,a,m,q⟩:=h;cases b;obtain⟨u,rfl,k⟩:=f.one;obtain⟨z,i,n,r,c,e⟩:=I.lstM a;refine i' F.slot_list_append ⟨_,e,rfl⟩ F.entry_list_append (F.args_list_append_2 _ _) (PySem.list_append l i.toArray n u (by rw[a7];lia)) ⟨e,?_⟩;refine⟨.non,_,I.lset (z:=i++[u]) a e (by simp) (r.append (.cons k .nil)) ?_,rfl,q⟩;rw[bx,Bb];lia
def Jq:V->List V->Hp->VK->Prop:=λx v H Q=>∃l b xs zs,x=.ref l/\v=[.ref b]/\H l=some (.lst xs)/\H b=some (.lst zs)/\xs.length+zs.length≤sizeLine/\Q .non (upd H l (.lst (xs++zs)))
theorem Dx:TC X "list.extend" Jq:=by
 intro B s G H x K v us Q I j g h;obtain⟨l,b,xs,zs,rfl,rfl,k,c,S,q⟩:=h;cases j;obtain⟨u,rfl,w⟩:=g.one;cases w;obtain⟨z,t,n,r,y,e⟩:=I.lstM k;obtain⟨P,i,p,d,m,f⟩:=I.lstM c;have a:t.toArray.size+i.toArray.size≤sizeLine:=by rw[a7,a7];lia
 have o:¬(!t.toArray.isEmpty && pR (t.toArray.size+i.toArray.size))=true:=by rw[xD a,Bool.and_false];exact bt
 refine i' F.slot_list_extend ⟨_,e,rfl⟩ F.entry_list_extend (F.args_list_extend_2 _ _)
  (AutoSeq1.list_extend_list_list_0 l t.toArray n b i.toArray p o (by rw[a7];lia) (by lia)) ⟨e,f,?_⟩
 refine⟨.non,_,I.lset (z:=t++i) k e (by simp) (r.append d) ?_,rfl,q⟩;rw[bx];lia
def R7:R2:=λx y H Q=>∃l b xs zs,x=.ref l/\y=.ref b/\H l=some (.lst xs)/\H b=some (.lst zs)/\xs.length+zs.length≤sizeLine/\∀p,H p=none->Q (.ref p) (upd H p (.lst (xs++zs)))
theorem MG:jL X (binaryOp .Add) R7:=by
 intro B s G H x y v u Q I d w h;obtain⟨l,b,xs,zs,rfl,rfl,c,f,j,q⟩:=h;cases d;cases w;obtain⟨z,t,n,r,g,e⟩:=I.lstM c;obtain⟨S,i,o,p,m,a⟩:=I.lstM f;refine PySem.P.add_list e a ?_ (by rw[a7,a7];lia);have k:t.toArray++i.toArray=(t++i).toArray:=by simp
 rw[k];exact⟨.ref _,_,I.lnew (t:=s.toks) (r.append p) (by rw[bx];lia),rfl,q _ I.fresh⟩
def R1:R2:=λx y H Q=>∃l k xs,x=.ref l/\y=.int k/\H l=some (.lst xs)/\-(2 ^ 63)≤k/\k < 2 ^ 63/\xs.length * k.toNat≤sizeLine /\
 ∀p,H p=none->Q (.ref p) (upd H p (.lst (List.replicate k.toNat xs).flatten))
theorem JT(xs:List α)(k:Nat):(List.replicate k xs).flatten.length=k * xs.length:=by
 induction k with
 |zero=>simp
 |succ k i=>rw[cX,gj,bx,i,vq,Bm]
theorem MC:jL X (binaryOp .Mult) R1:=by
 intro B s G H x y v u Q I P A h;obtain⟨l,k,xs,rfl,rfl,S,h1,h2,g,q⟩:=h;cases P;obtain⟨t,rfl⟩:=A;obtain⟨z,i,n,r,K,e⟩:=I.lstM S;have b:i.toArray.size * k.toNat≤sizeLine:=by rw[a7,<- K];exact g
 have c:¬i.toArray.size * k.toNat > (2 ^ 63-1) / 8:=by
  have:(sizeLine:Nat)≤(2 ^ 63-1) / 8:=by decide
  lia
 have f:¬(!Builtin.List.listFitsIndex k)=true:=by rw[fitsIndex_both h1 h2];exact bt
 have o:¬pR (i.toArray.size * k.toNat)=true:=by rw[xD b];exact bt
 have w:qc (λp d=>p++d) #[] (List.replicate (if i.toArray.isEmpty=true then 0 else k.toNat) i.toArray)=(List.replicate k.toNat i).flatten.toArray:=by
  have j:∀m:Nat,qc (λp d=>p++d) #[] (List.replicate m i.toArray)=(List.replicate m i).flatten.toArray:=λm=>by have:=foldl_rep i m [];rw[fD]at this;exact this
  rw[j];cases i with
  |nil=>simp
  |cons a C=>rw[au (by simp)]
 refine EI (T:="list") (U:="int") (by decide) ⟨_,e,rfl⟩ (λs'=>qW s' k t) noFill_list_mul F.fills_int_mul F.slot_int_rmul repeat_list F.slot_int_index.lookup
  (i' F.slot_int_rmul (qW s k t) F.entry_int_rmul (F.args_int_rmul_2 _ _) (int___rmul___int_list k t l i.toArray n)
   ⟨e,rfl,⟨_,e,rfl⟩,i' F.slot_list_mul ⟨_,e,rfl⟩ F.entry_list_mul (F.args_list_mul_2 _ _) (AutoListH.list___mul___list_int_3 l i.toArray n k t f c o) ⟨e,?_⟩⟩)
 rw[w];exact⟨.ref _,_,I.lnew (t:=s.toks) (r.rep k.toNat) (by rw[JT,qy];exact g),rfl,q _ I.fresh⟩
end
section
variable{κ:Type}[DecidableEq κ]
noncomputable def gF(j:List (κ×V))(k:κ):Option V:=(j.find? λv=>decide (v.1=k)).map (·.2)
noncomputable def putK(j:List (κ×V))(k:κ)(v:V):List (κ×V):=
 if (j.any λh=>decide (h.1=k))=true then j.map (λh=>if h.1=k then (h.1,v) else h) else j++[(k,v)]
noncomputable def Tu(j:List (κ×V))(k:κ):List (κ×V):=j.filter λv=>decide (v.1≠k)
theorem im{p:κ×V}{r:List (κ×V)}{k:κ}(e:p.1=k):gF (p::r) k=some p.2:=by simp[gF,jS,e]
theorem gE{p:κ×V}{r:List (κ×V)}{k:κ}(e:¬p.1=k):gF (p::r) k=gF r k:=by simp[gF,jS,e]
theorem xm(k:κ):∀j:List (κ×V),(j.any λv=>decide (v.1=k))=(gF j k).isSome
 | []=>rfl
 |p::r=>by
  rw[gf];by_cases e:p.1=k
  .simp only[im e,mF e,Bool.true_or,Option.isSome_some]
  .rw [gE e,cT e,uY];exact xm k r
theorem kP(j:List (κ×V))(k:κ)(v:V):(putK j k v).length≤j.length+1:=by
 unfold putK;split
 .rw [bn];lia
 .rw [bx,aQ,u_];lia
theorem ko.isSome_eq(r:ko o u):o.isSome=u.isSome:=by
 cases o with
 |none=>cases u with
  |none=>rfl
  |some _=>exact(show False from r).elim
 |some _=>cases u with
  |none=>exact(show False from r).elim
  |some _=>rfl
theorem ko.getD(r:ko o u)(h:RelV d z):RelV (o.getD d) (u.getD z):=by
 cases o with
 |none=>cases u with
  |none=>exact h
  |some _=>exact(show False from r).elim
 |some _=>cases u with
  |none=>exact(show False from r).elim
  |some _=>exact r
theorem KV.val{j:List (κ×V)}{v:List (κ×Value)}(r:KV j v)(k:κ):ko (gF j k) (valueAt v k):=by
 unfold KV at r;induction r with
 |nil=>exact True.intro
 | @cons p q ps qs h t i=>
  obtain⟨h1,h2⟩:=h;by_cases e:p.1=k
  .have x:q.1=k:=h1.symm.trans e;have b:valueAt (q::qs) k=some q.2:=by simp[valueAt,jS,x]
   rw[im e,b];exact h2
  .have x:¬q.1=k:=λz=>e (h1.trans z);have b:valueAt (q::qs) k=valueAt qs k:=by simp[valueAt,jS,x]
   rw[gE e,b];exact i
theorem KV.any(r:KV j z)(k:κ):(j.any λv=>decide (v.1=k))=z.any λv=>decide (v.1=k):=by
 unfold KV at r;induction r with
 |nil=>rfl
 |cons h t i=>rw[gf,gf,i,h.1]
theorem KV.repl(r:KV j N)(k:κ)(x:RelV y u) :
  KV (j.map λv=>if v.1=k then (v.1,y) else v) (N.map λv=>if v.1=k then (v.1,u) else v):=by
 unfold KV at r ⊢;induction r with
 |nil=>exact .nil
 | @cons p q ps qs h t i=>
  rw[aE,aE];refine .cons ?_ i;obtain⟨h1,h2⟩:=h;by_cases e:p.1=k
  .rw [am e,am (h1.symm.trans e)];exact⟨h1,x⟩
  .rw [au e,au (λz=>e (h1.trans z))];exact⟨h1,h2⟩
theorem KV.put(r:KV j z)(k:κ)(h:RelV y u):KV (putK j k y) (stored z k u):=by
 unfold putK stored;rw[r.any k];by_cases e:(z.any λv=>decide (v.1=k))=true
 .rw [am e,am e];exact r.repl k h
 .rw [au e,au e];exact Paired.snoc r ⟨rfl,h⟩
theorem KV.length(r:KV j z):j.length=z.length:=Paired.length r
end
variable{w:World}{u:Value}
theorem o8(r:RelV (kV k) u):(cq P w).is k u=true:=by
 cases k with
 |inl i=>obtain⟨t,e⟩:=(show ∃t,u=Value.int i t from r);subst e;exact xJ P w i t
 |inr x=>obtain⟨t,e⟩:=(show ∃t,u=Value.str x t from r);subst e;exact xI P w x t
theorem uf:∀{ks:List cj}{us:LV},aZ (ks.map kV) us->ItemsAre (cq P w) ks us
 | [],_,r=>by rw[gc]at r;cases r;exact .nil
 |k::ks,_,r=>by
  rw[aE]at r;cases r with
  |cons h t=>exact .cons (o8 h) (uf t)
abbrev KT(H:Hp):List (List cj×V)->List (List cj×Addr×Value)->Prop:=Paired λp q=>p.1=q.1/\H q.2.1=some (.tup (p.1.map kV))/\RelV p.2 q.2.2
theorem KT.val{H:Hp}{j:List (List cj×V)}{xs:List (List cj×Addr×Value)}(r:KT H j xs)(k:List cj):ko (gF j k) ((atKey xs k).map (·.2)):=by
 induction r with
 |nil=>exact True.intro
 | @cons p q ps qs h t i=>
  obtain⟨h1,_,h2⟩:=h;by_cases e:p.1=k
  .have x:q.1=k:=h1.symm.trans e;have b:atKey (q::qs) k=some q.2:=by simp[atKey,jS,x]
   rw[im e,b];exact h2
  .have x:¬q.1=k:=λz=>e (h1.trans z);have b:atKey (q::qs) k=atKey qs k:=by simp[atKey,jS,x]
   rw[gE e,b];exact i
variable{H:Hp}{j:List (List cj×V)}{xs:List (List cj×Addr×Value)}{y:V}
theorem KT.repl(r:KT H j xs)(k:List cj)(a:RelV y u) :
  KT H (j.map λv=>if v.1=k then (v.1,y) else v) (xs.map (putAt k u)):=by
 induction r with
 |nil=>exact .nil
 | @cons p q ps qs h t i=>
  rw[aE,aE];refine .cons ?_ i;obtain⟨h1,h2,x⟩:=h;unfold putAt;by_cases e:p.1=k
  .rw [am e,am (h1.symm.trans e)];exact⟨h1,h2,a⟩
  .rw [au e,au (λz=>e (h1.trans z))];exact⟨h1,h2,x⟩
theorem KT.put(r:KT H j xs)(k:List cj)(x:H b=some (.tup (k.map kV)))(h:RelV y u) :
  KT H (putK j k y) (storedH xs k b u):=by
 have e:(j.any λv=>decide (v.1=k))=(atKey xs k).isSome:=by rw[xm,(r.val k).isSome_eq,Aw]
 unfold putK storedH;rw[e];by_cases q:(atKey xs k).isSome=true
 .rw [am q,am q];exact r.repl k h
 .rw [au q,au q];exact Paired.snoc r ⟨rfl,x,h⟩
theorem KT.keeps(r:KT H j xs)(h:∀b ys,H b=some (.tup ys)->H' b=some (.tup ys)):KT H' j xs:=
 Paired.mapP r λ_ _ z=>⟨z.1,h _ _ z.2.1,z.2.2⟩
section
variable{P:Program}{w:World}{H:Hp}{h:Heap}{a:Addr}
theorem rd_of{u:HO}(ok:kq P w H h)(e:Rd H a u):cM P w H h a u:=e.ok ok
theorem uq{j:List (cj×V)}(ok:kq P w H h)(e:Rd H a (.dK j)):j.length≤sizeLine/\(a == sysModules)=false/\∃v,KV j v/\h.DictOf (cq P w) a v:=
 show cM P w H h a (.dK j) from rd_of ok e
theorem K'{j:List (cj×V)}(ok:kq P w H h)(e:H a=some (.dK j)):j.length≤sizeLine/\(a == sysModules)=false/\∃v,KV j v/\h.DictOf (cq P w) a v:=uq ok (.inl e)
theorem ow(ok:kq P w H h)(e:H a=some (.tup (ks.map kV))):(tupleKind (cq P w)).is h ks a:=by obtain⟨_,i,r,o,h1,⟨h2,n,x⟩,_⟩:=(show cM P w H h a (.tup (ks.map kV)) from ok a _ e);exact⟨o,i.toArray,n,h1,h2,x,by simpa using uf r⟩
theorem uo(ok:kq P w H h)(e:Rd H a (.dT j)):j.length≤sizeLine/\(a == sysModules)=false /\
  ∃xs,KT H j xs/\h.DictOfH (tupleKind (cq P w)) a xs:=by
 obtain⟨z,y,xs,r,o,es,k,h1,h2,f,b,c⟩:=(show cM P w H h a (.dT j) from rd_of ok e);refine⟨z,y,xs,r,o,es,k,h1,h2,f,b,λx s=>?_,c⟩;have all:∀{l:List (List cj×V)}{m:List (List cj×Addr×Value)},KT H l m->∀x ∈ m,(tupleKind (cq P w)).is h x.1 x.2.1:=by
  intro l m q;induction q with
  |nil=>intro x s;exact nomatch s
  | @cons p q ps qs n t i=>
   intro x s;rcases aP.mp s with e|s
   .subst e;exact ow ok (by rw[<- n.1];exact n.2.1)
   .exact i x s
 exact all r x s
theorem Qd(ok:kq P w H h)(e:H a=some (.dT j)):j.length≤sizeLine/\(a == sysModules)=false /\
  ∃xs,KT H j xs/\h.DictOfH (tupleKind (cq P w)) a xs:=uo ok (.inl e)
end
def kr(H:Hp)(a:Addr)(y:V)(r:Option V):Prop:=
 (∃j k,Rd H a (.dK j)/\y=kV k/\r=gF j k)\/∃j k b,Rd H a (.dT j)/\y=.ref b/\H b=some (.tup (k.map kV))/\r=gF j k
def yw(H:Hp)(a:Addr)(y v:V)(H':Hp):Prop:=
 (∃j k,H a=some (.dK j)/\y=kV k/\j.length < sizeLine/\H'=upd H a (.dK (putK j k v))) \/
 ∃j k b,H a=some (.dT j)/\y=.ref b/\H b=some (.tup (k.map kV))/\j.length < sizeLine/\H'=upd H a (.dT (putK j k v))
theorem kr.k{H:Hp}{a:Addr}{j:List (cj×V)}{k:cj}(e:H a=some (.dK j)):kr H a (kV k) (gF j k):=.inl ⟨j,k,.inl e,rfl,rfl⟩
theorem kr.t{H:Hp}{a b:Addr}{j:List (List cj×V)}{k:List cj}(e:H a=some (.dT j))(h:H b=some (.tup (k.map kV))):kr H a (.ref b) (gF j k):=.inr ⟨j,k,b,.inl e,rfl,h,rfl⟩
theorem yw.k{H:Hp}{a:Addr}{j:List (cj×V)}{k:cj}{v:V}(e:H a=some (.dK j))(h:j.length < sizeLine):yw H a (kV k) v (upd H a (.dK (putK j k v))):=.inl ⟨j,k,e,rfl,h,rfl⟩
theorem yw.t{H:Hp}{a b:Addr}{j:List (List cj×V)}{k:List cj}{v:V}(e:H a=some (.dT j))(h:H b=some (.tup (k.map kV)))(l:j.length < sizeLine) :
  yw H a (.ref b) v (upd H a (.dT (putK j k v))):=.inr ⟨j,k,b,e,rfl,h,l,rfl⟩
section
variable{X:Cx}{B:PN}{G:St}{H:Hp}{s:Shared}{a:Addr}{y v:V}{u r:Value}{o:Option V}{A:Around}{E:VP}
theorem Inv.big(I:Inv X B G H s):sysModules < s.heap.objs.size:=by have h:mainGlobals < s.heap.objs.size:=(I.mod.glob.keeps I.bk).lt;exact lq (by decide) h
theorem ur(q:A.units+1 < cLine)(I:Inv X B G H s)(g:kr H a y (some v))(c:RelV y u)(h:∀x s',Inv X B G H s'->RelV v x->Q x s') :
  wpAny (model X.p X.w) A (getItem (.ref a) u) Q E s:=by
 rcases g with ⟨j,k,e,n,l⟩|⟨j,k,b,e,n,m,l⟩
 .subst n;obtain⟨z,hd,i,r,d⟩:=uq I.h e;obtain⟨x,hw,w⟩:=ko.some_of (v:=v) (o:=valueAt i k) (by rw[l];exact r.val k);exact wpAny_getItem_of (o8 c) d.mapOf hw (h x _ (I.tok _) w)
 .subst n;cases (show u=Value.ref b from c);obtain⟨z,hd,xs,r,d⟩:=uo I.h e;obtain⟨x,hw,w⟩:=ko.some_of (v:=v) (o:=(atKey xs k).map (·.2)) (by rw[l];exact r.val k);obtain⟨p,t,f⟩:=eQ.mp hw;refine wpAny_getItem_heap (rc q) (ow I.h m) d t ?_;rw[f];exact h x _ (I.tok _) w
theorem Sv(c:A.units+1 < cLine)(I:Inv X B G H s)(g:kr H a y o)(n:RelV y u)(h:∀s',Inv X B G H s'->Q (.bool o.isSome) s') :
  wpAny (model X.p X.w) A (compareOp .In u (.ref a)) Q E s:=by
 rcases g with ⟨j,k,e,x,l⟩|⟨j,k,b,e,x,f,l⟩
 .subst x;obtain⟨z,hd,v,r,d⟩:=uq I.h e;refine wpAny_in_of (o8 n) hd d.mapOf ?_;rw[<- (r.val k).isSome_eq,<- l];exact h _ (I.tok _)
 .subst x;cases (show u=Value.ref b from n);obtain⟨z,hd,xs,r,d⟩:=uo I.h e;refine wpAny_in_heap (rc c) (ow I.h f) hd d ?_;have q:=(r.val k).isSome_eq;rw[Aw]at q;rw[<- q,<- l];exact h _ (I.tok _)
theorem wD{t:Nat}(I:Inv X B G H s)(m:QA (H a))(f:gK a s.heap h')(k:∃q,h'.get? a=some q)(n:cM X.p X.w (upd H a N) h' a N) :
  Inv X B G (upd H a N) { s with heap:=h',toks:=t }:=
 I.write (x:=a) (e:=a) m (.inl rfl) (λb q h z=>(f.2 b h).trans z) k n
theorem Hi{P:Program}{w:World}{H':Hp}{h':Heap}{j:List (cj×V)}{v:List (cj×Value)}(z:j.length≤sizeLine)(hd:(a == sysModules)=false)(r:KV j v)(d:h'.DictOf (cq P w) a v) :
  cM P w H' h' a (.dK j):=⟨z,hd,v,r,d⟩
theorem DU{H':Hp}{Q:Unit->Shared->Prop}(N:A.units+1 < cLine)(I:Inv X B G H s)(g:yw H a y v H')(K:RelV y u)(F:RelV v r)(h:∀s',Inv X B G H' s'->Q () s') :
  wpAny (model X.p X.w) A (setItem (.ref a) u r) Q E s:=by
 rcases g with ⟨j,k,e,t,l,m⟩|⟨j,k,b,e,t,o,l,m⟩
 .subst t m;obtain⟨z,hd,R,x,f⟩:=K' I.h e;have i:R.length≤sizeLine:=by rw[<- x.length];exact z
  have p:(putK j k v).length≤sizeLine:=by have:=kP j k v;lia
  refine wpAny_setItem_pairs (hsz:=i) (o8 K) f λh' d w=>h _ ?_;have M:∃q,h'.get? a=some q:=let ⟨q,_,_,n,_⟩:=d;⟨q,n⟩
  exact wD I (by rw[e];exact True.intro) w M (Hi p hd (x.put k F) d)
 .subst t m;cases (show u=Value.ref b from K);obtain⟨z,hd,xs,x,f⟩:=Qd I.h e;have i:xs.length≤sizeLine:=by rw[<- Paired.length x];exact z
  have p:(putK j k v).length≤sizeLine:=by have:=kP j k v;lia
  refine wpAny_setItem_heap (hsz:=i) (rc N) (ow I.h o) f λh' d w=>h _ ?_;obtain⟨q,es,P,n,h2,C,D,_,L⟩:=d;refine wD I (by rw[e];exact True.intro) w ⟨q,n⟩ ⟨p,hd,_,(x.put k o F).keeps λc ys S=>?_,q,es,P,n,h2,C,D,L⟩;rw[aq (PF S e (λz=>nomatch z))];exact S
end
noncomputable def O8(td ty tv:TE):TS:=λD G H=>tv G H λv I=>td G I λx H2=>ty G H2 λy e=>∃a h,x=.ref a/\yw e a y v h/\D.nx G h
section
variable{X:Cx}{o i e value:Expr}{q pos' tpos:Pos}{td ty tv:TE}
theorem Cc(p:X.A.units+1 < cLine)(m:PE X o td)(hi:PE X i ty)(d:PE X value tv)(t:swapsWith value (some (.Subscript o i pos')) q.line X.e=pure false) :
  PS X (.Assign [.Subscript o i pos'] value q) (O8 td ty tv):=by
 intro B s G H D e h;refine wpAny_Assign_Subscript (du (d B s G H _ e h) λr P ⟨v,I,k,S,w⟩=>du (m B P G I _ k w) λu A ⟨x,H2,f,F,j⟩=>du (hi B A G H2 _ f j) λE L z=>?_) t;obtain⟨y,C,b,K,a,n,ex,g,l⟩:=z;subst ex;obtain rfl:u=Value.ref a:=F;exact DU p b g K S λM c=>⟨G,n,c,l⟩
end
theorem Hj(h:Heap)(b:sysModules < h.objs.size):cM P w H (h.push { cls:=.type "dict",data:=.dict #[] }) h.objs.size (.dK []):=
 ⟨ck _,oU.mpr (aC (bo b)),[],.nil,Heap.DictOf.new h⟩
theorem Hh(h:Heap)(b:sysModules < h.objs.size):cM P w H (h.push { cls:=.type "dict",data:=.dict #[] }) h.objs.size (.dT []):=
 ⟨ck _,oU.mpr (aC (bo b)),[],.nil,_,#[],0,dD _ rfl,⟨rfl,rfl,rfl⟩,rfl,rfl,A6⟩
def L5:TE:=λ_ H Q=>∀p,H p=none->Q (.ref p) (upd H p (.dK []))
def L3:TE:=λ_ H Q=>∀p,H p=none->Q (.ref p) (upd H p (.dT []))
section
variable{X:Cx}{q:Pos}
theorem F0:PE X (.Dict [] [] q) L5:=λB s G H Q I h=>
 Ek ⟨.ref s.heap.objs.size,_,I.laid (a:=s.heap.objs.size) (o:=.dK []) (t':=s.toks) (λ_ _ x=>bg _ x) (al _) (Hj s.heap I.big),rfl,h _ (I.h.fresh (al _))⟩
theorem FZ:PE X (.Dict [] [] q) L3:=λB s G H Q I h=>
 Ek ⟨.ref s.heap.objs.size,_,I.laid (a:=s.heap.objs.size) (o:=.dT []) (t':=s.toks) (λ_ _ x=>bg _ x) (al _) (Hh s.heap I.big),rfl,h _ (I.h.fresh (al _))⟩
end
abbrev VV:List (V×V)->List (Value×Value)->Prop:=Paired λp q=>RelV p.1 q.1/\RelV p.2 q.2
structure M1(X:Cx)(o:Expr)(m:Str)(apos:Pos)(e:Expr)(cpos:Pos):Prop where
 base:attributeBase o m X.e (eval o X.e)=eval o X.e
 few:((backTo cpos (starEach [e] X.e)).all (fun x=>!x.1) && (backToKw cpos (keywordEach [] X.e)).all (fun x=>x.1.isSome)
  && decide (([e]:Ab).length+([]:List Keyword).length+(if ([]:List Keyword).isEmpty then 0 else 1) < 30))=true
 line:(apos.endLine == cpos.line)=true
 trees:backTo cpos (starEach [e] X.e)=[(false,eval e X.e)]
structure M2(X:Cx)(o:Expr)(m:Str)(apos:Pos)(e f:Expr)(cpos:Pos):Prop where
 base:attributeBase o m X.e (eval o X.e)=eval o X.e
 few:((backTo cpos (starEach [e,f] X.e)).all (fun x=>!x.1) && (backToKw cpos (keywordEach [] X.e)).all (fun x=>x.1.isSome)
  && decide (([e,f]:Ab).length+([]:List Keyword).length+(if ([]:List Keyword).isEmpty then 0 else 1) < 30))=true
 line:(apos.endLine == cpos.line)=true
 trees:backTo cpos (starEach [e,f] X.e)=[(false,eval e X.e),(false,eval f X.e)]
def SS(H:Hp)(a:Addr):Prop:=(∃j,Rd H a (.dK j))\/∃j,Rd H a (.dT j)
variable{B:PN}{G:St}{s:Shared}
theorem zm(I:Inv X B G H s)(d:SS H a) :
  s.TypeIs (.ref a) "dict"/\(∀b,Value.ref a=.ref b->∃o,s.heap.get? b=some o/\o.dict=none)/\(a == sysModules)=false:=by
 rcases d with ⟨j,e⟩|⟨j,e⟩
 .obtain⟨_,hd,v,_,h⟩:=uq I.h e;refine⟨h.typeIs,λb q=>?_,hd⟩;cases q;obtain⟨o,_,_,h1,h2,_⟩:=h;exact⟨o,h1,h2.2.1⟩
 .obtain⟨_,hd,xs,_,h⟩:=uo I.h e;refine⟨h.typeIs,λb q=>?_,hd⟩;cases q;obtain⟨o,_,_,h1,h2,_⟩:=h;exact⟨o,h1,h2.2.1⟩
section
variable{X:Cx}{B:PN}{G:St}{H:Hp}{s:Shared}{a:Addr}{y d:V}{u r:Value}{o:Option V}{A:Around}{E:VP}
theorem Nm(c:A.units+1 < cLine)(I:Inv X B G H s)(g:kr H a y o)(n:RelV y u)(h:∀w s',Inv X B G H s'->RelV (o.getD .non) w->Q w s') :
  wpAny (model X.p X.w) A (call (.builtin "dict.get") [.ref a,u]) Q E s:=by
 rcases g with ⟨j,k,e,x,l⟩|⟨j,k,b,e,x,f,l⟩
 .subst x;obtain⟨z,hd,v,r,d⟩:=uq I.h e;refine qX li d.typeIs pU (Aj _ _) (meets_dict_get (cq X.p X.w) a (o8 n) hd) ⟨_,d.mapOf,h _ _ (I.tok _) ?_⟩;rw[l];exact(r.val k).getD rfl
 .subst x;cases (show u=Value.ref b from n);obtain⟨z,hd,xs,r,d⟩:=uo I.h e;refine qX li d.typeIs pU (Aj _ _) (meetsH_dict_get (tupleKind (cq X.p X.w)) a b hd) ⟨rc c,k,xs,ow I.h f,d,h _ _ (I.tok _) ?_⟩;rw[l];exact(r.val k).getD rfl
theorem Nl(p:A.units+1 < cLine)(I:Inv X B G H s)(g:kr H a y o)(m:RelV y u)(c:RelV d r)(h:∀w s',Inv X B G H s'->RelV (o.getD d) w->Q w s') :
  wpAny (model X.p X.w) A (call (.builtin "dict.get") [.ref a,u,r]) Q E s:=by
 rcases g with ⟨j,k,e,f,l⟩|⟨j,k,b,e,f,t,l⟩
 .subst f;obtain⟨z,hd,v,x,n⟩:=uq I.h e;refine qX li n.typeIs pU (Ak _ _ _) (meets_dict_get_default (cq X.p X.w) a (o8 m) hd r) ⟨_,n.mapOf,h _ _ (I.tok _) ?_⟩;rw[l];exact(x.val k).getD c
 .subst f;cases (show u=Value.ref b from m);obtain⟨z,hd,xs,x,n⟩:=uo I.h e;refine qX li n.typeIs pU (Ak _ _ _) (meetsH_dict_get_default (tupleKind (cq X.p X.w)) a b hd r) ⟨rc p,k,xs,ow I.h t,n,h _ _ (I.tok _) ?_⟩;rw[l];exact(x.val k).getD c
end
noncomputable def L7(td ty:TE):TE:=λG H Q=>td G H λx I=>∃a,x=.ref a/\SS I a/\ty G I λy H2=>∃o,kr H2 a y o/\Q (o.getD .non) H2
noncomputable def L6(td ty tx:TE):TE:=λG H Q=>td G H λx I=>∃a,x=.ref a/\SS I a/\ty G I λy H2=>tx G H2 λz h=>∃o,kr h a y o/\Q (o.getD z) h
section
variable{X:Cx}{o e f:Expr}{apos cpos:Pos}{td ty tx:TE}
theorem F6(p:X.A.units+1 < cLine)(t:PE X o td)(c:PE X e ty)(m:M1 X o "get" apos e cpos):PE X (.Call (.Attribute o "get" apos) [e] [] cpos) (L7 td ty):=by intro B s G H Q n h;refine yN m.base m.few m.line uQ li Ai (du (t B s G H _ n h) λu j z=>?_);obtain⟨x,I,k,w,a,ex,d,q⟩:=z;subst ex;obtain rfl:u=Value.ref a:=w;obtain⟨l,S,_⟩:=zm k d;refine⟨l,S,?_⟩;rw[m.trees];refine mI rfl (ll (fB (du (c B j G I _ k q) λF P ⟨y,H2,f,i,K,g,v⟩=>iT ?_)));exact Nm p f g i λC A b r=>⟨_,H2,b,r,v⟩
theorem F5(i:X.A.units+1 < cLine)(w:PE X o td)(q:PE X e ty)(v:PE X f tx)(m:M2 X o "get" apos e f cpos):PE X (.Call (.Attribute o "get" apos) [e,f] [] cpos) (L6 td ty tx):=by
 intro B s G H Q n h;refine yN m.base m.few m.line uQ li Ai (du (w B s G H _ n h) fun u C j=>?_);obtain⟨x,I,k,K,a,ex,d,l⟩:=j;subst ex;obtain rfl:u=Value.ref a:=K;obtain⟨E,L,_⟩:=zm k d;refine⟨E,L,?_⟩;rw [m.trees];refine mI rfl (ll (fB (du (q B C G I _ k l) fun N D ⟨y,H2,c,P,S⟩=>
  fB (du (v B D G H2 _ c S) λM T ⟨z,b,t,A,R,g,F⟩=>iT ?_))))
 exact Nl i t g P A λW V p r=>⟨_,b,p,r,F⟩
end
end L2
namespace Att
open PySem PySem.W PySem.Calls PyProof.Rows
theorem pB:∀(s:List Int)(v:LV),WellAll P h v (s.map WData.int)->IntsAre v s:=by
 intro s;induction s with
 |nil=>intro v w;rw[gc]at w;cases w;exact .nil
 |cons n s i=>
  intro v w;rw[aE]at w;cases w with
  |cons a b=>cases a;exact .cons _ _ (i _ b)
theorem Dn{l:OpenLaw}(t:l.most=some n)
  (p:l.row.toRowW.claim.pre z=true) (w:WellAll P h N z) :
  ∃a v s,N=[Value.ref a]/\z=[WData.list (s.map WData.int)]/\h.get? a=some { cls:=.type "list",data:=.seq v.toArray }/\IntsAre v s/\s.length≤n:=by
 have b:WShape.hasAll [] z [.list .int]=true:=(pre_splitW p).1;have c:l.pre.holds [] { args:=z }=true:=(pre_splitW p).2;obtain⟨d,r,rfl,h1,h2⟩:=hasAllW_cons b;obtain rfl:=hasAllW_nil h2;obtain⟨xs,rfl,m⟩:=hasW_list h1;obtain⟨s,rfl⟩:=items_int m;have e:s.length≤n:=by
  unfold OpenLaw.pre at c;have k:(WTm.not (.lt (.lit (.int (n:Int))) (.len (.arg 0)))).holds [] { args:=[.list (s.map .int)] }=true:=by have k:=(holds_andW c).1;rw[t]at k;exact k
  have f:=condW_of k (w_not (w_lt w_lit (w_len_list (w_arg rfl))));rw[bn]at f;refine Nat.le_of_not_lt λq=>?_;have u:(n:Int) < ((s.length:Nat):Int):=by lia
  first
   |(rw[mF u]at f;exact absurd f (by decide))
   |(simp at f;lia)
 cases w with
 |cons g i=>
  cases i;cases g with
  |list o x=>exact⟨_,_,s,rfl,rfl,o,pB s _ x,e⟩
theorem Dr(l:OpenLaw)(a:List WData):l.row.toRowW.claim.post a (.bool true) a=true:=
 postW_of (r:=l.row.toRowW) (X:=(true == true))
  (show WShape.has [] (.bool true) .bool=true by first|rfl|decide|simp[WShape.has,WShape.arms,WShape.armsAll])
  (show(WTm.eq .res (.lit (.bool true))).value [] { args:=a,res:=some (.bool true),after:=a }=some (.bool (true == true)) from w_eq_bool (w_res rfl) w_lit) rfl
theorem attach_call{l:OpenLaw}
  (I:l.most=some n) (q:d.params.defaults=[])
  (call:∀(w:World) (h s:Shared) (mg j:SV) (x:Addr) (o:Obj) (y k c:Value) (a:Addr) (v:LV) (m:List Int),
   Ground z N [] XP w h mg j s.heap->YP w s.heap ->
   s.heap.get? x=some o->o.data=.func (docDef d.name d.params d.body d.scope y k c)->s.heap.CodeRec k d.name->mg d.name=some (.ref x) ->
   s.heap.get? a=some { cls:=.type "list",data:=.seq v.toArray }->IntsAre v m->m.length≤n->s.gens=#[] ->
   codeAny (model l.prog w) callerA (.call (.ref x) ⟨[.ref a],[]⟩) (λr s'=>r=.ok (.ret (.bool true))/\OldK s.heap s'.heap/\s'.os=s.os/\AllBare s'.gens) s) :
  WalkO z N XP YP l.row.toRowW d [] (λf v=>PySem.call f v):=by
 intro w h s mg j G K x o y k c V kV L hd t D g B H F R p S Q u C;obtain rfl:V=.none:=Dflts.none D q;obtain rfl:kV=.none:=Dflts.noKw D;obtain⟨a,v,m,rfl,rfl,b,i,e⟩:=Dn I p u;refine enter_call (kF (call w h s mg j x o y k c a v m G K L (fd_plain hd) t g b i e B) λr s' M=>?_);obtain⟨rfl,h2,P,A⟩:=M;exact⟨.inl ⟨.bool true,.bool true,[],rfl,λ_=>rfl,.bool true,Dr l _,λ_=>⟨List.Pairwise.nil,λ_ E=>(nomatch E)⟩⟩,h2,P,A⟩
end Att
namespace L2
open PySem PySem.Spec PyProof.Rows
theorem tY:∀{v:LV}{s:List Int},IntsAre v s->aZ (s.map V.int) v
 |_,_,.nil=>.nil
 |_,_,.cons n t h=>.cons ⟨t,rfl⟩ (tY h)
def D8(H:Hp):Prop:=∀b,H b=none\/∃o xs,H b=some (.frz o (.lst xs))
set_option tactic.hygienic true in
theorem Gx{P:Program}{w:World}{K:FG}{mg W:SV}{CX:D9}{k:Nat}{N a:Addr}{fd:FuncData}{x:Str}{sp:Sp}{f:Shared}{j:LV}{G:List Int}
  (KX:K.In f.heap) (B:f.heap.Ns mainGlobals mg) (t:f.heap.Ns builtinsNs W) (Q:∀x:Str,x≠"__name__"->W x=bootBuiltins x) (A:f.heap.NoLimit) (hg:f.gens=#[])
  (L:f.heap.get? a=some { cls:=.type "list",data:=.seq j.toArray }) (hi:IntsAre j G) (hl:G.length≤sizeLine) (hr:Room k callerA)
  (F:∀base:Heap,K.In base->base.Ns mainGlobals mg->FnOk P w K mg base CX k N fd [x] sp) (i:∀(s:Shared)(u:Value),BindsTo s fd ⟨[u],[]⟩ [(x,u)])
  (T:∀H:Hp,D8 H->iO K H a (G.map V.int)->sp [.ref a] H (λv _=>v=.bl true) λ_ _ _=>False)
  (X:∀H e s',CX [] H f (λ_ _ _=>False) e s'->False) :
  codeAny (model P w) callerA (.call (.ref N) ⟨[.ref a],[]⟩) (λr s'=>r=.ok (.ret (.bool true))/\OldK f.heap s'.heap/\s'.os=f.os/\AllBare s'.gens) f:=by
 have rv:=tY hi;have E:=hi.length;have g:∀H:Hp,D8 H->iO K H a (G.map V.int)->kq P w H f.heap->(∀b,H b≠none->b=a)->(H a≠none->K.lookup a=none) ->
   codeAny (model P w) callerA (.call (.ref N) ⟨[.ref a],[]⟩) (λr s'=>r=.ok (.ret (.bool true))/\OldK f.heap s'.heap/\s'.os=f.os/\AllBare s'.gens) f:=by
  intro H hO hS C hA hK;have c:∀{b:Addr}{o:Obj},f.heap.get? b=some o->H b=none->(wm f.heap H).get? b=some o:=λe n=>G0 e n
  have Z:∀{b:Addr}{o:Obj}{es:Array DictEntry}{y:Nat},f.heap.get? b=some o->o.data=.dict es y->H b=none:=λ{b o es y} e d=>by
   cases q:H b with
   |none=>rfl
   |some u=>have M:b=a:=hA b (by rw[q];simp);subst M;rw[L]at e;cases e;have d':Data.seq j.toArray _=Data.dict es y:=d;cases d'
  have p:∀{b:Addr}{m:SV},f.heap.Ns b m->(wm f.heap H).Ns b m:=fun {b m} ⟨o,es,y,e,d,r⟩=>⟨o,es,y,c e (Z e d),d,r⟩;have S:K.In (wm f.heap H):=fun b o e=>c (KX b o e) (by
   cases q:H b with
   |none=>rfl
   |some u=>have M:b=a:=hA b (by rw[q];simp);subst M;rw[hK (by rw[q];simp)]at e;cases e)
  have hM:Mod K mg (wm f.heap H):=⟨S,p B,⟨W,p t,Q⟩,let ⟨mc,h1,h2⟩:=A;⟨mc,p h1,h2⟩⟩;have e0:Env0 P w K mg (wm f.heap H) callerA [] f H:=⟨rfl,hM,λb o e=>JL e,vp (DH _ _),trivial,λb t=>absurd (show b ∈ ([]:List Addr) from t) (by simp),C,.of_eq hg⟩;refine kF ((F _ S (p B)).run callerA [] f H ⟨[.ref a],[]⟩ [.ref a] [.ref a] _ _ hr e0 (i f (.ref a)) (.cons rfl .nil) (T H hO hS)) λr s' h=>?_;cases r with
  |error e=>exact(X H e s' h).elim
  |ok fl=>
   cases fl with
   |next=>exact False.elim h
   |brk=>exact False.elim h
   |cont=>exact False.elim h
   |ret u=>
    obtain⟨v,H',os,l,un,D,r',q⟩:=h;have q':v=.bl true:=q;subst q';obtain rfl:u=Value.bool true:=r';refine⟨rfl,OldK.of_keep λb o e=>?_,os,l⟩;cases q:H b with
    |none=>exact un.keep b o e q (by intro z;exact absurd (show b ∈ ([]:List Addr) from z) (by simp)) (by simp)
    |some u=>
     rcases hO b with z|⟨ob,xs,z⟩
     .rw [q]at z;cases z
     .have z2:=un.frzs b ob _ z;obtain⟨e1,_⟩:=C b _ z;obtain⟨e2,_⟩:=D b _ z2;rw[e]at e1;cases e1;exact e2
 cases R:K.lookup a with
 |some o=>have e:=KX a o R;rw[L]at e;cases e;refine g (λ_=>none) (λ_=>.inl rfl) (.inr ⟨_,j.toArray,_,R,rfl,rfl,rfl,by rw[a7,E];exact hl,by simpa using rv⟩) (λb u z=>by have I:(none:Option HO)=some u:=z;cases I) (λb z=>absurd rfl z) λz=>absurd rfl z
 |none=>
  refine g (λb=>if b=a then some (.frz { cls:=.type "list",data:=.seq j.toArray } (.lst (G.map V.int))) else none) (λb=>?_) (.inl (.inr ⟨{ cls:=.type "list",data:=.seq j.toArray },am rfl⟩)) (λb u z=>?_) (λb z=>?_) λ_=>R
  .by_cases t:b=a
   .exact .inr ⟨_,_,am t⟩
   .exact .inl (au t)
  .by_cases t:b=a
   .have I:=(am t).symm.trans z;cases I;subst t;exact⟨L,by rw[bn];exact hl,j,_,rv,L⟩
   .have I:=(au t).symm.trans z;cases I
  .by_cases t:b=a
   .exact t
   .exact absurd (au t) z
noncomputable abbrev TD{K:FG}(_:K.In h):FG:=K
theorem IN{l:BB}{n k:Nat}{q:Program}{c:LS}{B:(SV)->Heap->Prop}{P:World->Heap->Prop}{d:DefRec}{K:Params->FG}{CX:World->D9}{sp:World->Sp}{x:Str}
  (W:l.most=some n) (y:n≤sizeLine) (p:d.params.defaults=[]) (Z:Room k callerA)
  (N:∀(w:World)(h:Heap),P w h->(K w.params).In h)
  (F:∀(w:World) (mg:SV) (r:Addr) (h:Heap),(K w.params).In h->h.Ns mainGlobals mg->mg d.name=some (.ref r) ->
   ∃fd:FuncData,(∀(s:Shared)(u:Value),BindsTo s fd ⟨[u],[]⟩ [(x,u)]) /\
    ∀base:Heap,(K w.params).In base->base.Ns mainGlobals mg->FnOk l.prog w (K w.params) mg base (CX w) k r fd [x] (sp w))
  (z:∀(w:World)(H:Hp)(a:Addr)(t:List Int),t.length≤n->D8 H->iO (K w.params) H a (t.map V.int)->sp w [.ref a] H (λv _=>v=.bl true) λ_ _ _=>False)
  (C:∀(w:World)(H:Hp)(s:Shared)(e:Value)(s':Shared),CX w [] H s (λ_ _ _=>False) e s'->False) :
  Bz q c B P l.row.toRowW d [] (λf A=>PySem.call f A):=by
 refine Att.attach_call W p λw S m mg mb r o pm cd E a A t G D ho hd R g j i b T=>?_;have X:=N w _ D;obtain⟨fd,Q,I⟩:=F w mg r _ X G.T.g g;exact Gx X G.T.g G.T.b G.T.builtins G.T.nolimit T j i (aF b y) Z I Q (λH L M=>z w H a t b L M) λH e s'=>C w H m e s'
theorem E8{l:BB}{n k:Nat}{q:Program}{o:LS}{X:(SV)->Heap->Prop}{P:World->Heap->Prop}{d:DefRec}{K:Params->FG}{CX:D9}{sp:FG->Sp}{x:Str}
  (i:l.most=some n) (m:n≤sizeLine) (c:d.params.defaults=[]) (j:Room k callerA)
  (g:∀(w:World)(h:Heap),P w h->(K w.params).In h)
  (F:∀(w:World) (mg:SV) (r:Addr) (h:Heap),(K w.params).In h->h.Ns mainGlobals mg->mg d.name=some (.ref r) ->
   ∃fd:FuncData,(∀(s:Shared)(u:Value),BindsTo s fd ⟨[u],[]⟩ [(x,u)]) /\
    ∀base:Heap,(K w.params).In base->base.Ns mainGlobals mg->FnOk l.prog w (K w.params) mg base CX k r fd [x] (sp (K w.params)))
  (p:∀(K:FG)(H:Hp)(a:Addr)(b:List Int),b.length≤n->D8 H->iO K H a (b.map V.int)->sp K [.ref a] H (λv _=>v=.bl true) λ_ _ _=>False)
  (C:∀(H:Hp)(s:Shared)(e:Value)(s':Shared),CX [] H s (λ_ _ _=>False) e s'->False) :
  Bz q o X P l.row.toRowW d [] (λf y=>PySem.call f y):=
 IN (K:=K) (CX:=λ_=>CX) (sp:=λw=>sp (K w.params)) i m c j g F (λw H a b h1 h2 t=>p (K w.params) H a b h1 h2 t) λ_ H s e s'=>C H s e s'
noncomputable def bJ(s:Stmt)(j:Nat):Stmt:=match s with
 | .ClassDef _ _ _ b _ _ _ _ _ _ _=>b.getD j (.Pass ⟨0,0,0,0⟩)
 |_=>.Pass ⟨0,0,0,0⟩
noncomputable def gB(s:Stmt):Arguments:=match s with
 | .FunctionDef _ a _ _ _ _ _ _ _ _=>a
 |_=>{ posonlyargs:=[],args:=[],vararg:=none,kwonlyargs:=[],kw_defaults:=[],kwarg:=none,defaults:=[] }
noncomputable def cE(s:Stmt):List Stmt:=match s with
 | .FunctionDef _ _ b _ _ _ _ _ _ _=>b
 |_=>[]
noncomputable def aK(s:Stmt):Scope:=match s with
 | .FunctionDef _ _ _ _ _ _ sc _ _ _=>sc
 |_=>{ kind:=.function,names:=[],isGenerator:=false,isCoroutine:=false }
noncomputable abbrev pL:D9:=λ_ _ _ _ _ _=>False
noncomputable abbrev E0:XK:=λ_ _ _=>False
theorem rW:my pL X E0:=λ_ _ _ _ _ _ _ h=>h.elim
structure Fun(K:FG)(x qual:Str)(st:Stmt)(f:Addr)(fd:FuncData):Prop where
 ex:∃(oc:Value)(od:Option Addr)(kV doc pm:Value)(an:Option Addr)(cdv ct:Value)(osl:Array (OV)),
  fd=g_ x qual (gB st) (cE st) (aK st) .none kV doc pm an cdv ct/\K.lookup f=some ⟨oc,od,.func fd,osl⟩/\mS K cdv qual=true
 kp:dZ K (.ref f)=true
section
variable{P:Program}{w:World}{K:FG}{mg:SV}{base:Heap}
theorem Fun.ok{x u:Str}{st:Stmt}{f:Addr}{fd:FuncData}{N ps:LS}{k:Nat}{sp:Sp}(F:Fun K x u st f fd)(S:FnScope N ps (aK st))(len:∀v H Q E,sp v H Q E->v.length=ps.length)
  (b:∀(c:Value) (A:Around) (o:List Env) (s:Shared) (H:Hp) (v:List V) (Q:VK) (E:XK),Room k (A.deeper (envOfC u (aK st) s.heap.objs.size f c))->sp v H Q E ->
   ∃t,jq (pH pL P w K mg base N u (aK st) f c A o s H E).nox (cE st) t/\t { nx:=λ_ H'=>Q .non H',rt:=Q } (start N v) H):FnOk P w K mg base pL (k+1) f fd ps sp:=by
 obtain⟨m,g,kV,a,i,n,c,e,l,rfl,lk,d⟩:=F.ex;refine K9 lk d S len λA o s H v Q E r p=>?_;obtain⟨t,h,q⟩:=b c A o s H v Q E r p;exact⟨t,h.nox,q⟩
theorem Fun.binds{x q:Str}{st:Stmt}{f:Addr}{fd:FuncData}{ps:LS}(F:Fun K x q st f fd)
  (h:∀(kV d p:Value)(a:Option Addr)(c t:Value)(us:LV),us.length=ps.length->bindArgs (g_ x q (gB st) (cE st) (aK st) .none kV d p a c t) ⟨us,[]⟩=pure (ps.zip us)):Binds K fd ps []:=by
 obtain⟨s,n,kV,d,p,a,c,t,o,rfl,lk,e⟩:=F.ex;exact .all (h kV d p a c t)
theorem jj{x q:Str}{st:Stmt}{f:Addr}{h:Value}{e a:Option Addr}{s:Array (OV)}{kV o p d t:Value}(l:K.lookup f=some ⟨h,e,.func (g_ x q (gB st) (cE st) (aK st) .none kV o p a d t),s⟩)
  (c:mS K d q=true) (k:dZ K (.ref f)=true):Fun K x q st f (g_ x q (gB st) (cE st) (aK st) .none kV o p a d t):=⟨⟨h,e,kV,o,p,a,d,t,s,rfl,l,c⟩,k⟩
end
section
variable{X:Cx}
theorem pv(i:Nat)(N:X.N[i]? = some x:=by rfl)(v:HN X.e.scope x:=by first|exact Or.inl rfl|exact Or.inr (Or.inl rfl)|exact Or.inr (Or.inr rfl))(hd:(x == ("__debug__":Str))=false:=by decide)
  (h:(x == ("__classdict__":Str))=false:=by decide):PE X (.Name x q) (Je i):=rT N v hd h
end
def Ux(H H':Hp):Prop:=∀b o,H b=some o->H' b=some o
end L2
namespace PySem
open PySem PyProof.Rows
namespace F
theorem entry_dict_update_loop:entryFor table "dict.update.loop"=some Builtin.«dict.update.loop»:=Ei (by kernel_rfl)
theorem plain_dict_update_loop:plainId "dict.update.loop"=true:=by decide +kernel
end F
section
variable{prog:Program}{w:World}{A:Around}{E:VP}{s:Shared}
inductive PairsAt{K:Type}[DecidableEq K](knd:KeyKind prog w K)(h:Heap):LV->List (K×Value)->Prop
 |nil:PairsAt knd h [] []
 |cons {t:Addr}{key v:Value}{k:K}{us:LV}{kvs:List (K×Value)}:IsTup h t #[key,v]->knd.is k key=true->PairsAt knd h us kvs->PairsAt knd h (.ref t::us) ((k,v)::kvs)
end
end PySem
namespace Ev
open PySem L2
def ee(a C:Addr)(d:Option Addr):Heap->Prop:=λh=>∃o,h.get? a=some o/\o.cls=.ref C/\o.dict=d/\∃v,o.data=.fields v/\(d=none->v[2]? = some .none)
inductive P where
 |non|bl (b:Bool)|int (i:Int)|str (x:Str)|tup (xs:List P)|lst (xs:List P)|ro (xs:List P)|dct (ks:List cj) (vs:List P)
inductive D where
 |p (v:P)|ref (i:Nat)
inductive SO where
 |lst (xs:List D)|dct (ks:List cj) (vs:List D)|fz (v:P)|ins (c:Str) (ks:LS) (vs:List D)|exc (c:Str) (x:Option (Str×P))|tpl (xs:List D)|dtt (ks:List (List cj)) (vs:List D)
noncomputable abbrev aB:=List SO
noncomputable abbrev Lc:=List (Option D)
def SQ(K:FG)(a:Addr)(xs:List V):Prop:=w5 K (λ_=>none) a xs
def SR(K:FG)(a:Addr)(xs:List V):Prop:=iO K (λ_=>none) a xs
def TupAt(K:FG)(H:Hp)(a:Addr)(xs:List V):Prop:=H a=some (.tup xs)\/SQ K a xs
def LstAt(F:Aa)(H:Hp)(a:Addr)(xs:List V):Prop:=F a/\H a=some (.lst xs)
def D7(K:FG)(F:Aa)(H:Hp)(a:Addr)(xs:List V):Prop:=(F a/\∃o,H a=some (.frz o (.lst xs)))\/SR K a xs
variable{K:FG}{H:Hp}{a:Addr}{xs:List V}
theorem TupAt.sq(h:TupAt K H a xs):w5 K H a xs:=by
 rcases h with h|(h|h)
 .exact .inl (.inl h)
 .rcases h with h|⟨o,h⟩<;>cases h
 .exact .inr h
variable{F:Aa}
theorem LstAt.sq(h:LstAt F H a xs):iO K H a xs:=.inl (.inl h.2)
theorem D7.sq(h:D7 K F H a xs):iO K H a xs:=by
 rcases h with ⟨_,o,h⟩|(h|h)
 .exact .inl (.inr ⟨o,h⟩)
 .rcases h with h|⟨o,h⟩<;>cases h
 .exact .inr h
section
variable(K:FG)(F:Aa)(H:Hp)
mutual
noncomputable def RP:P->V->Prop
 | .non,v=>v=.non
 | .bl b,v=>v=.bl b
 | .int i,v=>v=.int i
 | .str x,v=>v=.str x
 | .tup ds,v=>∃a xs,v=.ref a/\TupAt K H a xs/\dt ds xs
 | .lst ds,v=>∃a xs,v=.ref a/\LstAt F H a xs/\dt ds xs
 | .ro ds,v=>∃a xs,v=.ref a/\D7 K F H a xs/\dt ds xs
 | .dct ks ds,v=>∃a kvs,v=.ref a/\F a/\H a=some (.dK kvs)/\kvs.map (·.1)=ks/\dt ds (kvs.map (·.2))
noncomputable def dt:List P->List V->Prop
 | [],xs=>xs=[]
 |d::ds,xs=>∃x r,xs=x::r/\RP d x/\dt ds r
end
def RD(m:List Addr):D->V->Prop
 | .p d,v=>RP K F H d v
 | .ref i,v=>∃a,v=.ref a/\m[i]? = some a
def dA(m:List Addr):List D->List V->Prop
 | [],xs=>xs=[]
 |d::s,xs=>∃x r,xs=x::r/\RD K F H m d x/\dA m s r
def XD(x:Option (Str×P))(o:Option Addr):Prop:=match x with
 |none=>o=none
 |some z=>∃d v,o=some d/\F d/\H d=some (.xd [(z.1,v)])/\RP K F H z.2 v
def RO(m:List Addr)(a:Addr):SO->Prop
 | .lst d=>∃xs,H a=some (.lst xs)/\dA K F H m d xs
 | .dct s d=>∃k,H a=some (.dK k)/\k.map (·.1)=s/\dA K F H m d (k.map (·.2))
 | .fz v=>RP K F H v (.ref a)
 | .ins c s d=>∃C h k,a_ K mainGlobals c=some (some (.ref C))/\H a=some (.ins C h k)/\k.map (·.1)=s/\dA K F H m d (k.map (·.2))
 | .dtt s d=>∃k,H a=some (.dT k)/\k.map (·.1)=s/\dA K F H m d (k.map (·.2))
 | .tpl d=>∃xs,H a=some (.tup xs)/\dA K F H m d xs
 | .exc c x=>∃C o,a_ K mainGlobals c=some (some (.ref C))/\H a=some (.ext (ee a C o))/\XD K F H x o
def SO.own:SO->Prop
 | .fz _=>False
 |_=>True
structure Rel(m:List Addr)(S:aB):Prop where
 len:m.length=S.length
 nd:m.Nodup
 obj:∀(i:Nat) a o,m[i]? = some a->S[i]? = some o->RO K F H m a o
 sep:∀(i:Nat) a o,m[i]? = some a->S[i]? = some o->o.own->¬F a
 trk:∀a ∈ m,H a≠none
 ft:∀a,F a->H a≠none
end
structure Kp(F:Aa)(m:List Addr)(H:Hp)(F':Aa)(m':List Addr)(H':Hp):Prop where
 pre:∃n,m'=m++n
 frz:∀b,F b->F' b
 frk:∀b o,F b->H b=some o->H' b=some o
 tup:∀b xs,H b=some (.tup xs)->H' b=some (.tup xs)
structure Stp(F:Aa)(m:List Addr)(H:Hp)(F':Aa)(m':List Addr)(H':Hp):Prop where
 pre:∃n,m'=m++n
 oth:∀b o,H b=some o->b ∉ m->H' b=some o
 frz:∀b,F b->F' b
 frk:∀b o,F b->H b=some o->H' b=some o
 tup:∀b xs,H b=some (.tup xs)->H' b=some (.tup xs)
 trk:∀b,H b≠none->H' b≠none
 nf:∀b,F' b->F b\/H b=none\/b ∈ m
 nm:∀b,b ∈ m'->b ∈ m\/H b=none
variable{F':Aa}{m:List Addr}{m':List Addr}{H':Hp}
theorem Stp.kp(s:Stp F m H F' m' H'):Kp F m H F' m' H':=⟨s.pre,s.frz,s.frk,s.tup⟩
theorem Stp.refl:Stp F m H F m H:=
 ⟨⟨[],by simp⟩,λ_ _ h _=>h,λ_ h=>h,λ_ _ _ h=>h,λ_ _ h=>h,λ_ h=>h,λ_ h=>.inl h,λ_ h=>.inl h⟩
theorem Stp.trans(a:Stp F m H B k j)(b:Stp B k j C r I):Stp F m H C r I where
 pre:=by obtain⟨f,s⟩:=a.pre;obtain⟨t,n⟩:=b.pre;exact⟨f++t,by rw[n,s,gi]⟩
 oth:=λc o h x=>b.oth c o (a.oth c o h x) λz=>by
  rcases a.nm c z with z|z
  .exact x z
  .rw [h]at z;cases z
 frz:=λc h=>b.frz c (a.frz c h)
 frk:=λc o h e=>b.frk c o (a.frz c h) (a.frk c o h e)
 tup:=λc xs h=>b.tup c xs (a.tup c xs h)
 trk:=λc h=>b.trk c (a.trk c h)
 nf:=λc h=>by
  rcases b.nf c h with h|h|h
  .exact a.nf c h
  .by_cases e:H c=none
   .exact .inr (.inl e)
   .exact absurd h (a.trk c e)
  .rcases a.nm c h with h|h
   .exact .inr (.inr h)
   .exact .inr (.inl h)
 nm:=λc h=>by
  rcases b.nm c h with h|h
  .exact a.nm c h
  .by_cases e:H c=none
   .exact .inr e
   .exact absurd h (a.trk c e)
section
variable{K:FG}{F F':Aa}{H H':Hp}{m m':List Addr}{S T:aB}
theorem TupAt.kp(s:Kp F m H F' m' H')(h:TupAt K H a xs):TupAt K H' a xs:=by
 rcases h with h|h
 .exact .inl (s.tup _ _ h)
 .exact .inr h
theorem LstAt.kp(s:Kp F m H F' m' H')(h:LstAt F H a xs):LstAt F' H' a xs:=⟨s.frz _ h.1,s.frk _ _ h.1 h.2⟩
theorem D7.kp(s:Kp F m H F' m' H')(h:D7 K F H a xs):D7 K F' H' a xs:=by
 rcases h with ⟨f,o,h⟩|h
 .exact .inl ⟨s.frz _ f,o,s.frk _ _ f h⟩
 .exact .inr h
mutual
theorem RP.kp(s:Kp F m H F' m' H'):∀{d:P}{v:V},RP K F H d v->RP K F' H' d v
 | .non,_,h=>h
 | .bl _,_,h=>h
 | .int _,_,h=>h
 | .str _,_,h=>h
 | .tup _,_,h=>by obtain⟨a,xs,e,t,r⟩:=h;exact⟨a,xs,e,t.kp s,dt.kp s r⟩
 | .lst _,_,h=>by obtain⟨a,xs,e,t,r⟩:=h;exact⟨a,xs,e,t.kp s,dt.kp s r⟩
 | .ro _,_,h=>by obtain⟨a,xs,e,t,r⟩:=h;exact⟨a,xs,e,t.kp s,dt.kp s r⟩
 | .dct _ _,_,h=>by obtain⟨a,kvs,e,f,t,k,r⟩:=h;exact⟨a,kvs,e,s.frz _ f,s.frk _ _ f t,k,dt.kp s r⟩
theorem dt.kp(s:Kp F m H F' m' H'):∀{ds:List P}{xs:List V},dt K F H ds xs->dt K F' H' ds xs
 | [],_,h=>h
 |_::_,_,h=>by obtain⟨x,r,e,h1,h2⟩:=h;exact⟨x,r,e,RP.kp s h1,dt.kp s h2⟩
end
theorem RD.kp(s:Kp F m H F' m' H'):∀{d:D}{v:V},RD K F H m d v->RD K F' H' m' d v
 | .p _,_,h=>RP.kp s h
 | .ref i,_,h=>by obtain⟨a,e,h⟩:=h;obtain⟨n,x⟩:=s.pre;refine⟨a,e,?_⟩;rw[x];have k:i < m.length:=(bz.mp h).1;rw[cA k];exact h
theorem dA.kp(s:Kp F m H F' m' H'):∀{d:List D}{xs:List V},dA K F H m d xs->dA K F' H' m' d xs
 | [],_,h=>h
 |_::_,_,h=>by obtain⟨x,r,e,a,n⟩:=h;exact⟨x,r,e,RD.kp s a,dA.kp s n⟩
variable{d:P}{v:V}
theorem RP.mono(s:Stp F m H F' m' H')(h:RP K F H d v):RP K F' H' d v:=RP.kp s.kp h
theorem dt.mono(s:Stp F m H F' m' H'){d:List P}{v:List V}(h:dt K F H d v):dt K F' H' d v:=dt.kp s.kp h
theorem RD.mono(s:Stp F m H F' m' H'){d:D}{v:V}(h:RD K F H m d v):RD K F' H' m' d v:=RD.kp s.kp h
theorem dA.mono(s:Stp F m H F' m' H'){d:List D}{v:List V}(h:dA K F H m d v):dA K F' H' m' d v:=dA.kp s.kp h
theorem dt.length:∀{d:List P}{xs:List V},dt K F H d xs->d.length=xs.length
 | [],_,h=>by rw[show _=([]:List V) from h]<;>rfl
 |_::_,_,h=>by obtain⟨x,r,e,_,a⟩:=h;rw[e,aQ,aQ,dt.length a]
theorem dA.length:∀{d:List D}{xs:List V},dA K F H m d xs->d.length=xs.length
 | [],_,h=>by rw[show _=([]:List V) from h]<;>rfl
 |_::_,_,h=>by obtain⟨x,r,e,_,a⟩:=h;rw[e,aQ,aQ,dA.length a]
theorem dt.get:∀{s:List P}{xs:List V}{i:Nat}{d:P},dt K F H s xs->s[i]? = some d->∃x,xs[i]? = some x/\RP K F H d x
 | [],_,_,_,_,e=>by simp at e
 |_::_,_,0,_,h,e=>by obtain⟨x,r,rfl,n,_⟩:=h;simp at e;subst e;exact⟨x,rfl,n⟩
 |_::_,_,i+1,d,h,e=>by obtain⟨x,r,rfl,_,k⟩:=h;obtain⟨y,a,f⟩:=dt.get (i:=i) k (by simpa using e);exact⟨y,by simpa using a,f⟩
theorem dt.append:∀{d u:List P}{xs y:List V},dt K F H d xs->dt K F H u y->dt K F H (d++u) (xs++y)
 | [],_,_,_,h,g=>by rw[show _=([]:List V) from h];exact g
 |_::_,_,_,_,h,g=>by obtain⟨x,r,rfl,a,e⟩:=h;exact⟨x,r++_,rfl,a,dt.append e g⟩
theorem dA.append:∀{d u:List D}{xs y:List V},dA K F H m d xs->dA K F H m u y->dA K F H m (d++u) (xs++y)
 | [],_,_,_,h,g=>by rw[show _=([]:List V) from h];exact g
 |_::_,_,_,_,h,g=>by obtain⟨x,r,rfl,a,e⟩:=h;exact⟨x,r++_,rfl,a,dA.append e g⟩
theorem dt.take:∀(n:Nat){d:List P}{xs:List V},dt K F H d xs->dt K F H (d.take n) (xs.take n)
 |0,_,_,_=>rfl
 |_+1,[],_,h=>by rw[show _=([]:List V) from h];rfl
 |n+1,_::_,_,h=>by obtain⟨x,r,rfl,a,e⟩:=h;exact⟨x,r.take n,rfl,a,dt.take n e⟩
theorem dt.drop:∀(n:Nat){d:List P}{xs:List V},dt K F H d xs->dt K F H (d.drop n) (xs.drop n)
 |0,_,_,h=>h
 |_+1,[],_,h=>by rw[show _=([]:List V) from h];rfl
 |n+1,_::_,_,h=>by obtain⟨x,r,rfl,_,a⟩:=h;exact dt.drop n a
theorem dA.take:∀(n:Nat){d:List D}{xs:List V},dA K F H m d xs->dA K F H m (d.take n) (xs.take n)
 |0,_,_,_=>rfl
 |_+1,[],_,h=>by rw[show _=([]:List V) from h];rfl
 |n+1,_::_,_,h=>by obtain⟨x,r,rfl,a,e⟩:=h;exact⟨x,r.take n,rfl,a,dA.take n e⟩
theorem dA.get:∀{s:List D}{xs:List V}{i:Nat}{d:D},dA K F H m s xs->s[i]? = some d->∃x,xs[i]? = some x/\RD K F H m d x
 | [],_,_,_,_,e=>by simp at e
 |_::_,_,0,_,h,e=>by obtain⟨x,r,rfl,n,_⟩:=h;simp at e;subst e;exact⟨x,rfl,n⟩
 |_::_,_,i+1,d,h,e=>by obtain⟨x,r,rfl,_,k⟩:=h;obtain⟨y,a,f⟩:=dA.get (i:=i) k (by simpa using e);exact⟨y,by simpa using a,f⟩
theorem dA.ofP:∀{d:List P}{xs:List V},dt K F H d xs->dA K F H m (d.map .p) xs
 | [],_,h=>h
 |_::_,_,h=>by obtain⟨x,r,e,a,s⟩:=h;exact⟨x,r,e,a,dA.ofP s⟩
variable{p:Addr}
theorem Rel.fresh_m(r:Rel K F H m S)(h:H p=none):p ∉ m:=λz=>r.trk p z h
theorem Rel.fresh_F(r:Rel K F H m S)(h:H p=none):¬F p:=λz=>r.ft p z h
variable{o:HO}
theorem j4(x:H p=none):Stp F m H F m (upd H p o) where
 pre:=⟨[],by simp⟩
 oth:=λb u h _=>by rw[aq (by rintro rfl;rw[x]at h;cases h)];exact h
 frz:=λ_ h=>h
 frk:=λb u _ h=>by rw[aq (by rintro rfl;rw[x]at h;cases h)];exact h
 tup:=λb u h=>by rw[aq (by rintro rfl;rw[x]at h;cases h)];exact h
 trk:=λb h=>by
  by_cases e:b=p
  .subst e;rw[aJ];exact λz=>nomatch z
  .rw [aq e];exact h
 nf:=λ_ h=>.inl h
 nm:=λ_ h=>.inl h
theorem XD.kp(s:Kp F m H F' m' H')(h:XD K F H x k):XD K F' H' x k:=by
 cases x with
 |none=>exact h
 |some z=>obtain⟨a,v,e,f,d,r⟩:=h;exact⟨a,v,e,s.frz _ f,s.frk _ _ f d,RP.kp s r⟩
theorem RO.kp(s:Kp F m H F' m' H'){a:Addr}{o:SO}(k:∀u,H a=some u->H' a=some u)(h:RO K F H m a o):RO K F' H' m' a o:=by
 cases o with
 |lst d=>obtain⟨xs,e,r⟩:=h;exact⟨xs,k _ e,dA.kp s r⟩
 |dct t d=>obtain⟨f,e,b,r⟩:=h;exact⟨f,k _ e,b,dA.kp s r⟩
 |fz v=>exact RP.kp s (show RP K F H v (.ref a) from h)
 |ins c t d=>obtain⟨C,p,f,n,e,b,r⟩:=h;exact⟨C,p,f,n,k _ e,b,dA.kp s r⟩
 |dtt t d=>obtain⟨f,e,b,r⟩:=h;exact⟨f,k _ e,b,dA.kp s r⟩
 |tpl d=>obtain⟨xs,e,r⟩:=h;exact⟨xs,k _ e,dA.kp s r⟩
 |exc c x=>obtain⟨C,q,n,e,r⟩:=h;exact⟨C,q,n,k _ e,r.kp s⟩
theorem RO.mono(s:Stp F m H F' m' H'){a:Addr}{o:SO}(k:∀u,H a=some u->H' a=some u)(h:RO K F H m a o):RO K F' H' m' a o:=RO.kp s.kp k h
theorem Rel.stayK(r:Rel K F H m S)(s:Kp F m H F' m H')(k:∀a u,a ∈ m->H a=some u->H' a=some u)(n:∀a,F' a->F a\/H a=none)(t:∀a,F' a->H' a≠none):Rel K F' H' m S where
 len:=r.len
 nd:=r.nd
 obj:=λi a o e x=>(r.obj i a o e x).kp s λu h=>k a u (a9 e) h
 sep:=λi a o e x w f=>by
  rcases n a f with f|f
  .exact r.sep i a o e x w f
  .exact r.trk a (a9 e) f
 trk:=λa h=>by
  cases q:H a with
  |none=>exact absurd q (r.trk a h)
  |some u=>rw[k a u h q];exact λz=>nomatch z
 ft:=t
theorem Rel.stay(r:Rel K F H m S)(s:Stp F m H F' m H')(k:∀a u,a ∈ m->H a=some u->H' a=some u)(n:∀a,F' a->F a\/H a=none)(t:∀a,F' a->H' a≠none):Rel K F' H' m S where
 len:=r.len
 nd:=r.nd
 obj:=λi a o e x=>(r.obj i a o e x).mono s λu h=>k a u (a9 e) h
 sep:=λi a o e x w f=>by
  rcases n a f with f|f
  .exact r.sep i a o e x w f
  .exact r.trk a (a9 e) f
 trk:=λa h=>s.trk a (r.trk a h)
 ft:=t
theorem Rel.new(r:Rel K F H m S)(x:H p=none):Rel K F (upd H p o) m S:=
 r.stay (j4 x) (λa u e h=>by rw[aq (by rintro rfl;exact r.fresh_m x e)];exact h) (λ_ f=>.inl f) λa f=>(j4 (F:=F) (m:=m) x).trk a (r.ft a f)
theorem fJ{p:Addr}{o:HO}(x:H p=none):Stp F m H F (m++[p]) (upd H p o) where
 pre:=⟨[p],rfl⟩
 oth:=(j4 (F:=F) (m:=m) (o:=o) x).oth
 frz:=λ_ h=>h
 frk:=(j4 (F:=F) (m:=m) (o:=o) x).frk
 tup:=(j4 (F:=F) (m:=m) (o:=o) x).tup
 trk:=(j4 (F:=F) (m:=m) (o:=o) x).trk
 nf:=λ_ h=>.inl h
 nm:=λb h=>by
  rcases bP.mp h with h|h
  .exact .inl h
  .have:b=p:=by simpa using h
   subst this;exact .inr x
theorem Rel.own(r:Rel K F H m S){p:Addr}{o:HO}{so:SO}(n:H p=none)(q:RO K F (upd H p o) (m++[p]) p so):Rel K F (upd H p o) (m++[p]) (S++[so]) where
 len:=by rw[bx,bx,r.len];rfl
 nd:=by
  rw[vd];refine⟨r.nd,by simp,λa c b t e=>?_⟩;have:b=p:=by simpa using t
  subst this;subst e;exact r.fresh_m n c
 obj:=λi a u x s=>by
  by_cases k:i < m.length
  .rw [cA k]at x;rw[cA (by rw[<- r.len];exact k)]at s;exact(r.obj i a u x s).mono (fJ n) λw h=>by rw[aq (by rintro rfl;rw[n]at h;cases h)];exact h
  .have l:i=m.length:=by
    have:=(bz.mp x).1;rw[bx]at this;simp at this;lia
   subst l;rw[cB (al _)]at x;rw[r.len,cB (al _)]at s;simp at x s;subst x;subst s;exact q
 sep:=λi a u x s w f=>by
  by_cases k:i < m.length
  .rw [cA k]at x;rw[cA (by rw[<- r.len];exact k)]at s;exact r.sep i a u x s w f
  .have l:i=m.length:=by
    have:=(bz.mp x).1;rw[bx]at this;simp at this;lia
   subst l;rw[cB (al _)]at x;simp at x;subst x;exact r.fresh_F n f
 trk:=λa h=>by
  rcases bP.mp h with h|h
  .exact (fJ (F:=F) (m:=m) n).trk a (r.trk a h)
  .have:a=p:=by simpa using h
   subst this;rw[aJ];exact λz=>nomatch z
 ft:=λa f=>(fJ (F:=F) (m:=m) n).trk a (r.ft a f)
variable{i:Nat}
theorem gw(r:Rel K F H m S)(x:m[i]? = some p)(s:S[i]? = some k)(hw:k.own)(t:∀xs,H p≠some (.tup xs)):Stp F m H F m (upd H p o) where
 pre:=⟨[],by simp⟩
 oth:=λb u h a=>by rw[aq (by rintro rfl;exact a (a9 x))];exact h
 frz:=λ_ h=>h
 frk:=λb u f h=>by rw[aq (by rintro rfl;exact r.sep i _ k x s hw f)];exact h
 tup:=λb xs h=>by rw[aq (by rintro rfl;exact t xs h)];exact h
 trk:=λb h=>by
  by_cases e:b=p
  .subst e;rw[aJ];exact λz=>nomatch z
  .rw [aq e];exact h
 nf:=λ_ h=>.inl h
 nm:=λ_ h=>.inl h
theorem xE(h:m.Nodup)(e:m[i]? = some a)(x:m[k]? = some a):i=k:=by exact(List.getElem?_inj (bz.mp e).1 h).mp (e.trans x.symm)
theorem Rel.set(r:Rel K F H m S){i:Nat}{p:Addr}{c b:SO}{o:HO}(s:m[i]? = some p)(k:S[i]? = some c)(hw:c.own)(t:∀xs,H p≠some (.tup xs))(q:RO K F (upd H p o) m p b) :
  Rel K F (upd H p o) m (S.set i b) where
 len:=by rw[cN];exact r.len
 nd:=r.nd
 obj:=λj a u e x=>by
  by_cases n:i=j
  .subst n;rw[s]at e;cases e;rw[bH (by exact(bz.mp k).1)]at x;cases x;exact q
  .rw [aL n]at x;exact(r.obj j a u e x).mono (gw r s k hw t) λw h=>by rw[aq (by rintro rfl;exact n (xE r.nd s e))];exact h
 sep:=λj a u e x w f=>by
  by_cases n:i=j
  .subst n;rw[s]at e;cases e;exact r.sep i p c s k hw f
  .rw [aL n]at x;exact r.sep j a u e x w f
 trk:=λa h=>(gw (o:=o) r s k hw t).trk a (r.trk a h)
 ft:=λa f=>(gw (o:=o) r s k hw t).trk a (r.ft a f)
theorem qK(x:p ∈ m):Stp F m H (λb=>F b\/b=p) m H:=
 ⟨⟨[],by simp⟩,fun _ _ h _=>h,fun _ h=>.inl h,fun _ _ _ h=>h,fun _ _ h=>h,fun _ h=>h,fun b h=>by
  rcases h with h|h
  .exact .inl h
  .subst h;exact .inr (.inr x),λ_ h=>.inl h⟩
theorem Rel.frz(r:Rel K F H m S){i:Nat}{p:Addr}{c:SO}{v:P}(n:m[i]? = some p)(k:S[i]? = some c)(o:RP K (λb=>F b\/b=p) H v (.ref p)):Rel K (λb=>F b\/b=p) H m (S.set i (.fz v)) where
 len:=by rw[cN];exact r.len
 nd:=r.nd
 obj:=λj a u x e=>by
  by_cases s:i=j
  .subst s;rw[n]at x;cases x;rw[bH (by exact(bz.mp k).1)]at e;cases e;exact o
  .rw [aL s]at e;exact(r.obj j a u x e).mono (qK (a9 n)) λw h=>h
 sep:=λj a u x e w f=>by
  by_cases s:i=j
  .subst s;rw[bH (by exact(bz.mp k).1)]at e;cases e;exact w
  .rw [aL s]at e;rcases f with f|f
   .exact r.sep j a u x e w f
   .subst f;exact s (xE r.nd n x)
 trk:=r.trk
 ft:=λa f=>by
  rcases f with f|f
  .exact r.ft a f
  .subst f;exact r.trk _ (a9 n)
end
noncomputable abbrev EE:=Lc->aB->Option (D×aB)
noncomputable abbrev xb:=Option (D×aB)
noncomputable abbrev EV:=Lc->aB->Option (P×aB)
noncomputable abbrev tyV:=Option (P×aB)
noncomputable abbrev EB:=Lc->aB->Option (Bool×aB)
noncomputable abbrev NM:=Option (Bool×aB)
noncomputable abbrev iQ:=Lc->aB->Option (List P×aB)
noncomputable abbrev IV:=Option (List P×aB)
inductive Fl where
 |nx|rt (d:D)|bk|ct
noncomputable abbrev ES:=Lc->aB->Option (Fl×Lc×aB)
noncomputable abbrev Fd:=Option (Fl×Lc×aB)
variable{Q:Type}{β:Type}
noncomputable def bL(x:Option (Q×aB))(f:Q->aB->Option β):Option β:=match x with
 |some (a,S)=>f a S
 |none=>none
@[simp] theorem aw(a:Q)(S:aB)(f:Q->aB->Option β):bL (some (a,S)) f=f a S:=rfl
@[simp] theorem Qp(f:Q->aB->Option β):bL none f=none:=rfl
theorem ah{Q β:Type}{x:Option (Q×aB)}{f:Q->aB->Option β}{r:β}(h:bL x f=some r):∃a S,x=some (a,S)/\f a S=some r:=by
 cases x with
 |none=>cases h
 |some p=>exact⟨p.1,p.2,rfl,h⟩
def pA(f:D->aB->Option (P×aB)):List D->aB->Option (List P×aB)
 | [],S=>some ([],S)
 |d::r,S=>bL (f d S) λv h=>bL (pA f r h) λs x=>some (v::s,x)
def toP:Nat->D->aB->Option (P×aB)
 |_,.p v,S=>some (v,S)
 |0,.ref _,_=>none
 |n+1,.ref i,S=>match S[i]? with
  |some (.lst d)=>bL (pA (toP n) d S) λs h=>some (.lst s,h.set i (.fz (.lst s)))
  |some (.dct k d)=>bL (pA (toP n) d S) λs h=>some (.dct k s,h.set i (.fz (.dct k s)))
  |some (.fz v)=>some (v,S)
  |some (.ins _ _ _)=>none
  |some (.exc _ _)=>none
  |some (.tpl d)=>bL (pA (toP n) d S) λs h=>some (.tup s,h.set i (.fz (.tup s)))
  |some (.dtt _ _)=>none
  |none=>none
@[simp] theorem KO(n:Nat)(v:P)(S:aB):toP n (.p v) S=some (v,S):=by cases n<;>rfl
theorem na(n:Nat):∀(s:List P)(S:aB),pA (toP n) (s.map .p) S=some (s,S)
 | [],_=>rfl
 |v::r,S=>by simp[pA,na n r S]
variable{n:Nat}{S:aB}
theorem gu(h:S[i]? = some (.lst (k.map .p))):toP (n+1) (.ref i) S=some (.lst k,S.set i (.fz (.lst k))):=by simp[toP,h,na]
section
variable{K:FG}{F:Aa}{H:Hp}{m:List Addr}{S T:aB}
theorem qP 
  (k:∀{d:D}{x:V}{v:P}{F:Aa}{S T:aB},f d S=some (v,T)->Rel K F H m S->RD K F H m d x->∃F',Stp F m H F' m H/\Rel K F' H m T/\T.length=S.length/\RP K F' H v x) :
  ∀{a:List D}{xs:List V}{s:List P}{F:Aa}{S T:aB},pA f a S=some (s,T)->Rel K F H m S->dA K F H m a xs->∃F',Stp F m H F' m H/\Rel K F' H m T/\T.length=S.length/\dt K F' H s xs
 | [],xs,s,F,S,T,h,r,n=>by cases h;exact⟨F,.refl,r,rfl,n⟩
 |d::a,xs,s,F,S,T,h,r,n=>by obtain⟨x,z,e,q,w⟩:=n;obtain⟨v,o,t,h⟩:=ah h;obtain⟨E,A,p,h⟩:=ah h;cases h;obtain⟨B,b,j,l,g⟩:=k t r q;obtain⟨C,c,y,u,i⟩:=qP k p j (dA.mono b w);exact⟨C,b.trans c,y,u.trans l,x,z,e,RP.mono c g,i⟩
theorem n_:∀(n:Nat){d:D}{x:V}{v:P}{F:Aa}{S T:aB},toP n d S=some (v,T)->Rel K F H m S->RD K F H m d x->∃F',Stp F m H F' m H/\Rel K F' H m T/\T.length=S.length/\RP K F' H v x
 |n,.p w,x,v,F,S,T,h,r,E=>by rw[KO]at h;cases h;exact⟨F,.refl,r,rfl,E⟩
 |0,.ref i,x,v,F,S,T,h,r,E=>by cases h
 |n+1,.ref i,x,v,F,S,T,h,r,E=>by
  obtain⟨a,e,f⟩:=E;subst e;have t:i < S.length:=by rw[<- r.len];exact(bz.mp f).1
  obtain⟨o,L⟩:∃o,S[i]? = some o:=⟨S[i],by simp[t]⟩;have C:=r.obj i a o f L;simp only[toP,L]at h;cases o with
  |fz w=>cases h;exact⟨F,.refl,r,rfl,C⟩
  |ins c M G=>cases h
  |exc c x=>cases h
  |dtt _ _=>cases h
  |lst G=>obtain⟨A,k,p,h⟩:=ah h;cases h;obtain⟨xs,u,y⟩:=C;obtain⟨B,z,j,l,g⟩:=qP (λh=>n_ n h) p r y;obtain⟨N,s⟩:∃o,k[i]? = some o:=⟨k[i]'(by rw[l];exact t),by simp[l,t]⟩;have st:Stp B m H (λb=>B b\/b=a) m H:=qK (a9 f);have q:RP K (λb=>B b\/b=a) H (.lst A) (.ref a):=⟨a,xs,rfl,⟨.inr rfl,u⟩,dt.mono st g⟩;exact⟨_,z.trans st,j.frz f s q,by rw[cN];exact l,q⟩
  |tpl G=>obtain⟨A,k,p,h⟩:=ah h;cases h;obtain⟨xs,u,y⟩:=C;obtain⟨B,z,j,l,g⟩:=qP (λh=>n_ n h) p r y;obtain⟨N,s⟩:∃o,k[i]? = some o:=⟨k[i]'(by rw[l];exact t),by simp[l,t]⟩;have st:Stp B m H (λb=>B b\/b=a) m H:=qK (a9 f);have q:RP K (λb=>B b\/b=a) H (.tup A) (.ref a):=⟨a,xs,rfl,.inl u,dt.mono st g⟩;exact⟨_,z.trans st,j.frz f s q,by rw[cN];exact l,q⟩
  |dct M G=>obtain⟨A,k,p,h⟩:=ah h;cases h;obtain⟨I,u,Q,y⟩:=C;obtain⟨B,z,j,l,g⟩:=qP (λh=>n_ n h) p r y;obtain⟨N,s⟩:∃o,k[i]? = some o:=⟨k[i]'(by rw[l];exact t),by simp[l,t]⟩;have st:Stp B m H (λb=>B b\/b=a) m H:=qK (a9 f);have q:RP K (λb=>B b\/b=a) H (.dct M A) (.ref a):=⟨a,I,rfl,.inr rfl,u,Q,dt.mono st g⟩;exact⟨_,z.trans st,j.frz f s q,by rw[cN];exact l,q⟩
end
structure Grow(F:Aa)(H:Hp)(F':Aa)(H':Hp):Prop where
 keep:∀b o,H b=some o->H' b=some o
 frz:∀b,F b->F' b
 nf:∀b,F' b->F b\/(H b=none/\H' b≠none)
section
variable{K:FG}{F F' B C:Aa}{H H' j I:Hp}{m:List Addr}{S T:aB}
theorem Grow.refl:Grow F H F H:=⟨λ_ _ h=>h,λ_ h=>h,λ_ h=>.inl h⟩
theorem Grow.trans(a:Grow F H B j)(b:Grow B j C I):Grow F H C I:=
 ⟨fun c o h=>b.keep c o (a.keep c o h),fun c h=>b.frz c (a.frz c h),fun c h=>by
  rcases b.nf c h with h|⟨h,x⟩
  .rcases a.nf c h with h|⟨h,x⟩
   .exact .inl h
   .refine .inr ⟨h,?_⟩;cases q:j c with
    |none=>exact absurd q x
    |some o=>rw[b.keep c o q];exact λz=>nomatch z
  .refine .inr ⟨?_,x⟩;cases q:H c with
   |none=>rfl
   |some o=>rw[a.keep c o q]at h;cases h⟩
theorem Grow.stp(g:Grow F H F' H'):Stp F m H F' m H' where
 pre:=⟨[],by simp⟩
 oth:=λb o h _=>g.keep b o h
 frz:=g.frz
 frk:=λb o _ h=>g.keep b o h
 tup:=λb xs h=>g.keep b _ h
 trk:=λb h=>by
  cases q:H b with
  |none=>exact absurd q h
  |some o=>rw[g.keep b o q];exact λz=>nomatch z
 nf:=λb h=>by
  rcases g.nf b h with h|⟨h,_⟩
  .exact .inl h
  .exact .inr (.inl h)
 nm:=λ_ h=>.inl h
theorem Rel.grow(r:Rel K F H m S)(g:Grow F H F' H'):Rel K F' H' m S:=
 r.stay g.stp (fun a u _ h=>g.keep a u h) (fun a f=>by
  rcases g.nf a f with f|⟨f,_⟩
  .exact .inl f
  .exact .inr f) λa f=>by
  rcases g.nf a f with f|⟨_,f⟩
  .exact (g.stp (m:=m)).trk a (r.ft a f)
  .exact f
theorem cu{p:Addr}{o:HO}(x:H p=none):Grow F H F (upd H p o):=
 ⟨λb u h=>by rw[aq (by rintro rfl;rw[x]at h;cases h)];exact h,λ_ h=>h,λ_ h=>.inl h⟩
theorem cL{p:Addr}{o:HO}(x:H p=none):Grow F H (λb=>F b\/b=p) (upd H p o):=
 ⟨fun b u h=>by rw [aq (by rintro rfl;rw [x] at h;cases h)];exact h,fun _ h=>.inl h,fun b h=>by
  rcases h with h|h
  .exact .inl h
  .subst h;exact .inr ⟨x,by rw[aJ];exact λz=>nomatch z⟩⟩
theorem RP.grow(g:Grow F H F' H')(h:RP K F H d v):RP K F' H' d v:=RP.mono (m:=[]) g.stp h
theorem dt.grow(g:Grow F H F' H')(h:dt K F H d v):dt K F' H' d v:=dt.mono (m:=[]) g.stp h
theorem RP.newTup(x:H p=none)(r:dt K F H h xs):RP K F (upd H p (.tup xs)) (.tup h) (.ref p):=⟨p,xs,rfl,.inl aJ,r.grow (cu x)⟩
theorem RP.newLst(x:H p=none)(r:dt K F H h xs):RP K (λb=>F b\/b=p) (upd H p (.lst xs)) (.lst h) (.ref p):=⟨p,xs,rfl,⟨.inr rfl,aJ⟩,r.grow (cL x)⟩
end
@[simp] def vC(v:P)(_L:Lc)(S:aB):tyV:=some (v,S)
def aN(i:Nat)(L:Lc)(S:aB):xb:=match L[i]? with
 |some (some d)=>some (d,S)
 |_=>none
@[simp] def vE(f:EE)(L:Lc)(S:aB):tyV:=bL (f L S) (toP 9)
@[simp] def O(f:EV)(L:Lc)(S:aB):xb:=bL (f L S) λv h=>some (.p v,h)
@[simp] def nY(g:P->P->Option P)(a b:EV)(L:Lc)(S:aB):tyV:=bL (a L S) λx h=>bL (b L h) λy e=>(g x y).map λv=>(v,e)
@[simp] def Db(g:P->Option P)(a:EV)(L:Lc)(S:aB):tyV:=bL (a L S) λx h=>(g x).map λv=>(v,h)
@[simp] def bV(a:EV)(L:Lc)(S:aB):NM:=bL (a L S) λx h=>match x with
 | .bl b=>some (b,h)
 |_=>none
@[simp] def jI(a b:EB)(L:Lc)(S:aB):NM:=bL (a L S) λc h=>if c=true then b L h else some (false,h)
@[simp] def CV(a b:EB)(L:Lc)(S:aB):NM:=bL (a L S) λc h=>if c=true then some (true,h) else b L h
@[simp] def tU(a:EB)(L:Lc)(S:aB):NM:=bL (a L S) λc h=>some (!c,h)
@[simp] def vB(a:EB)(L:Lc)(S:aB):tyV:=bL (a L S) λc h=>some (.bl c,h)
@[simp] def OF(c:EB)(a b:EV)(L:Lc)(S:aB):tyV:=bL (c L S) λk h=>if k=true then a L h else b L h
@[simp] def bf(_L:Lc)(S:aB):IV:=some ([],S)
@[simp] def bc(a:EV)(r:iQ)(L:Lc)(S:aB):IV:=bL (a L S) λx h=>bL (r L h) λxs e=>some (x::xs,e)
@[simp] def cP(g:List P->Option P)(a:iQ)(L:Lc)(S:aB):tyV:=bL (a L S) λxs h=>(g xs).map λv=>(v,h)
@[simp] def eM(L:Lc)(S:aB):Fd:=some (.nx,L,S)
@[simp] def ag(f g:ES)(L:Lc)(S:aB):Fd:=match f L S with
 |some (.nx,h,x)=>g h x
 |r=>r
@[simp] def ar(i:Nat)(f:EE)(L:Lc)(S:aB):Fd:=bL (f L S) λd h=>some (.nx,L.set i (some d),h)
@[simp] def aS(f:EE)(L:Lc)(S:aB):Fd:=bL (f L S) λd h=>some (.rt d,L,h)
@[simp] def cf(f:EE)(L:Lc)(S:aB):Fd:=bL (f L S) λ_ h=>some (.nx,L,h)
@[simp] def dQ(c:EB)(a b:ES)(L:Lc)(S:aB):Fd:=bL (c L S) λk h=>if k=true then a L h else b L h
noncomputable def vX:ES:=λ_ _=>none
@[simp] def RY(L:Lc)(S:aB):Fd:=some (.bk,L,S)
noncomputable abbrev jK:=P->Lc->Option Lc
noncomputable def ak(i:Nat):jK:=λv L=>some (L.set i (some (.p v)))
noncomputable def bu(g:jK)(b:ES):List P->Lc->aB->Option (Fl×Lc×aB)
 | [],L,S=>some (.nx,L,S)
 |v::r,L,S=>match g v L with
  |none=>none
  |some a=>match b a S with
   |some (.nx,L2,h)=>bu g b r L2 h
   |some (.ct,L2,h)=>bu g b r L2 h
   |some (.bk,L2,h)=>some (.nx,L2,h)
   |x=>x
@[simp] def bW(i:iQ)(g:jK)(b:ES)(L:Lc)(S:aB):Fd:=bL (i L S) λxs h=>bu g b xs L h
open PySem PySem.Spec PyProof.Rows L2
section
variable(K:FG)
structure RL(F:Aa)(H:Hp)(m:List Addr)(σ:L2.St)(L:Lc):Prop where
 len:σ.length=L.length
 at':∀(i:Nat) d,L[i]? = some (some d)->∃v,σ[i]? = some (some v)/\RD K F H m d v
inductive tEI(f:EE)(σ:L2.St)(H:Hp)(Q:VK):Prop
 |mk (F:Aa) (m:List Addr) (L:Lc) (S:aB) (d:D) (S':aB) (h0_:Rel K F H m S) (h1_:RL K F H m σ L) (h2_:f L S=some (d,S')) (h3_:∀v F' m' H',Stp F m H F' m' H'->Rel K F' H' m' S'->RD K F' H' m' d v->Q v H'):tEI f σ H Q
noncomputable def tE(f:EE):TE:=λM H Q=>tEI K f M H Q
inductive tVI(f:EV)(σ:L2.St)(H:Hp)(Q:VK):Prop
 |mk (F:Aa) (m:List Addr) (L:Lc) (S:aB) (d:P) (S':aB) (h0_:Rel K F H m S) (h1_:RL K F H m σ L) (h2_:f L S=some (d,S')) (h3_:∀v F' m' H',Stp F m H F' m' H'->Rel K F' H' m' S'->RP K F' H' d v->Q v H'):tVI f σ H Q
noncomputable def tV(f:EV):TE:=λM H Q=>tVI K f M H Q
inductive tQI(f:EB)(σ:L2.St)(H:Hp)(Q:Bool->Hp->Prop):Prop
 |mk (F:Aa) (m:List Addr) (L:Lc) (S:aB) (b:Bool) (S':aB) (h0_:Rel K F H m S) (h1_:RL K F H m σ L) (h2_:f L S=some (b,S')) (h3_:∀F' m' H',Stp F m H F' m' H'->Rel K F' H' m' S'->Q b H'):tQI f σ H Q
noncomputable def tQ(f:EB):TT:=λM H Q=>tQI K f M H Q
inductive tVsI(f:iQ)(σ:L2.St)(H:Hp)(Q:List V->Hp->Prop):Prop
 |mk (F:Aa) (m:List Addr) (L:Lc) (S:aB) (ds:List P) (S':aB) (h0_:Rel K F H m S) (h1_:RL K F H m σ L) (h2_:f L S=some (ds,S')) (h3_:∀xs F' m' H',Stp F m H F' m' H'->Rel K F' H' m' S'->dt K F' H' ds xs->Q xs H'):tVsI f σ H Q
noncomputable def sW(f:iQ):TA:=λM H Q=>tVsI K f M H Q
def RU(D:Ends)(F:Aa)(m:List Addr)(M:L2.St)(H:Hp):Fl->Prop
 | .nx=>D.nx M H
 | .bk=>D.bk M H
 | .ct=>D.ct M H
 | .rt d=>∀v,RD K F H m d v->D.rt v H
inductive tStI(f:ES)(D:Ends)(σ:L2.St)(H:Hp):Prop
 |mk (F:Aa) (m:List Addr) (L:Lc) (S:aB) (fl:Fl) (L':Lc) (S':aB) (h0_:Rel K F H m S) (h1_:RL K F H m σ L) (h2_:f L S=some (fl,L',S')) (h3_:∀σ' F' m' H',Stp F m H F' m' H'->Rel K F' H' m' S'->RL K F' H' m' σ' L'->RU K D F' m' σ' H' fl):tStI f D σ H
noncomputable def jJ(f:ES):TS:=λD M H=>tStI K f D M H
end
section
variable{K:FG}{F F':Aa}{H H':Hp}{m m':List Addr}{M:L2.St}{L:Lc}{S:aB}
theorem RL.mono(s:Stp F m H F' m' H')(h:RL K F H m M L):RL K F' H' m' M L:=⟨h.len,λi d e=>by obtain⟨v,x,r⟩:=h.at' i d e;exact⟨v,x,RD.mono s r⟩⟩
theorem RL.set (h:RL K F H m M L) (r:RD K F H m d v) (i:Nat):RL K F H m (M.set i (some v)) (L.set i (some d)):=⟨by rw [cN,cN];exact h.len,fun j e q=>by
 by_cases x:i=j
 .subst x;by_cases a:i < L.length
  .rw [bH a]at q;cases q;exact⟨v,bH (by rw[h.len];exact a),r⟩
  .rw [qw (by rw[cN];lia)]at q;cases q
 .rw [aL x]at q;rw[aL x];exact h.at' j e q⟩
end
section
variable{X:Cx}{e:Expr}{u:Ab}{st:Stmt}{sts:List Stmt}
theorem _root_.L2.PE.imp'(h:PE X e t)(i:∀M H Q,k M H Q->t M H Q):PE X e k:=λp s M H Q I q=>h p s M H Q I (i M H Q q)
theorem _root_.L2.PT.imp'(h:PT X e t)(i:∀M H Q,k M H Q->t M H Q):PT X e k:=λp s M H Q I q=>h p s M H Q I (i M H Q q)
theorem _root_.L2.PW.imp'(h:PW X e t)(i:∀M H Q,k M H Q->t M H Q):PW X e k:=λw p s M H Q I q=>h w p s M H Q I (i M H Q q)
theorem _root_.L2.PA.imp'(h:PA X u t)(i:∀M H Q,k M H Q->t M H Q):PA X u k:=λN p s M H Q I q=>h N p s M H Q I (i M H Q q)
theorem _root_.L2.PS.imp'(h:PS X st t)(i:∀D M H,k D M H->t D M H):PS X st k:=λp s M H D I q=>h p s M H D I (i D M H q)
theorem _root_.L2.jq.imp'(h:jq X sts t)(i:∀D M H,k D M H->t D M H):jq X sts k:=λp s M H D I q=>h p s M H D I (i D M H q)
end
section
variable{X:Cx}{a b c e:Expr}{u:Ab}{y fb:EV}{fe:EE}{N:Pos}
theorem Rp(h:PE X e (tE X.K fe)):PE X e (tV X.K (vE fe)):=h.imp' λM H Q z=>by obtain⟨F,m,L,S,d,T,r,l,q,k⟩:=z;obtain⟨a,x,n,f⟩:=ah q;refine⟨F,m,L,S,a,x,r,l,n,λv F' m' H' s b t=>?_⟩;obtain⟨C,w,c,_,p⟩:=n_ 9 f b t;exact k v C m' H' (s.trans w) c p
theorem NK(h:PE X e (tV X.K y)):PE X e (tE X.K (O y)):=h.imp' λM H Q z=>by obtain⟨F,m,L,S,d,T,r,l,q,k⟩:=z;obtain⟨x,c,a,n⟩:=ah q;cases n;exact⟨F,m,L,S,x,T,r,l,a,λv F' m' H' s f b=>k v F' m' H' s f b⟩
set_option tactic.hygienic true in
theorem Om(i:Nat)(s:X.N[i]? = some x:=by rfl)(n:HN X.e.scope x:=by first|exact Or.inl rfl|exact Or.inr (Or.inl rfl)|exact Or.inr (Or.inr rfl))(hd:(x == ("__debug__":Str))=false:=by decide)
  (h:(x == ("__classdict__":Str))=false:=by decide):PE X (.Name x N) (tE X.K (aN i)):=(rT s n hd h).imp' λM H Q z=>by
 obtain⟨F,m,L,S,d,T,r,l,q,k⟩:=z;unfold aN at q;split at q
 .rename_i b e;cases q;obtain⟨v,a,f⟩:=l.at' i _ e;exact⟨v,a,k v F m H .refl r f⟩
 .cases q
theorem xC(h:PE X e (tC v))(r:∀F H,RP X.K F H d v):PE X e (tV X.K (vC d)):=h.imp' λM H Q z=>by obtain⟨F,m,L,S,a,T,x,l,q,k⟩:=z;cases q;exact k v F m H .refl x (r F H)
theorem RB {i h N}:PE X (.Constant (.int i) h N) (tV X.K (vC (.int i))):=xC Mx λ_ _=>rfl
theorem TU {i h N}:PE X (.Constant (.bool i) h N) (tV X.K (vC (.bl i))):=xC Pf λ_ _=>rfl
theorem Rv {h N}:PE X (.Constant .none h N) (tV X.K (vC .non)):=xC Mw λ_ _=>rfl
theorem Rr {i h N}:PE X (.Constant (.str i) h N) (tV X.K (vC (.str i))):=xC Mt λ_ _=>rfl
inductive rPI(K:FG)(g:P->P->Option P)(x:V)(y:V)(H:Hp)(Q:VK):Prop
 |mk (F:Aa) (dx:P) (dy:P) (d:P) (h0_:(∀a,F a->H a≠none)) (h1_:RP K F H dx x) (h2_:RP K F H dy y) (h3_:g dx dy=some d) (h4_:∀v F' H',Grow F H F' H'->RP K F' H' d v->Q v H'):rPI K g x y H Q
noncomputable def rP(K:FG)(g:P->P->Option P):R2:=λx y H Q=>rPI K g x y H Q
def pJ(X:Cx)(f:Value->Value->Sem Value)(g:P->P->Option P):Prop:=jL X f (rP X.K g)
theorem vT(h:tV X.K (nY g y fb) M H t):L0 (rP X.K g) (tV X.K y) (tV X.K fb) M H t:=by
 obtain⟨F,m,L,S,d,T,r,l,q,k⟩:=h;obtain⟨x,s,K,q⟩:=ah q;obtain⟨a,o,P,q⟩:=ah q;refine⟨F,m,L,S,x,s,r,l,K,λv B A j b Q E=>?_⟩;refine⟨B,A,L,s,a,o,Q,l.mono b,P,λu C D I c f G=>?_⟩;cases e:g x a with
 |none=>rw[e]at q;cases q
 |some z=>rw[e]at q;cases q;refine⟨C,x,a,_,f.ft,RP.mono c E,G,e,λw p i n N=>?_⟩;exact k w p D i (b.trans (c.trans n.stp)) (f.grow n) N
theorem TN(o:pJ X (binaryOp k) g)(x:PE X a (tV X.K y))(e:PE X b (tV X.K fb)):PE X (.BinOp a k b N) (tV X.K (nY g y fb)):=
 (Pe o x e).imp' λ_ _ _ h=>vT h
theorem RE(o:pJ X (compareOp k) g)(x:PE X a (tV X.K y))(e:PE X b (tV X.K fb))(m:behindInMarks k b=false):PE X (.Compare a [k] [b] N) (tV X.K (nY g y fb)):=
 (Ch o x e m).imp' λ_ _ _ h=>vT h
theorem Fk(h:tQ X.K (bV (nY g y fb)) M H t):Fm (L0 (rP X.K g) (tV X.K y) (tV X.K fb)) M H t:=by
 refine vT ?_;obtain⟨F,m,L,S,d,T,r,l,q,k⟩:=h;obtain⟨x,n,e,q⟩:=ah q;cases x with
 |bl b=>cases q;exact⟨F,m,L,S,_,_,r,l,e,λv F' m' H' s a p=>⟨_,p,k F' m' H' s a⟩⟩
 |_=>cases q
theorem Rm(o:pJ X (compareOp k) g)(x:PE X a (tV X.K y))(e:PE X b (tV X.K fb))(m:behindInMarks k b=false):PT X (.Compare a [k] [b] N) (tQ X.K (bV (nY g y fb))):=
 (Ca o x e m).imp' λ_ _ _ h=>Fk h
variable{z qb:EB}{bS:Ab}
theorem Oi(h:PT X a (tQ X.K z)):PW X (.BoolOp .And [a] N) (tQ X.K z):=Js h
theorem Rk(h:PT X a (tQ X.K z)):PW X (.BoolOp .Or [a] N) (tQ X.K z):=Mh h
theorem Rn(n:PT X a (tQ X.K z))(f:PW X (.BoolOp .And (b::bS) N) (tQ X.K qb)):PW X (.BoolOp .And (a::b::bS) N) (tQ X.K (jI z qb)):=
 (Mi n f).imp' λM H Q t=>by
  obtain⟨F,m,L,S,d,T,r,l,q,k⟩:=t;obtain⟨c,h,e,q⟩:=ah q;refine⟨F,m,L,S,c,h,r,l,e,λF' m' H' s x=>?_⟩;cases c with
  |true=>rw[am rfl]at q ⊢;exact⟨F',m',L,h,d,T,x,l.mono s,q,λC p I w v=>k C p I (s.trans w) v⟩
  |false=>rw[au bt]at q ⊢;cases q;exact k F' m' H' s x
theorem TK(n:PT X a (tQ X.K z))(f:PW X (.BoolOp .Or (b::bS) N) (tQ X.K qb)):PW X (.BoolOp .Or (a::b::bS) N) (tQ X.K (CV z qb)):=
 (O' n f).imp' λM H Q t=>by
  obtain⟨F,m,L,S,d,T,r,l,q,k⟩:=t;obtain⟨c,h,e,q⟩:=ah q;refine⟨F,m,L,S,c,h,r,l,e,λF' m' H' s x=>?_⟩;cases c with
  |false=>rw[au bt]at q ⊢;exact⟨F',m',L,h,d,T,x,l.mono s,q,λC p I w v=>k C p I (s.trans w) v⟩
  |true=>rw[am rfl]at q ⊢;cases q;exact k F' m' H' s x
theorem Rl(h:PT X a (tQ X.K z)):PT X (.UnaryOp .Not a N) (tQ X.K (tU z)):=
 (Mj h).imp' λM H Q x=>by obtain⟨F,m,L,S,d,T,r,l,q,k⟩:=x;obtain⟨c,f,e,q⟩:=ah q;cases q;exact⟨F,m,L,S,c,T,r,l,e,λF' m' H' s n=>k F' m' H' s n⟩
theorem Oy {k} (h:PE X a (tV X.K (vB z))):PE X (.BoolOp k [a] N) (tV X.K (vB z)):=Mu h
theorem xn(h:tQ X.K z M H k)(x:∀b H',k b H'->t (.bl b) H'):tV X.K (vB z) M H t:=by obtain⟨F,m,L,S,d,T,r,l,q,a⟩:=h;exact⟨F,m,L,S,.bl d,T,r,l,by unfold vB;rw[q];rfl,λv F' m' H' s e p=>by rw[show v=.bl d from p];exact x _ _ (a F' m' H' s e)⟩
theorem Cm(h:tV X.K (vB z) M H k):tQ X.K z M H λb H'=>k (.bl b) H':=by obtain⟨F,m,L,S,d,T,r,l,q,x⟩:=h;obtain⟨c,n,e,q⟩:=ah q;cases q;exact⟨F,m,L,S,c,T,r,l,e,λF' m' H' s a=>x _ F' m' H' s a rfl⟩
theorem RF(f:PE X a (tV X.K (vB z)))(t:PE X (.BoolOp .And (b::bS) N) (tV X.K (vB qb))):PE X (.BoolOp .And (a::b::bS) N) (tV X.K (vB (jI z qb))):=
 (MA f t).imp' λM H Q h=>by
  obtain⟨F,m,L,S,d,T,r,l,q,k⟩:=Cm h;obtain⟨c,x,n,q⟩:=ah q;refine xn (k:=λc j=>if c=true then tV X.K (vB qb) M j Q else Q (.bl false) j) ⟨F,m,L,S,c,x,r,l,n,λF' m' H' s e=>?_⟩ λb H' q=>⟨b,rfl,q⟩;cases c with
  |true=>rw[am rfl]at q ⊢;exact xn (k:=λb I=>Q (.bl b) I) ⟨F',m',L,x,d,T,e,l.mono s,q,λC p I w v=>k C p I (s.trans w) v⟩ λ_ _ q=>q
  |false=>rw[au bt]at q ⊢;cases q;exact k F' m' H' s e
theorem TM(f:PE X a (tV X.K (vB z)))(t:PE X (.BoolOp .Or (b::bS) N) (tV X.K (vB qb))):PE X (.BoolOp .Or (a::b::bS) N) (tV X.K (vB (CV z qb))):=
 (Pd f t).imp' λM H Q h=>by
  obtain⟨F,m,L,S,d,T,r,l,q,k⟩:=Cm h;obtain⟨c,x,n,q⟩:=ah q;refine xn (k:=λc j=>if c=true then Q (.bl true) j else tV X.K (vB qb) M j Q) ⟨F,m,L,S,c,x,r,l,n,λF' m' H' s e=>?_⟩ λb H' q=>⟨b,rfl,q⟩;cases c with
  |false=>rw[au bt]at q ⊢;exact xn (k:=λb I=>Q (.bl b) I) ⟨F',m',L,x,d,T,e,l.mono s,q,λC p I w v=>k C p I (s.trans w) v⟩ λ_ _ q=>q
  |true=>rw[am rfl]at q ⊢;cases q;exact k F' m' H' s e
theorem Ru(x:PE X a (tV X.K (vB z))):PE X (.UnaryOp .Not a N) (tV X.K (vB (tU z))):=
 (Mv x).imp' λM H Q h=>by obtain⟨F,m,L,S,d,T,r,l,q,k⟩:=Cm h;obtain⟨c,f,e,q⟩:=ah q;cases q;exact xn (k:=λb H'=>Q (.bl (!b)) H') ⟨F,m,L,S,c,T,r,l,e,λF' m' H' s n=>k F' m' H' s n⟩ λb H' q=>⟨b,rfl,q⟩
theorem BR(h:PE X e (tV X.K y)):PE X e (tV X.K (vB (bV y))):=h.imp' λM H Q h=>by
 obtain⟨F,m,L,S,d,T,r,l,q,k⟩:=Cm h;obtain⟨x,f,a,q⟩:=ah q;cases x with
 |bl b=>cases q;exact⟨F,m,L,S,_,_,r,l,a,λv F' m' H' s n p=>by cases (show v=.bl d from p);exact k F' m' H' s n⟩
 |_=>cases q
theorem TR(u:PT X c (tQ X.K z))(p:PE X a (tV X.K y))(w:PE X b (tV X.K fb)):PE X (.IfExp c a b N) (tV X.K (OF z y fb)):=
 (FY u p w).imp' λM H Q g=>by
  obtain⟨F,m,L,S,d,T,r,l,q,k⟩:=g;obtain⟨c,h,t,q⟩:=ah q;refine⟨F,m,L,S,c,h,r,l,t,λF' m' H' s f=>?_⟩;cases c with
  |true=>rw[am rfl]at q ⊢;exact⟨F',m',L,h,d,T,f,l.mono s,q,λv C x I n e=>k v C x I (s.trans n) e⟩
  |false=>rw[au bt]at q ⊢;exact⟨F',m',L,h,d,T,f,l.mono s,q,λv C x I n e=>k v C x I (s.trans n) e⟩
variable{fs:iQ}
theorem NF:PA X [] (sW X.K bf):=gM.imp' λM H Q h=>by obtain⟨F,m,L,S,d,T,r,l,q,k⟩:=h;cases q;exact k [] F m H .refl r rfl
theorem Ld(c:PE X e (tV X.K y))(t:PA X u (sW X.K fs))(p:starEach (e::u) X.e=(false,eval e X.e)::starEach u X.e:=by rfl):PA X (e::u) (sW X.K (bc y fs)):=
 (d7 c t p).imp' λM H Q z=>by obtain⟨F,m,L,S,d,T,r,l,q,k⟩:=z;obtain⟨x,h,f,q⟩:=ah q;obtain⟨xs,A,b,q⟩:=ah q;cases q;refine⟨F,m,L,S,x,h,r,l,f,λv B w j s K i=>?_⟩;refine⟨B,w,L,h,xs,T,K,l.mono s,b,λn C g I a P o=>?_⟩;exact k (v::n) C g I (s.trans a) P ⟨v,n,rfl,RP.mono a i,o⟩
noncomputable def few(xs:List Q):Bool:=decide (xs.length≤1000000)
theorem kW{Q:Type}{xs:List Q}(h:few xs=true):xs.length≤sizeLine:=aF (be h) (by decide)
@[simp] def aR(a:iQ)(L:Lc)(S:aB):tyV:=bL (a L S) λxs h=>if few xs=true then some (.tup xs,h) else none
@[simp] def bq(a:iQ)(L:Lc)(S:aB):tyV:=bL (a L S) λxs h=>if few xs=true then some (.lst xs,h) else none
@[simp] def cZ(a:iQ)(L:Lc)(S:aB):xb:=bL (a L S) λxs h=>if few xs=true then some (.ref h.length,h++[.lst (xs.map .p)]) else none
set_option tactic.hygienic true in
theorem Rq {t} (h:PA X u (sW X.K fs)):PE X (.Tuple u t N) (tV X.K (aR fs)):=(rV h).imp' λM H Q z=>by
 obtain⟨F,m,L,S,d,T,r,l,q,k⟩:=z;obtain⟨xs,c,e,q⟩:=ah q;split at q
 .rename_i f;cases q;refine⟨F,m,L,S,xs,T,r,l,e,λv B s j b n a=>⟨by rw[<- a.length];exact kW f,λp x=>?_⟩⟩;exact k (.ref p) B s _ (b.trans (cu x).stp) (n.grow (cu x)) (.newTup x a)
 .cases q
set_option tactic.hygienic true in
theorem Rx(h:PA X u (sW X.K fs)):PE X (.List u N) (tV X.K (bq fs)):=(FW h).imp' λM H Q z=>by
 obtain⟨F,m,L,S,d,T,r,l,q,k⟩:=z;obtain⟨xs,c,e,q⟩:=ah q;split at q
 .rename_i f;cases q;refine⟨F,m,L,S,xs,T,r,l,e,λv B s j b n a=>⟨by rw[<- a.length];exact kW f,λp x=>?_⟩⟩;exact k (.ref p) _ s _ (b.trans (cL x).stp) (n.grow (cL x)) (.newLst x a)
 .cases q
set_option tactic.hygienic true in
theorem KE(h:PA X u (sW X.K fs)):PE X (.List u N) (tE X.K (cZ fs)):=(FW h).imp' λM H Q z=>by
 obtain⟨F,m,L,S,d,T,r,l,q,k⟩:=z;obtain⟨xs,f,b,q⟩:=ah q;split at q
 .rename_i c;cases q;refine⟨F,m,L,S,xs,f,r,l,b,λv B x j t s e=>⟨by rw[<- e.length];exact kW c,λp a=>?_⟩⟩;have n:Stp B x j B (x++[p]) (upd j p (.lst v)):=fJ a;refine k (.ref p) B (x++[p]) _ (t.trans n) (s.own a ⟨v,aJ,dA.ofP (dt.mono n e)⟩) ⟨p,rfl,?_⟩;rw[<- s.len,cB (al _)];simp
 .cases q
def rC(K:FG)(g:List P->Option P):List V->Hp->VK->Prop:=λxs H Q=>∃F s d,(∀a,F a->H a≠none)/\dt K F H s xs/\g s=some d/\∀v F' H',Grow F H F' H'->RP K F' H' d v->Q v H'
theorem yY(h:tV X.K (cP g fs) M H t):sW X.K fs M H λs j=>rC X.K g s j t:=by
 obtain⟨F,m,L,S,d,T,r,l,q,k⟩:=h;obtain⟨xs,w,n,q⟩:=ah q;cases e:g xs with
 |none=>rw[e]at q;cases q
 |some z=>rw[e]at q;cases q;exact⟨F,m,L,S,xs,_,r,l,n,λs B f j c a b=>⟨B,xs,_,a.ft,b,e,λv C I x p=>k v C f I (c.trans x.stp) (a.grow x) p⟩⟩
theorem LF{x:Str}{p:Pos}{id:String}{g:List P->Option P}(c:dW X (.builtin id) (rC X.K g))(n:Gl X x)(m:X.g x=none)(v:bootBuiltins x=some (.builtin id))(a:PA X (e::u) (sW X.K fs))(k:x≠"__name__":=by decide)(d:(x == ("__debug__":Str))=false:=by decide)
  (s:starEach (e::u) X.e=(false,eval e X.e)::starEach u X.e:=by rfl) (l:(backTo N (starEach u X.e)).any (·.1)=false:=by rfl):PE X (.Call (.Name x p) (e::u) [] N) (tV X.K (cP g fs)):=
 (kM c n m v a k d s l).imp' λ_ _ _ h=>yY h
theorem yQ(c:dW X (.type k) (rC X.K g))(n:Gl X x)(m:X.g x=none)(v:bootBuiltins x=some (.type k))(a:PA X (e::u) (sW X.K fs))(f:x≠"__name__":=by decide)(d:(x == ("__debug__":Str))=false:=by decide)
  (s:starEach (e::u) X.e=(false,eval e X.e)::starEach u X.e:=by rfl) (l:(backTo N (starEach u X.e)).any (·.1)=false:=by rfl):PE X (.Call (.Name x p) (e::u) [] N) (tV X.K (cP g fs)):=
 (oo c n m v a f d s l).imp' λ_ _ _ h=>yY h
noncomputable def QG(K:FG)(g:List P->Option P):Sp:=λv H Q _=>rC K g v H Q
theorem Ox(G:FnOk X.p X.w X.K X.g X.b pL k f t ps (QG X.K g))(y:Room k X.A)(w:Gl X x)(j:X.g x=some (.ref f))(i:dZ X.K (.ref f)=true)(c:Binds X.K t ps [])
  (b:PA X (e::u) (sW X.K fs)) (d:(x == ("__debug__":Str))=false:=by decide) (v:starEach (e::u) X.e=(false,eval e X.e)::starEach u X.e:=by rfl) (a:(backTo N (starEach u X.e)).any (·.1)=false:=by rfl) :
  PE X (.Call (.Name x p) (e::u) [] N) (tV X.K (cP g fs)):=
 (qM G y w j i c .nil rW b d v a).imp' λM H Q h=>by obtain⟨F,m,L,S,n,T,r,l,q,k⟩:=yY h;exact⟨F,m,L,S,n,T,r,l,q,λxs F' m' H' s z p=>by show QG X.K g (xs++[]) H' Q E0;rw[dB];exact k xs F' m' H' s z p⟩
end
section
variable{X:Cx}{a b e:Expr}{st:Stmt}{bS bs cs:List Stmt}{f g:ES}{fe:EE}{z:EB}{N:Pos}
theorem Rh:jq X [] (jJ X.K eM):=Jt.imp' λD M H h=>by obtain⟨F,m,L,S,f,x,T,r,l,q,k⟩:=h;cases q;exact k M F m H .refl r l
theorem Od(y:PS X st (jJ X.K f))(z:jq X bS (jJ X.K g)):jq X (st::bS) (jJ X.K (ag f g)):=(m7 y z).imp' λD M H o=>by
 obtain⟨F,m,L,S,w,v,T,r,l,q,k⟩:=o;cases e:f L S with
 |none=>rw[show ag f g L S=none by unfold ag;rw[e]]at q;cases q
 |some x=>
  obtain⟨u,t,p⟩:=x;cases u with
  |nx=>
   have n:g t p=some (w,v,T):=by have:=q;unfold ag at this;rw[e]at this;exact this
   exact⟨F,m,L,S,.nx,t,p,r,l,e,λh B s j c b a=>⟨B,s,t,p,w,v,T,b,a,n,λi C P I E A K=>k i C P I (c.trans E) A K⟩⟩
  |rt d=>
   have n:some (Fl.rt d,t,p)=some (w,v,T):=by have:=q;unfold ag at this;rw[e]at this;exact this
   cases n;exact⟨F,m,L,S,_,_,_,r,l,e,λh B s j c b a=>k h B s j c b a⟩
  |bk=>
   have n:some (Fl.bk,t,p)=some (w,v,T):=by have:=q;unfold ag at this;rw[e]at this;exact this
   cases n;exact⟨F,m,L,S,_,_,_,r,l,e,λh B s j c b a=>k h B s j c b a⟩
  |ct=>
   have n:some (Fl.ct,t,p)=some (w,v,T):=by have:=q;unfold ag at this;rw[e]at this;exact this
   cases n;exact⟨F,m,L,S,_,_,_,r,l,e,λh B s j c b a=>k h B s j c b a⟩
theorem EW(h:PS X st (jJ X.K f)):jq X [st] (jJ X.K f):=m5 h
theorem Lj(h:PE X e (tE X.K fe)):PS X (.Return (some e) N) (jJ X.K (aS fe)):=(FM h).imp' λD M H z=>by obtain⟨F,m,L,S,b,n,T,r,l,q,k⟩:=z;obtain⟨d,f,x,q⟩:=ah q;cases q;exact⟨F,m,L,S,d,T,r,l,x,λv F' m' H' s a p=>k M F' m' H' s a (l.mono s) v p⟩
theorem Oc(h:PE X e (tE X.K fe))(a:swapsWith e none N.line X.e=pure false:=by rfl):PS X (.Expr e N) (jJ X.K (cf fe)):=(Cb h a).imp' λD M H z=>by obtain⟨F,m,L,S,c,f,T,r,l,q,k⟩:=z;obtain⟨d,b,x,q⟩:=ah q;cases q;exact⟨F,m,L,S,d,T,r,l,x,λv F' m' H' s n p=>k M F' m' H' s n (l.mono s)⟩
theorem C8(i:Nat)(n:X.N.Nodup)(h:PE X e (tE X.K fe))(b:X.N[i]? = some x:=by rfl)(w:Loc X.e.scope x:=by first|exact Or.inl rfl|exact Or.inr rfl)(c:swapsWith e (some (.Name x t)) N.line X.e=pure false:=by rfl)
  (f:X.fn x=true\/X.e.scope.names.lookup x=some .local:=by first|exact .inl rfl|exact .inr rfl|assumption):PS X (.Assign [.Name x t] e N) (jJ X.K (ar i fe)):=
 (FK n b w h c f).imp' λD M H z=>by obtain⟨F,m,L,S,y,g,T,r,l,q,k⟩:=z;obtain⟨d,j,a,q⟩:=ah q;cases q;exact⟨F,m,L,S,d,T,r,l,a,λv F' m' H' s u p=>k (M.set i (some v)) F' m' H' s u ((l.mono s).set p i)⟩
theorem TH(i:PT X c (tQ X.K z))(w:jq X bs (jJ X.K f))(u:jq X cs (jJ X.K g)):PS X (.If c bs cs N) (jJ X.K (dQ z f g)):=(Pa i w u).imp' λD M H j=>by
 obtain⟨F,m,L,S,p,t,T,r,l,q,k⟩:=j;obtain⟨c,x,d,q⟩:=ah q;refine⟨F,m,L,S,c,x,r,l,d,λF' m' H' s v=>?_⟩;cases c with
 |true=>rw[am rfl]at q ⊢;exact⟨F',m',L,x,p,t,T,v,l.mono s,q,λh C e I b n a=>k h C e I (s.trans b) n a⟩
 |false=>rw[au bt]at q ⊢;exact⟨F',m',L,x,p,t,T,v,l.mono s,q,λh C e I b n a=>k h C e I (s.trans b) n a⟩
theorem Lk:PS X st (jJ X.K vX):=FN.imp' λD M H h=>by obtain⟨F,m,L,S,f,x,T,r,l,q,k⟩:=h;cases q
theorem TJ:PS X (.Break N) (jJ X.K RY):=FP.imp' λD M H h=>by obtain⟨F,m,L,S,f,x,T,r,l,q,k⟩:=h;cases q;exact k M F m H .refl r l
inductive gTI(K:FG)(g:jK)(x:V)(σ:L2.St)(H:Hp)(Q:L2.St->Hp->Prop):Prop
 |mk (F:Aa) (m:List Addr) (L:Lc) (v:P) (L':Lc) (h0_:RL K F H m σ L) (h1_:RP K F H v x) (h2_:g v L=some L') (h3_:∀σ',RL K F H m σ' L'->Q σ' H):gTI K g x σ H Q
noncomputable def gT(K:FG)(g:jK):TG:=λx M H Q=>gTI K g x M H Q
theorem _root_.L2.PG.imp'(h:PG X tg t)(i:∀v M H Q,k v M H Q->t v M H Q):PG X tg k:=λp s M H v u Q I r q=>h p s M H v u Q I r (i v M H Q q)
theorem M_(i:Nat)(h:X.N.Nodup)(a:X.N[i]? = some x:=by rfl)(e:Loc X.e.scope x:=by first|exact Or.inl rfl|exact Or.inr rfl)(f:X.fn x=true\/X.e.scope.names.lookup x=some .local:=by first|exact .inl rfl|exact .inr rfl|assumption) :
  PG X (.Name x N) (gT X.K (ak i)):=(JC h a e f).imp' λv M H Q z=>by
 obtain⟨F,m,L,d,s,l,p,q,k⟩:=z;cases q;exact k _ (l.set (d:=.p d) p i)
def N6(K:FG)(a:It)(s:List P)(F:Aa)(m:List Addr)(H:Hp):Prop:=∀C n I,Stp F m H C n I ->
 (∀(i:Nat) v,s[i]? = some v->a.go i I/\∀x h,a.yld i I x h->∃e,Grow C I e h/\RP K e h v x)/\a.stop s.length I
inductive tII(K:FG)(f:iQ)(σ:L2.St)(H:Hp)(R:It->Hp->Prop):Prop
 |mk (F:Aa) (m:List Addr) (L:Lc) (S:aB) (vs:List P) (S':aB) (h0_:Rel K F H m S) (h1_:RL K F H m σ L) (h2_:f L S=some (vs,S')) (h3_:∀J9 F' m' H',Stp F m H F' m' H'->Rel K F' H' m' S'->N6 K J9 vs F' m' H'->R J9 H'):tII K f σ H R
noncomputable def tI(K:FG)(f:iQ):TI:=λM H R=>tII K f M H R
theorem Ri{tg iter:Expr}{fi:iQ}{g:jK}{b:List Stmt}{fb:ES}(hp:PassesOwn (model X.p X.w) X.A X.e X.xe)(hc:X.c=true)(hi:PI X tg iter (tI X.K fi))(hg:PG X tg (gT X.K g))(hb:jq X b (jJ X.K fb))
  (hs:∀x,foldedSetIterable iter X.e x=pure x:=by intro _;rfl):PS X (.For tg iter b [] N) (jJ X.K (bW fi g fb)):=
 (FO hp hc hi hg hb hs).imp' λD M H hz=>by
  obtain⟨F,m,L,S,fl,L',T,r,l,q,k⟩:=hz;obtain⟨v,S1,e1,q⟩:=ah q;refine⟨F,m,L,S,v,S1,r,l,e1,fun J9 B A j Q r1 it=>?_⟩;refine⟨fun i n f I=>n=v.length-i/\i≤v.length/\∃C a L2 s,Stp B A j C a I/\Rel X.K C I a s/\RL X.K C I a f L2/\bu g fb (v.drop i) L2 s=some (fl,L',T),
   ⟨v.length,rfl,ck _,B,A,L,S1,.refl,r1,l.mono Q,by rw[mM];exact q⟩,?_⟩
  rintro i n f I ⟨rfl,hi,C,a,L2,s,s2,r2,l2,h⟩;obtain⟨go,o⟩:=it C a I s2;by_cases t:i < v.length
  .right;have hv:v[i]? = some v[i]:=by simp[t]
   rw[vm t]at h;obtain⟨hgo,hy⟩:=go i _ hv;refine⟨hgo,λw c=>∃n',n' < v.length-i/\(n'=v.length-(i+1)/\i+1≤v.length/\∃C a L2 s,Stp B A j C a c/\Rel X.K C c a s/\RL X.K C c a w L2/\bu g fb (v.drop (i+1)) L2 s=some (fl,L',T)),λ_ _ z=>z,λx c y=>?_⟩;obtain⟨W,gr,p3⟩:=hy x c y;unfold bu at h;cases eg:g v[i] L2 with
   |none=>rw[eg]at h;cases h
   |some Z=>
    rw[eg]at h;dsimp only at h;refine⟨W,a,L2,v[i],Z,l2.mono gr.stp,p3,eg,λw l3=>?_⟩;have R:Stp B A j W a c:=s2.trans gr.stp;have r3:=r2.grow gr;cases eb:fb Z s with
    |none=>rw[eb]at h;cases h
    |some z=>
     obtain⟨p,L4,S4⟩:=z;rw[eb]at h;refine⟨W,a,Z,s,p,L4,S4,r3,l3,eb,λu K E H4 V G P=>?_⟩;cases p with
     |nx=>exact⟨v.length-(i+1),by lia,rfl,t,K,E,L4,S4,R.trans V,G,P,h⟩
     |ct=>exact⟨v.length-(i+1),by lia,rfl,t,K,E,L4,S4,R.trans V,G,P,h⟩
     |bk=>cases h;exact k u K E H4 (Q.trans (R.trans V)) G P
     |rt d=>cases h;exact k u K E H4 (Q.trans (R.trans V)) G P
  .left;have e:i=v.length:=by lia
   subst e;rw[qg]at h;cases h;exact⟨o,k f C a I (Q.trans s2) r2 l2⟩
end
theorem Stp.toGrow(s:Stp F [] H F' m' H')(f:∀a,F' a->H' a≠none):Grow F H F' H':=
 ⟨fun b o h=>s.oth b o h (by simp),s.frz,fun b h=>by
  rcases s.nf b h with q|q|q
  .exact .inl q
  .exact .inr ⟨q,f b h⟩
  .simp at q⟩
theorem lM{Q:Prop}{β:Type}{d:β}(h:(none:Option β)=some d):Q:=nomatch h
noncomputable def hV(n:Nat):Bool:=decide (n≤1000000)
theorem i9(h:hV n=true):n≤sizeLine:=aF (be h) (by decide)
section
variable{X:Cx}
def wT:P->P->Option P
 | .int i,.int j=>some (.int (i+j))
 | .str x,.str y=>if hV (x.length+y.length)=true then some (.str (x++y)) else none
 | .tup xs,.tup s=>if (!xs.isEmpty && hV (xs.length+s.length))=true then some (.tup (xs++s)) else none
 | .lst xs,.lst s=>if hV (xs.length+s.length)=true then some (.lst (xs++s)) else none
 |_,_=>none
set_option tactic.hygienic true in
theorem Py:pJ X (binaryOp .Add) wT:=by
 intro f s M H x y v n Q I o S h;obtain⟨F,E,w,d,G,g,l,q,k⟩:=h;cases E with
 |int i=>
  cases w with
  |int j=>cases q;cases (show x=.int i from g);cases (show y=.int j from l);exact MH f s M H _ _ v n Q I o S ⟨i,j,rfl,rfl,k _ F H .refl rfl⟩
  |_=>exact lM q
 |str i=>
  cases w with
  |str j=>
   simp only[wT]at q;split at q
   .rename_i c;cases q;cases (show x=.str i from g);cases (show y=.str j from l);exact y_ f s M H _ _ v n Q I o S ⟨i,j,rfl,rfl,i9 c,k _ F H .refl rfl⟩
   .cases q
  |_=>exact lM q
 |tup B=>
  cases w with
  |tup u=>
   simp only[wT]at q;split at q
   .rename_i c;rw[az]at c;cases q;obtain⟨a,xs,rfl,K,r⟩:=g;obtain⟨b,A,rfl,P,t⟩:=l;have C:=r.length;have D:=t.length;have nx:xs≠[]:=λz=>by
     subst z;have:B=[]:=g8 C;subst this;simp at c
    refine JH f s M H _ _ v n Q I o S ⟨a,b,xs,A,rfl,rfl,K.sq,P.sq,nx,by rw[<- C,<- D];exact i9 c.2,λz=>?_,λ_ p m=>?_⟩
    .subst z;have e:u=[]:=g8 D;subst e;refine k _ F H .refl ?_;rw[dB];exact⟨a,xs,rfl,K,r⟩
    .exact k _ F _ (cu m) (.newTup m (r.append t))
   .cases q
  |_=>exact lM q
 |lst B=>
  cases w with
  |lst u=>
   simp only[wT]at q;split at q
   .rename_i c;cases q;obtain⟨a,xs,rfl,K,r⟩:=g;obtain⟨b,A,rfl,P,t⟩:=l;exact MG f s M H _ _ v n Q I o S ⟨a,b,xs,A,rfl,rfl,K.2,P.2,by rw[<- r.length,<- t.length];exact i9 c,λp m=>k _ _ _ (cL m) (.newLst m (r.append t))⟩
   .cases q
  |_=>exact lM q
 |_=>exact lM q
noncomputable def HM(c:Int->Int->Bool)(g:Int->Int->P):P->P->Option P
 | .int i,.int j=>if c i j=true then some (g i j) else none
 |_,_=>none
@[simp] theorem Kk(c:Int->Int->Bool)(g:Int->Int->P)(i j:Int):HM c g (.int i) (.int j)=if c i j=true then some (g i j) else none:=rfl
set_option tactic.hygienic true in
theorem xB{f:Value->Value->Sem Value}{C:Int->Int->Prop}{a:Int->Int->V}{c:Int->Int->Bool}{g:Int->Int->P}(o:jL X f (rI C a))(b:∀i j,c i j=true->C i j)(m:∀K F H i j,RP K F H (g i j) (a i j)):pJ X f (HM c g):=by
 intro p s M H x y v u Q I l z h;obtain⟨F,e,n,d,S,t,w,q,k⟩:=h;cases e with
 |int i=>
  cases n with
  |int j=>
   rw[Kk]at q;split at q
   .rename_i r;cases q;cases (show x=.int i from t);cases (show y=.int j from w);exact o p s M H _ _ v u Q I l z ⟨i,j,rfl,rfl,b i j r,k _ F H .refl (m _ _ _ _ _)⟩
   .cases q
  |_=>exact lM q
 |_=>exact lM q
theorem rS(h:jL X f (Jp k)):jL X f (rI (λ_ _=>True) k):=λp s M H x y v u Q I r n ⟨i,j,e,a,_,q⟩=>h p s M H x y v u Q I r n ⟨i,j,e,a,q⟩
noncomputable abbrev EY:Int->Int->Bool:=λ_ _=>true
abbrev Nn:=HM EY λi j=>.int (i-j)
theorem Pn:pJ X (binaryOp .Sub) Nn:=xB (rS MB) (λ_ _ _=>trivial) λ_ _ _ _ _=>rfl
noncomputable abbrev Mp:Int->Int->Bool:=λ_ j=>decide (0 < j) && decide (j < 1152921504606846976)
theorem Gc:jL X (binaryOp .FloorDiv) (rI (λ_ j=>0 < j/\j < 1152921504606846976) λi j=>.int (i / j)):=QK λi j _ _ _ _ _ h q=>by have a:(0:Int) < j:=h.1;have e:j < 1152921504606846976:=h.2;have x:j.natAbs.log2 < 9000:=bN ((Bl (by lia)).mpr (show j.natAbs < 2 ^ 60 by lia)) (by decide);exact floordiv_int (by lia) (by rw[Int.fdiv_eq_ediv_of_nonneg i (by lia)];exact q) (.inl (PyProof.noPylong_of_log2 x))
abbrev zC:=HM Mp λi j=>.int (i / j)
theorem JI:pJ X (binaryOp .FloorDiv) zC:=xB Gc (λi j h=>by rw[az]at h;exact⟨be h.1,be h.2⟩) λ_ _ _ _ _=>rfl
abbrev Np:=HM (λ_ j=>decide (0 < j)) λi j=>.int (i % j)
theorem Pr:pJ X (binaryOp .Mod) Np:=xB ME (λi j h=>be h) λ_ _ _ _ _=>rfl
abbrev No:=HM (λi j=>decide (0≤j) && decide (j≤1000000) && decide (i.natAbs < 2 ^ 64)) λi j=>.int (i ^ j.toNat)
theorem Po:pJ X (binaryOp .Pow) No:=xB MD (λi j h=>by simp only[az]at h;exact⟨be h.1.1,be h.1.2,be h.2⟩) λ_ _ _ _ _=>rfl
abbrev Sx:=HM EY λi j=>.bl (decide (i < j))
theorem R_:pJ X (compareOp .Lt) Sx:=xB (rS Pj) (λ_ _ _=>trivial) λ_ _ _ _ _=>rfl
abbrev Qj:=HM EY λi j=>.bl (decide (i≤j))
theorem R':pJ X (compareOp .LtE) Qj:=xB (rS Pk) (λ_ _ _=>trivial) λ_ _ _ _ _=>rfl
abbrev Sz:=HM EY λi j=>.bl (decide (j < i))
theorem Sa:pJ X (compareOp .Gt) Sz:=xB (rS Pl) (λ_ _ _=>trivial) λ_ _ _ _ _=>rfl
abbrev SD:=HM EY λi j=>.bl (decide (j≤i))
theorem Sb:pJ X (compareOp .GtE) SD:=xB (rS Pm) (λ_ _ _=>trivial) λ_ _ _ _ _=>rfl
noncomputable def fY(i j:Int):Bool:=decide (i.natAbs.log2+j.natAbs.log2 < 100000000)
theorem Gn{i j:Int}(h:fY i j=true):IntMulOk i j:=by
 have a:i.natAbs.log2+j.natAbs.log2 < 100000000:=be h;have b:∀x:Int,Builtin.Int.intBits x≤x.natAbs.log2+1:=λx=>by
  unfold Builtin.Int.intBits;split
  .exact ck _
  .exact al _
 exact IntMulOk.of_le (b i) (b j) (by lia)
theorem JG:jL X (binaryOp .Mult) (rI (λi j=>IntMulOk i j) λi j=>.int (i * j)):=QK λ_ _ _ _ _ _ _ h q=>mul_int q h
noncomputable def d_(x:Str)(n:Nat):Str:=⟨(List.replicate n x.cps).foldl (·++·) #[]⟩
theorem y0(x:Str):d_ x 1=x:=by unfold d_;cases x;simp
theorem DM(n:Nat):(List.replicate n (#[]:Array Nat)).foldl (·++·) #[]=#[]:=by
 induction n with
 |zero=>rfl
 |succ n i=>rw[cX,fC];simpa using i
theorem vU(x:Str)(n:Nat)(h:x.length=0):d_ x n=x:=by have e:x.cps=#[]:=Array.eq_empty_of_size_eq_zero (by simpa[mH] using h);unfold d_;cases x;simp only at e;subst e;rw[DM]
theorem zq(a:Array Nat)(n:Nat):∀b:Array Nat,((List.replicate n a).foldl (·++·) b).size=b.size+n * a.size:=by
 induction n with
 |zero=>intro b;simp
 |succ n i=>intro b;rw[cX,fC,i,AW,vq];lia
theorem lL(x:Str)(n:Nat):(d_ x n).length=n * x.length:=by unfold d_ mH;simp only;rw[zq];simp
def wS:P->P->Option P
 | .int i,.int j=>if fY i j=true then some (.int (i * j)) else none
 | .str x,.int n=>if (hV (n.toNat * x.length) && decide (n.natAbs < 1000000))=true then some (.str (d_ x n.toNat)) else none
 | .lst xs,.int n=>if (hV (xs.length * n.toNat) && decide (n.natAbs < 1000000))=true then some (.lst (List.replicate n.toNat xs).flatten) else none
 |_,_=>none
theorem dt.rep(h:dt K F H r xs):∀k:Nat,dt K F H (List.replicate k r).flatten (List.replicate k xs).flatten
 |0=>rfl
 |k+1=>by rw[cX,cX,gj,gj];exact h.append (dt.rep h k)
set_option tactic.hygienic true in
theorem Pq:pJ X (binaryOp .Mult) wS:=by
 intro r s M H x y v u Q I o S h;obtain⟨F,B,w,d,N,g,l,q,k⟩:=h;cases B with
 |int i=>
  cases w with
  |int j=>
   simp only[wS]at q;split at q
   .rename_i c;cases q;cases (show x=.int i from g);cases (show y=.int j from l);exact JG r s M H _ _ v u Q I o S ⟨i,j,rfl,rfl,Gn c,k _ F H .refl rfl⟩
   .cases q
  |_=>exact lM q
 |str i=>
  cases w with
  |int n=>
   simp only[wS]at q;split at q
   .rename_i c;rw[az]at c;have E:=be c.2;have R:n.toNat * i.length≤1000000:=be c.1;have V:=kO;have W:(1000000:Nat)≤sizeLine:=by decide
    cases q;cases (show x=.str i from g);cases (show y=.int n from l);obtain⟨t,rfl⟩:=o;obtain⟨Z,rfl⟩:=S;refine PySem.P.mul_str (by have C:decide (n < -(2 ^ 63:Int))=false:=cT (by lia);have D:decide (n ≥ 2 ^ 63)=false:=cT (by lia);rw[C,D];rfl) (λa b=>?_) (λa b=>?_) ?_
    .intro z;have T:((i.length:Nat):Int)≤(2 ^ 63-1) / n:=by
      refine(Int.le_ediv_iff_mul_le (by lia)).mpr ?_;have e:((i.length:Nat):Int) * n=((n.toNat * i.length:Nat):Int):=by rw[Ad,Ae (by lia),Int.mul_comm]
      rw[e];lia
     lia
    .unfold Builtin.Str.tooLong;first
      |exact cT (by rw[qy];lia)
      |(rw[qy];exact cT (by lia))
    .have f:Q (.str (d_ i n.toNat)) H:=k _ F H .refl rfl;by_cases K:n < 1
     .rw [am K];have e:n.toNat=0:=by lia
      rw[e]at f;exact⟨by decide,⟨.str Str.empty,H,I.tok _,⟨_,rfl⟩,f⟩⟩
     .rw [au K];by_cases m:(n == 1 ||i.length == 0)=true
      .rw [am m];rw[u1]at m;have e:d_ i n.toNat=i:=by
        rcases m with m|m
        .have:n=1:=by simpa using m
         subst this;exact y0 i
        .exact vU i _ (by simpa using m)
       rw[e]at f;exact⟨.str i,H,I,⟨_,rfl⟩,f⟩
      .rw [au m];refine⟨?_,⟨.str (d_ i n.toNat),H,I.tok _,⟨_,rfl⟩,f⟩⟩;have:=lL i n.toNat
       unfold d_ at this;rw[this];lia
   .cases q
  |_=>exact lM q
 |lst L=>
  cases w with
  |int n=>
   simp only[wS]at q;split at q
   .rename_i c;rw[az]at c;have E:=be c.2;cases q;obtain⟨a,xs,rfl,G,A⟩:=g;cases (show y=.int n from l);exact MC r s M H _ _ v u Q I o S ⟨a,n,xs,rfl,rfl,G.2,by lia,by lia,by rw[<- A.length];exact i9 c.1,λp P=>k _ _ _ (cL P) (.newLst P (A.rep _))⟩
   .cases q
  |_=>exact lM q
 |_=>exact lM q
noncomputable def Tv:P->P->Option P
 | .int i,.int j=>some (.bl (decide (i=j)))
 | .str x,.str y=>some (.bl (decide (x=y)))
 | .bl a,.bl b=>some (.bl (decide (a=b)))
 |_,_=>none
noncomputable def dNe:P->P->Option P
 | .int i,.int j=>some (.bl (!decide (i=j)))
 | .str x,.str y=>some (.bl (!decide (x=y)))
 | .bl a,.bl b=>some (.bl (!decide (a=b)))
 |_,_=>none
theorem pe{i j:Int}:decide (V.int i=V.int j)=decide (i=j):=by
 by_cases h:i=j
 .subst h;simp
 .rw [cT h,cT λz=>h (V.int.inj z)]
theorem pc:decide (V.str i=V.str k)=decide (i=k):=by
 by_cases h:i=k
 .subst h;simp
 .rw [cT h,cT λz=>h (V.str.inj z)]
theorem sK:decide (V.bl i=V.bl k)=decide (i=k):=by
 by_cases h:i=k
 .subst h;simp
 .rw [cT h,cT λz=>h (V.bl.inj z)]
theorem Sc:pJ X (compareOp .Eq) Tv:=by
 intro p s M H x y v u Q I r f h;obtain⟨F,b,a,d,t,e,n,q,k⟩:=h;cases b with
 |int i=>
  cases a with
  |int j=>cases q;cases (show x=.int i from e);cases (show y=.int j from n);exact Gd p s M H _ _ v u Q I r f ⟨rfl,by rw[pe];exact k _ F H .refl rfl⟩
  |_=>exact lM q
 |str i=>
  cases a with
  |str j=>cases q;cases (show x=.str i from e);cases (show y=.str j from n);exact Gd p s M H _ _ v u Q I r f ⟨rfl,by rw[pc];exact k _ F H .refl rfl⟩
  |_=>exact lM q
 |bl i=>
  cases a with
  |bl j=>cases q;cases (show x=.bl i from e);cases (show y=.bl j from n);exact Gd p s M H _ _ v u Q I r f ⟨rfl,by rw[sK];exact k _ F H .refl rfl⟩
  |_=>exact lM q
 |_=>exact lM q
theorem R9:pJ X (compareOp .NotEq) dNe:=by
 intro p s M H x y v u Q I r f h;obtain⟨F,b,a,d,t,e,n,q,k⟩:=h;cases b with
 |int i=>
  cases a with
  |int j=>cases q;cases (show x=.int i from e);cases (show y=.int j from n);exact Gb p s M H _ _ v u Q I r f ⟨rfl,by rw[pe];exact k _ F H .refl rfl⟩
  |_=>exact lM q
 |str i=>
  cases a with
  |str j=>cases q;cases (show x=.str i from e);cases (show y=.str j from n);exact Gb p s M H _ _ v u Q I r f ⟨rfl,by rw[pc];exact k _ F H .refl rfl⟩
  |_=>exact lM q
 |bl i=>
  cases a with
  |bl j=>cases q;cases (show x=.bl i from e);cases (show y=.bl j from n);exact Gb p s M H _ _ v u Q I r f ⟨rfl,by rw[sK];exact k _ F H .refl rfl⟩
  |_=>exact lM q
 |_=>exact lM q
theorem CY{Q β:Type}{xs:List Q}{s:List β}{i:Int}{d:Q}(l:xs.length=s.length)(h:L2.atI xs i=some d):∃j:Nat,xs[j]? = some d/\∀y,s[j]? = some y->L2.atI s i=some y:=by
 unfold L2.atI at h ⊢;rw[l]at h;cases e:Cy s.length i with
 |none=>rw[e]at h;cases h
 |some j=>rw[e]at h;exact⟨j,h,λy x=>x⟩
theorem dt.atI{K:FG}{F:Aa}{H:Hp}{s:List P}{xs:List V}{i:Int}{d:P}(r:dt K F H s xs)(h:L2.atI s i=some d):∃x,L2.atI xs i=some x/\RP K F H d x:=by obtain⟨j,a,n⟩:=CY r.length h;obtain⟨x,e,p⟩:=r.get a;exact⟨x,n x e,p⟩
theorem dA.atI{K:FG}{F:Aa}{H:Hp}{m:List Addr}{s:List D}{xs:List V}{i:Int}{d:D}(r:dA K F H m s xs)(h:L2.atI s i=some d):∃x,L2.atI xs i=some x/\RD K F H m d x:=by obtain⟨j,a,n⟩:=CY r.length h;obtain⟨x,e,p⟩:=r.get a;exact⟨x,n x e,p⟩
noncomputable def cF(k:cj):List cj->List Q->Option Q
 |h::s,v::x=>if h=k then some v else cF k s x
 |_,_=>none
noncomputable def dj:P->Option cj
 | .int i=>some (.inl i)
 | .str x=>some (.inr x)
 |_=>none
def tR:P->P->Option P
 | .tup xs,.int i=>L2.atI xs i
 | .lst xs,.int i=>L2.atI xs i
 | .ro xs,.int i=>L2.atI xs i
 | .str x,.int i=>if hV x.length=true then (L2.atI x.cps.toList i).map λc=>.str ⟨#[c]⟩ else none
 | .dct s v,y=>match dj y with
  |some k=>cF k s v
  |none=>none
 |_,_=>none
theorem nX:∀{s:List (cj×V)}{a:List P}{d:P},dt K F H a (s.map (·.2))->cF k (s.map (·.1)) a=some d->∃v,gF s k=some v/\RP K F H d v
 | [],a,d,r,h=>by cases a<;>exact lM h
 |(f,v)::s,[],d,r,h=>lM h
 |(f,v)::s,u::a,d,r,h=>by
  obtain⟨x,g,e,p,b⟩:=r;rw[aE]at e;injection e with c m;simp only[aE,cF]at h;by_cases n:f=k
  .rw [am n]at h;cases h;exact⟨v,im (p:=(f,v)) n,by rw[show v=x from c];exact p⟩
  .rw [au n]at h;rw[<- m]at b;obtain⟨w,t,q⟩:=nX b h;exact⟨w,by rw[gE (p:=(f,v)) n];exact t,q⟩
theorem iA(h:dj t=some k)(r:RP K F H t v):v=kV k:=by
 cases t with
 |int i=>cases h;exact r
 |str x=>cases h;exact r
 |_=>exact lM h
theorem GD(r:X.A.units+1 < cLine):HI X (λx y H Q=>∃a v,x=.ref a/\kr H a y (some v)/\(∃k,H a=some (.dK k))/\Q v H):=by
 intro f l p s M H x y v u Q I d i h m;obtain⟨a,w,rfl,g,⟨k,c⟩,q⟩:=h;cases d;have n:∃o,s.heap.get? a=some o/\o.ExactDict:=by obtain⟨_,_,_,_,o,_,_,e,n,_⟩:=I.h a _ c;exact⟨o,e,n⟩
 obtain⟨o,e,n⟩:=n;exact p_ ⟨o,e,n.1⟩ Eo.lookup (ur r I g i λz j b t=>⟨w,H,b,t,q⟩) m
set_option tactic.hygienic true in
theorem To(R:X.A.units+1 < cLine):HI X (rP X.K tR):=by
 intro f l b s M H x n v u Q I S K h g;obtain⟨F,E,t,d,V,j,o,q,k⟩:=h;cases E with
 |tup m=>
  cases t with
  |int i=>obtain⟨a,xs,rfl,P,r⟩:=j;cases (show n=.int i from o);obtain⟨z,e,p⟩:=r.atI (show L2.atI m i=some d from q);exact GB f l b s M H _ _ v u Q I S K ⟨a,xs,i,z,rfl,rfl,P.sq,e,k z F H .refl p⟩ g
  |_=>exact lM q
 |lst m=>
  cases t with
  |int i=>obtain⟨a,xs,rfl,P,r⟩:=j;cases (show n=.int i from o);obtain⟨z,e,p⟩:=r.atI (show L2.atI m i=some d from q);exact wf f l b s M H _ _ v u Q I S K ⟨a,xs,i,z,rfl,rfl,P.sq,e,k z F H .refl p⟩ g
  |_=>exact lM q
 |ro m=>
  cases t with
  |int i=>obtain⟨a,xs,rfl,P,r⟩:=j;cases (show n=.int i from o);obtain⟨z,e,p⟩:=r.atI (show L2.atI m i=some d from q);exact wf f l b s M H _ _ v u Q I S K ⟨a,xs,i,z,rfl,rfl,P.sq,e,k z F H .refl p⟩ g
  |_=>exact lM q
 |str z=>
  cases t with
  |int i=>
   cases (show x=.str z from j);cases (show n=.int i from o);simp only[tR]at q;split at q
   .rename_i N;cases e:L2.atI z.cps.toList i with
    |none=>rw[e]at q;exact lM q
    |some c=>rw[e]at q;cases q;exact M3 f l b s M H _ _ v u Q I S K ⟨z,i,c,rfl,rfl,i9 N,e,k _ F H .refl rfl⟩ g
   .cases q
  |_=>exact lM q
 |dct W m=>
  obtain⟨a,C,rfl,y,D,L,r⟩:=j;simp only[tR]at q;cases A:dj t with
  |none=>rw[A]at q;exact lM q
  |some T=>rw[A]at q;dsimp only at q;subst L;obtain⟨w,G,p⟩:=nX r q;have B:=iA A o;subst B;exact GD R f l b s M H _ _ v u Q I S K ⟨a,w,rfl,by rw[<- G];exact kr.k D,⟨C,D⟩,k w F H .refl p⟩ g
 |_=>exact lM q
theorem TQ{a b:Expr}{y fb:EV}{N:Pos}(u:X.A.units+1 < cLine)(x:PE X a (tV X.K y))(e:PE X b (tV X.K fb))(s:nK b):PE X (.Subscript a b N) (tV X.K (nY tR y fb)):=
 (FX (To u) x e s).imp' λ_ _ _ h=>vT h
end
section
variable{X:Cx}
theorem rD:∀{s:List (cj×V)}{a:List D}{d:D},dA K F H m a (s.map (·.2))->cF k (s.map (·.1)) a=some d->∃v,gF s k=some v/\RD K F H m d v
 | [],a,d,r,h=>by cases a<;>exact lM h
 |(f,v)::s,[],d,r,h=>lM h
 |(f,v)::s,g::a,d,r,h=>by
  obtain⟨x,i,e,p,b⟩:=r;rw[aE]at e;injection e with c t;simp only[aE,cF]at h;by_cases n:f=k
  .rw [am n]at h;cases h;exact⟨v,im (p:=(f,v)) n,by rw[show v=x from c];exact p⟩
  .rw [au n]at h;rw[<- t]at b;obtain⟨w,q,u⟩:=rD b h;exact⟨w,by rw[gE (p:=(f,v)) n];exact q,u⟩
@[simp] def lP(r:EE)(k:EV)(L:Lc)(S:aB):xb:=bL (r L S) λd x=>bL (k L x) λy h=>match d with
 | .p v=>(tR v y).map λz=>(.p z,h)
 | .ref i=>match h[i]? with
  | some (.lst s)=>(match y with
   | .int j=>(L2.atI s j).map λz=>(z,h)
   |_=>none)
  | some (.tpl s)=>(match y with
   | .int j=>(L2.atI s j).map λz=>(z,h)
   |_=>none)
  |some (.fz v)=>(tR v y).map λz=>(.p z,h)
  | some (.dct a e)=>(match dj y with
   |some k=>(cF k a e).map λz=>(z,h)
   |none=>none)
  |_=>none
theorem RA{a b:Expr}{y:EE}{fb:EV}{N:Pos}(hu:X.A.units+1 < cLine)(ha:PE X a (tE X.K y))(hb:PE X b (tV X.K fb))(hs:nK b):PE X (.Subscript a b N) (tE X.K (lP y fb)):=
 (FX ((((To hu).or wf).or (GD hu)).or GB) ha hb hs).imp' λM H Q hz=>by
  obtain⟨F,m,L,S,d,T,r,l,q,k⟩:=hz;obtain⟨x,S1,Z,q⟩:=ah q;obtain⟨h,V,e2,q⟩:=ah q;refine⟨F,m,L,S,x,S1,r,l,Z,λv B m1 j K r1 p1=>?_⟩;refine⟨B,m1,L,S1,h,V,r1,l.mono K,e2,λe C E I A f R=>?_⟩;have px:=RD.mono A p1;have n:∀w:P,RP X.K C I w v->(tR w h).map (λz=>(D.p z,V))=some (d,T)->rP X.K tR v e I Q:=λw pw q=>by
   cases g:tR w h with
   |none=>rw[g]at q;cases q
   |some z=>rw[g]at q;cases q;exact⟨C,w,h,z,f.ft,pw,R,g,λt F3 H3 gr o=>k t F3 E H3 (K.trans (A.trans gr.stp)) (f.grow gr) o⟩
  cases x with
  |p w=>exact .inl (.inl (.inl (n w px q)))
  |ref i=>
   obtain⟨a,rfl,hm⟩:=px;dsimp only at q;cases u:V[i]? with
   |none=>rw[u]at q;cases q
   |some so=>
    rw[u]at q;have G:=f.obj i a so hm u;cases so with
    |fz w=>exact .inl (.inl (.inl (n w G q)))
    |dct ks vs=>
     dsimp only at q;obtain⟨c,hk,ek,ra⟩:=G;cases ey:dj h with
     |none=>rw[ey]at q;cases q
     |some key=>
      rw[ey]at q;dsimp only at q;subst ek;cases g:cF key (c.map (·.1)) vs with
      |none=>rw[g]at q;cases q
      |some z=>rw[g]at q;cases q;obtain⟨w,Z,p⟩:=rD ra g;have eyv:=iA ey R;subst eyv;exact .inl (.inr ⟨a,w,rfl,by rw[<- Z];exact kr.k hk,⟨c,hk⟩,k w C E I (K.trans A) f p⟩)
    |ins _ _ _=>cases q
    |exc _ _=>cases q
    |dtt _ _=>cases q
    |lst W=>
     dsimp only at q;cases h with
     |int s=>
      dsimp only at q;obtain⟨xs,hH,rs⟩:=G;cases g:L2.atI W s with
      |none=>rw[g]at q;cases q
      |some z=>rw[g]at q;cases q;obtain⟨t,e3,o⟩:=rs.atI g;cases (show e=.int s from R);exact .inl (.inl (.inr ⟨a,xs,s,t,rfl,rfl,iO.of hH,e3,k t C E I (K.trans A) f o⟩))
     |_=>cases q
    |tpl W=>
     dsimp only at q;cases h with
     |int s=>
      dsimp only at q;obtain⟨xs,hH,rs⟩:=G;cases g:L2.atI W s with
      |none=>rw[g]at q;cases q
      |some z=>rw[g]at q;cases q;obtain⟨t,e3,o⟩:=rs.atI g;cases (show e=.int s from R);exact .inr ⟨a,xs,s,t,rfl,rfl,.inl (.inl hH),e3,k t C E I (K.trans A) f o⟩
     |_=>cases q
def dF:P->Option Nat
 | .tup xs=>some xs.length
 | .lst xs=>some xs.length
 | .ro xs=>some xs.length
 | .str x=>if hV x.length=true then some x.length else none
 |_=>none
def cV:D->aB->Option Nat
 | .p v,_=>dF v
 | .ref i,S=>match S[i]? with
  |some (.lst d)=>some d.length
  |some (.fz v)=>dF v
  |_=>none
def fh(r:EE):EV:=λL S=>bL (r L S) λd h=>(cV d h).map λn=>(.int n,h)
set_option tactic.hygienic true in
theorem Cu{F:Aa}{H:Hp}{w:P}{v:V}{n:Nat}{Q:VK}(p:RP X.K F H w v)(h:dF w=some n)(q:Q (.int n) H) :
  (∃p y,[v]=[V.ref p]/\(iO X.K H p y\/w5 X.K H p y)/\Q (.int y.length) H)\/(∃z,[v]=[V.str z]/\z.length≤sizeLine/\Q (.int z.length) H):=by
 cases w with
 |tup d=>obtain⟨a,xs,rfl,t,r⟩:=p;cases h;exact .inl ⟨a,xs,rfl,.inr t.sq,by rw[<- r.length];exact q⟩
 |lst d=>obtain⟨a,xs,rfl,t,r⟩:=p;cases h;exact .inl ⟨a,xs,rfl,.inl t.sq,by rw[<- r.length];exact q⟩
 |ro d=>obtain⟨a,xs,rfl,t,r⟩:=p;cases h;exact .inl ⟨a,xs,rfl,.inl t.sq,by rw[<- r.length];exact q⟩
 |str x=>
  cases (show v=.str x from p);simp only[dF]at h;split at h
  .rename_i c;cases h;exact .inr ⟨x,rfl,i9 c,q⟩
  .cases h
 |_=>exact lM h
theorem Ry(A:Gl X "len")(s:X.g "len"=none)(P:PE X e (tE X.K fe))(b:starEach [e] X.e=[(false,eval e X.e)]:=by rfl):PE X (.Call (.Name "len" p) [e] [] N) (tV X.K (fh fe)):=
 (kM (wX.or wW) A s PySem.boot_len (d7 P gM (by rw[b];rfl)) (by decide) (by decide) (by rw[b];rfl) rfl).imp' λM H Q C=>by
  obtain⟨F,m,L,S,d,T,r,l,q,k⟩:=C;obtain⟨x,f,z,q⟩:=ah q;refine⟨F,m,L,S,x,f,r,l,z,λv B D j G t c=>?_⟩;cases h:cV x f with
  |none=>rw[h]at q;cases q
  |some n=>
   rw[h]at q;cases q;have y:Q (.int n) j:=k _ B D j G t rfl;cases x with
   |p w=>exact Cu c h y
   |ref i=>
    obtain⟨a,rfl,s⟩:=c;simp only[cV]at h;cases u:T[i]? with
    |none=>rw[u]at h;cases h
    |some g=>
     rw[u]at h;have o:=t.obj i a g s u;cases g with
     |fz w=>exact Cu o h y
     |dct R V=>cases h
     |ins _ _ _=>cases h
     |exc _ _=>cases h
     |tpl _=>cases h
     |dtt _ _=>cases h
     |lst I=>cases h;obtain⟨xs,K,E⟩:=o;exact .inl ⟨a,xs,rfl,.inl (iO.of K),by rw[<- E.length];exact y⟩
noncomputable def d9(d:D)(S:aB):Option (Nat×List D):=match d with
 | .ref i=>match S[i]? with
  |some (.lst s)=>some (i,s)
  |_=>none
 |_=>none
set_option tactic.hygienic true in
theorem lx(h:d9 d S=some (i,k)):d=.ref i/\S[i]? = some (.lst k):=by
 unfold d9 at h;split at h
 .split at h
  .rename_i e;cases h;exact⟨rfl,e⟩
  .cases h
 .cases h
@[simp] def bA(r:EE)(a:EE)(L:Lc)(S:aB):xb:=bL (r L S) λd h=>match d9 d h with
 |none=>none
 |some _=>bL (a L h) λx e=>match d9 d e with
  |some (i,s)=>if few s=true then some (.p .non,e.set i (.lst (s++[x]))) else none
  |none=>none
set_option tactic.hygienic true in
theorem IL{o e:Expr}{W fe:EE}{p c:Pos}(ho:PE X o (tE X.K W))(he:PE X e (tE X.K fe))(G:starEach [e] X.e=[(false,eval e X.e)]:=by rfl)
  (b:attributeBase o "append" X.e (eval o X.e)=eval o X.e:=by rfl) (f:(p.endLine == c.line)=true:=by rfl):PE X (.Call (.Attribute o "append" p) [e] [] c) (tE X.K (bA W fe)):=
 (F9 pW Ap Ar ou ho (d7 he gM (by rw[G];rfl)) b (by rw[G];rfl) f (by rw[G];rfl) rfl).imp' λM H Q hz=>by
  obtain⟨F,m,L,S,d,T,r,l,q,k⟩:=hz;obtain⟨x,P,e1,q⟩:=ah q;refine⟨F,m,L,S,x,P,r,l,e1,λv B m1 j s1 r1 p1=>?_⟩;cases D:d9 x P with
  |none=>rw[D]at q;cases q
  |some z=>
   obtain⟨i,ds⟩:=z;rw[D]at q;dsimp only at q;obtain⟨rfl,u⟩:=lx D;obtain⟨a,rfl,hm⟩:=id p1;obtain⟨xs,hH,rs⟩:=r1.obj i a _ hm u;refine⟨.inl ⟨rfl,xs,iO.of hH⟩,?_⟩;obtain⟨y,V,e2,q⟩:=ah q;refine⟨B,m1,L,P,y,V,r1,l.mono s1,e2,λh C N I s2 R p2=>?_⟩;cases s:d9 (.ref i) V with
   |none=>rw[s]at q;cases q
   |some z=>
    obtain⟨i2,A⟩:=z;rw[s]at q;dsimp only at q;obtain⟨e3,n⟩:=lx s;cases e3;split at q
    .rename_i Z;cases q;obtain⟨a2,e4,t⟩:=RD.mono s2 p1;cases e4;obtain⟨w,g,K⟩:=R.obj i a _ t n;have hl:=kW Z;have E:w.length < sizeLine:=by
      have:A.length≤1000000:=be Z;rw[<- K.length];exact jX this (by decide)
     have nt:∀zs,I a≠some (.tup zs):=λzs z=>by rw[g]at z;cases z
     have st:Stp C N I C N (upd I a (.lst (w++[h]))):=gw R t n trivial nt;refine⟨a,w,h,rfl,rfl,g,E,?_⟩;exact k .non C N _ (s1.trans (s2.trans st)) (R.set t n trivial nt ⟨_,aJ,dA.mono st (K.append ⟨h,[],rfl,p2,rfl⟩)⟩) rfl
    .cases q
noncomputable abbrev EO:=Lc->aB->Option (Option Int×aB)
noncomputable def di:EO:=λ_ S=>some (none,S)
def cC(a:EV):EO:=λL S=>bL (a L S) λv h=>match v with
 | .int i=>some (some i,h)
 |_=>none
inductive tOI(K:FG)(f:EO)(σ:L2.St)(H:Hp)(Q:Option Int->Hp->Prop):Prop
 |mk (F:Aa) (m:List Addr) (L:Lc) (S:aB) (b:Option Int) (S':aB) (h0_:Rel K F H m S) (h1_:RL K F H m σ L) (h2_:f L S=some (b,S')) (h3_:∀F' m' H',Stp F m H F' m' H'->Rel K F' H' m' S'->Q b H'):tOI K f σ H Q
noncomputable def tO(K:FG)(f:EO):TO:=λM H Q=>tOI K f M H Q
theorem _root_.L2.PO.imp'(h:PO X e t)(i:∀M H Q,k M H Q->t M H Q):PO X e k:=λp s M H Q I q=>h p s M H Q I (i M H Q q)
theorem MO:PO X none (tO X.K di):=Jz.imp' λM H Q h=>by obtain⟨F,m,L,S,d,T,r,l,q,k⟩:=h;cases q;exact k F m H .refl r
theorem MN(h:PE X e (tV X.K y)):PO X (some e) (tO X.K (cC y)):=(Jx h).imp' λM H Q z=>by
 obtain⟨F,m,L,S,d,T,r,l,q,k⟩:=z;obtain⟨x,b,a,q⟩:=ah q;cases x with
 |int i=>cases q;exact⟨F,m,L,S,_,_,r,l,a,λv B s j f n p=>⟨i,p,k B s j f n⟩⟩
 |_=>cases q
def cut(xs:List Q)(lo h:Option Int):List Q:=(xs.drop (HT.eW xs.length 0 lo)).take (HT.eW xs.length xs.length h-HT.eW xs.length 0 lo)
theorem dt.cut(r:dt K F H k xs)(lo h:Option Int):dt K F H (Ev.cut k lo h) (yd xs lo h):=by unfold Ev.cut yd;rw[r.length];exact(r.drop _).take _
def Uw:P->Option Int->Option Int->Option P
 | .lst xs,lo,h=>some (.lst (cut xs lo h))
 | .ro xs,lo,h=>some (.lst (cut xs lo h))
 | .tup xs,lo,h=>if HT.eW xs.length 0 lo=0/\HT.eW xs.length xs.length h=xs.length then none else some (.tup (cut xs lo h))
 |_,_,_=>none
theorem _root_.L2.PI.imp'(h:PI X r iter t)(i:∀M H R,k M H R->t M H R):PI X r iter k:=λp s M H R I q=>h p s M H R I (i M H R q)
theorem GG(f:∀C h I,Stp F m H C h I->iO K I a xs)(r:dt K F H t xs):N6 K (Rb K a) t F m H:=by
 intro C h I s;have q:=f C h I s;have k:=dt.mono s r;refine⟨λi v e=>?_,⟨xs,q,by rw[k.length];exact al _⟩⟩;obtain⟨x,n,p⟩:=k.get e;refine⟨⟨xs,x,q,n⟩,λy b z=>?_⟩;obtain⟨rfl,z⟩:=z;have:=z xs q
 rw[n]at this;cases this;exact⟨C,.refl,p⟩
noncomputable def intsFrom(lo:Int)(n:Nat):List P:=(List.range n).map λ(i:Nat)=>.int (lo+(i:Int))
def iM(a:EV):iQ:=λL S=>bL (a L S) λv h=>match v with
 | .int j=>if decide (j.natAbs < 1000000)=true then some (intsFrom 0 j.toNat,h) else none
 |_=>none
theorem M4{lo:Int}:N6 K (Ra lo n) (intsFrom lo n) F m H:=by
 intro C k I s;have l:(intsFrom lo n).length=n:=by unfold intsFrom;simp
 refine⟨λi v e=>?_,by show n≤(intsFrom lo n).length;rw[l];exact al _⟩;have h:i < n:=by rw[<- l];exact(bz.mp e).1
 refine⟨h,λx a z=>?_⟩;obtain⟨rfl,rfl⟩:=z;refine⟨C,.refl,?_⟩;unfold intsFrom at e;simp[h]at e;subst e;exact rfl
set_option tactic.hygienic true in
theorem Ui{u a:Expr}{y:EV}{p N:Pos}(g:Gl X "range")(f:X.g "range"=none)(n:PE X a (tV X.K y))(s:starEach [a] X.e=[(false,eval a X.e)]:=by rfl):PI X u (.Call (.Name "range" p) [a] [] N) (tI X.K (iM y)):=
 (Dt g f (d7 n gM (by rw[s];rfl)) s).imp' λM H R z=>by
  obtain⟨F,m,L,S,K,T,r,l,q,k⟩:=z;obtain⟨v,i,e,q⟩:=ah q;cases v with
  |int h=>
   dsimp only at q;split at q
   .rename_i c;have o:h.natAbs < 1000000:=be c;cases q;refine⟨F,m,L,S,_,_,r,l,e,λx B b j w d t=>?_⟩;cases (show x=.int h from t);exact⟨h,rfl,by lia,by lia,k _ B b j w d M4⟩
   .cases q
  |_=>cases q
end
def bZ(g:jK)(c:EB)(e:EV):List P->Lc->aB->Option (List P×aB)
 | [],_,S=>some ([],S)
 |v::r,L,S=>match g v L with
  |none=>none
  |some h=>bL (c h S) λk x=>if k=true then bL (e h x) λy a=>bL (bZ g c e r h a) λn s=>some (y::n,s) else bZ g c e r h x
noncomputable def oY(q:List Nat)(n:Nat)(L:List (Option Q)):List (Option Q):=(q.foldl (λL i=>L.set i none) L)++List.replicate n none
def bO(i:iQ)(q:List Nat)(n:Nat)(g:jK)(c:EB)(e:EV):EV:=λL S=>bL (i L S) λxs h=>if few xs=true then bL (bZ g c e xs (oY q n L) h) λy x=>some (.lst y,x) else none
@[simp] def iN(_L:Lc)(S:aB):NM:=some (true,S)
theorem gA(q:List Nat):∀L:List (Option Q),(q.foldl (λL i=>L.set i none) L).length=L.length:=by
 induction q with
 |nil=>intro L;rfl
 |cons t q h=>intro L;rw[fC,h,cN]
theorem tm(q:List Nat):∀(L:List (Option Q))(i:Nat)(d:Q),(q.foldl (λL i=>L.set i none) L)[i]? = some (some d)->L[i]? = some (some d)/\i ∉ q:=by
 induction q with
 |nil=>intro L i d h;exact⟨h,by simp⟩
 |cons t q s=>
  intro L i d h;rw[fC]at h;obtain⟨x,a⟩:=s _ _ _ h;by_cases e:t=i
  .subst e;by_cases l:t < L.length
   .rw [bH l]at x;cases x
   .rw [qw (by rw[cN];lia)]at x;cases x
  .rw [aL e]at x;exact⟨x,by simp[a];exact λz=>e z.symm⟩
theorem vP(q:List Nat)(n:Nat)(L:List (Option Q)):(oY q n L).length=L.length+n:=by unfold oY;rw[bx,gA,Ba]
theorem BY(h:(oY q n L)[i]? = some (some d)):L[i]? = some (some d)/\i ∉ q/\i < L.length:=by
 unfold oY at h;by_cases x:i < L.length
 .rw [cA (by rw[gA];exact x)]at h;obtain⟨a,e⟩:=tm q L i d h;exact⟨a,e,x⟩
 .rw [cB (by rw[gA];lia),vl]at h;split at h<;>cases h
variable{M:L2.St}
theorem RL.up(l:RL K F H m M L)(q:List Nat)(n:Nat):RL K F H m (oY q n M) (oY q n L):=by
 refine⟨by rw[vP,vP,l.len],λi d h=>?_⟩;obtain⟨a,s,f⟩:=BY h;obtain⟨v,e,r⟩:=l.at' i d a;refine⟨v,?_,r⟩;unfold oY;rw[cA (by rw[gA,l.len];exact f)];have k:∀(q:List Nat)(M:L2.St),i ∉ q->M[i]? = some (some v)->(q.foldl (λL i=>L.set i none) M)[i]? = some (some v):=by
  intro q;induction q with
  |nil=>intro M _ e;exact e
  |cons t q b=>intro M x e;rw[fC];refine b _ (λz=>x (aI _ z)) ?_;rw[aL (λz=>x (by rw[z];exact aH))];exact e
 exact k q M s e
noncomputable def oQ(G:Scope)(e:Env):List (Str×Addr):=((G.names.filter λx=>x.2 == .free).map λx=>(x.1,(e.cells.lookup x.1).getD 0)).reverse
def inn(X:Cx)(G:Scope)(l:LS)(s:Shared)(H:Hp)(C:Addr)(f:List Addr):Cx:=
 { X with N:=l,z:=s,y:=H,e:=compEnvC G (oQ G X.e) C X.e,o:=X.k,ex:=f,fn:=λ_=>false,pn:=[],xe:=λ_ _=>False }
structure BlockOk(X:Cx)(scope:Scope)(N':LS)(ts:List Nat)(n:Nat):Prop where
 kind:scope.kind=.function
 cell:∀x ∈ scope.names,x.2≠.cell
 loc:∀x ∈ scope.names,x.2=.local->scope.names.lookup x.1=some .local
 fr:∀x ∈ scope.names,x.2=.free->scope.names.lookup x.1=some .free/\(X.e.kindOf x.1=some .cell\/X.e.kindOf x.1=some .free)
 names:X.N=N'.take X.N.length
 more:N'.length=X.N.length+n
 ts:∀x ∈ scope.names,x.2=.local->∀i:Nat,X.N[i]? = some x.1->i ∈ ts
theorem iz:∀{l:List (Str×Q)}{x:Str}{v:Q},l.lookup x=some v->(x,v) ∈ l
 | [],_,_,h=>by simp at h
 |(y,w)::r,x,v,h=>by
  rw[qh]at h;cases e:x == y with
  |true=>rw[e]at h;cases h;rw[show x=y from by simpa using e];exact aH
  |false=>rw[e]at h;exact aI _ (iz h)
theorem lN:∀{l:List (Str×Q)}{x:Str}{v:Q},(x,v) ∈ l->∃w,l.lookup x=some w
 | [],_,_,h=>by simp at h
 |(y,w)::r,x,v,h=>by
  rw[qh];cases e:x == y with
  |true=>exact⟨w,rfl⟩
  |false=>
   rcases aP.mp h with h|h
   .injection h with a _;subst a;simp at e
   .exact lN h
variable{x:Str}
theorem fL(h:(relabel G r).names.lookup x=some k):∃a,(x,a) ∈ G.names/\(k=a\/(k=.cell/\a=.free)):=by
 have m:=iz h;unfold relabel at m;obtain⟨⟨n,a⟩,t,e⟩:=bj.mp m;by_cases c:(a == NameKind.free && r.scope.kind == .function && r.kindOf n == some .cell)=true
 .have s:(n,NameKind.cell)=(x,k):=by simpa[c] using e
  injection s with f b;subst f;rw[az,az]at c;exact⟨a,t,.inr ⟨b.symm,by simpa using c.1.1⟩⟩
 .have s:(n,a)=(x,k):=by simpa[c] using e
  injection s with f b;subst f;exact⟨a,t,.inl b.symm⟩
section
variable{X:Cx}{G:Scope}{l:LS}{q:List Nat}{n:Nat}
theorem BlockOk.cl(B:BlockOk X G l q n)(I:Inv X pins M H s)(h:(oQ G X.e).lookup x=some c):X.e.cells.lookup x=some c/\(x,NameKind.free) ∈ G.names:=by
 have t:=iz h;unfold oQ at t;obtain⟨⟨y,k⟩,m,e⟩:=bj.mp (A9.mp t);obtain⟨m,w⟩:=eE.mp m;have r:k=.free:=by simpa using w
 subst r;injection e with v f;subst v;obtain⟨_,d⟩:=B.fr _ m rfl;obtain⟨p,a⟩:=I.o.has y d;dsimp only at f;rw[a]at f;have b:p=c:=f;subst b;exact⟨a,m⟩
theorem BlockOk.has(B:BlockOk X G l q n)(h:(x,NameKind.free) ∈ G.names):∃c,(oQ G X.e).lookup x=some c:=by unfold oQ;exact lN (v:=(X.e.cells.lookup x).getD 0) (A9.mpr (bj.mpr ⟨(x,.free),eE.mpr ⟨h,by simp⟩,rfl⟩))
theorem GR(B:BlockOk X G l q n)(I:Inv X r M H s)(C:s.heap.objs.size≤k)(f:∀b ∈ t,w_ X r H b)(w:∀b ∈ t,b < s.heap.objs.size) :
  (inn X G l s H k t).Ok where
 mod:=I.o.mod
 kind:=B.kind
 glob:=I.o.glob
 blt:=I.o.blt
 above:=C
 inj:=λx y c v d=>I.o.inj x y c (B.cl I v).1 (B.cl I d).1
 has:=λx h=>by
  have p:(relabel G X.e).names.lookup x=some .cell\/(relabel G X.e).names.lookup x=some .free:=h;rcases p with h|h
  .obtain⟨u,m,e|⟨_,e⟩⟩:=fL h
   .subst e;exact absurd rfl (B.cell _ m)
   .subst e;exact B.has m
  .obtain⟨u,m,e|⟨e,_⟩⟩:=fL h
   .subst e;exact B.has m
   .cases e
 cab:=λx c h=>nomatch h
 hd:=I.o.hd
 frames:=I.o.frames
 stk:=.inl rfl
 exf:=λb a=>⟨bo (bN (w b a) C),λx c h=>(f b a).2.2.2.2.1 x c (B.cl I h).1⟩
 bs:=I.bs
 bsz:=aF I.o.bsz I.sz
 noex:=λb o e a=>by
  rcases(f b a).2.2.2.1 with z|z
  .exact I.o.noex b o e z
  .exact absurd (bN (aM (I.o.bs b o e).1) z) (gn _)
 exfs:=λb a z=>by
  rcases aP.mp (I.stkSub b z) with z|z
  .exact (f b a).2.1 z
  .exact (f b a).2.2.1 z
 funs:=I.stack
 frf:=I.stkFree
theorem _root_.L2.Un.sameBut(u:Un fs r H H' h t)(s:gK k t h2)(C:∀b o,h.get? b=some o->b≠k):Un fs r H H' h h2 where
 keep:=λb o e n a x=>s.extBut b o (C b o e) (u.keep b o e n a x)
 slot:=λb o e n a x=>by obtain⟨l,q⟩:=u.slot b o e n a x;exact⟨l,s.extBut b _ (C b o e) q⟩
 free:=u.free
 there:=λb o e x=>by obtain⟨f,q⟩:=u.there b o e x;exact⟨f,s.extBut b _ (C b o e) q⟩
 tups:=u.tups
 frzs:=u.frzs
 tbls:=u.tbls
theorem _root_.L2.kq.sameBut{P:Program}{w:World}{H:Hp}{h x:Heap}{C:Addr}(ok:kq P w H h)(n:gK C h x)(a:H C=none):kq P w H x:=λb u e=>
 (ok b u e).stay (fun c v s q=>n.extBut c v (by
  rintro rfl;rcases s with z|z
  .subst z;rw[a]at e;cases e
  .rw [a]at z;cases z) q) (λ_ q=>q) λ_ _ q=>q
inductive PIfs(X:Cx):Ab->EB->Prop where
 |none:PIfs X [] iN
 |one {c:Expr}{q:EB}:PT X c (tQ X.K q)->PIfs X [c] q
theorem Kp.bump(x:¬F p)(t:∀xs,H p≠some (.tup xs)):Kp F m H F m (upd H p o):=
 ⟨⟨[],by simp⟩,λ_ h=>h,λb u f h=>by rw[aq (by rintro rfl;exact x f)];exact h,λb xs h=>by rw[aq (by rintro rfl;exact t xs h)];exact h⟩
theorem Stp.bump(s:Stp F m H F' m' H')(x:H p=none):Stp F m H F' m' (upd H' p o) where
 pre:=s.pre
 oth:=λb u h a=>by rw[aq (by rintro rfl;rw[x]at h;cases h)];exact s.oth b u h a
 frz:=s.frz
 frk:=λb u f h=>by rw[aq (by rintro rfl;rw[x]at h;cases h)];exact s.frk b u f h
 tup:=λb xs h=>by rw[aq (by rintro rfl;rw[x]at h;cases h)];exact s.tup b xs h
 trk:=λb h=>by
  by_cases e:b=p
  .subst e;rw[aJ];exact λz=>nomatch z
  .rw [aq e];exact s.trk b h
 nf:=s.nf
 nm:=s.nm
theorem Rel.bump(r:Rel K F H m S)(x:¬F p)(s:p ∉ m)(t:∀xs,H p≠some (.tup xs)):Rel K F (upd H p o) m S:=
 r.stayK (Kp.bump x t) (λa u e h=>by rw[aq (by rintro rfl;exact s e)];exact h) (λ_ f=>.inl f) λa f=>by rw[aq (by rintro rfl;exact x f)];exact r.ft a f
theorem Tn:Kp F m H (λb=>F b\/b=p) m H:=⟨⟨[],by simp⟩,λ_ h=>.inl h,λ_ _ _ h=>h,λ_ _ h=>h⟩
theorem Stp.addF(s:Stp F m H F' m' H')(x:H p=none):Stp F m H (λb=>F' b\/b=p) m' H':=
 ⟨s.pre,s.oth,fun b h=>.inl (s.frz b h),s.frk,s.tup,s.trk,fun b h=>by
  rcases h with h|h
  .exact s.nf b h
  .subst h;exact .inr (.inl x),s.nm⟩
theorem Rel.addF(r:Rel K F H m S)(s:p ∉ m)(n:H p≠none):Rel K (λb=>F b\/b=p) H m S where
 len:=r.len
 nd:=r.nd
 obj:=λi a o e x=>(r.obj i a o e x).kp Tn λu h=>h
 sep:=λi a o e x w f=>by
  rcases f with f|f
  .exact r.sep i a o e x w f
  .subst f;exact s (a9 e)
 trk:=r.trk
 ft:=λa f=>by
  rcases f with f|f
  .exact r.ft a f
  .subst f;exact n
theorem _root_.L2.Inv.letGo(I:Inv X k M H s)(f:gK h s.heap t)(C:H h=none)(v:X.z.heap.objs.size≤h)(d:h≠X.e.locals)
  (w:∀x c,X.e.cells.lookup x=some c->c≠h) (u:∀p ∈ X.pn++k,p.1≠h):Inv X k M H { s with heap:=t }:=by
 have r:∀b:Addr,b ∉ [h]->b≠h:=λb m z=>m (by simp[z]);refine I.call' (s':={ s with heap:=t }) (z:=[h]) rfl ⟨λb o e _ _ a=>f.extBut b o (r b a) e,λb o e _ _ a=>⟨o.slots,f.extBut b o (r b a) e⟩,λ_ _ _ n _=>n,λb o e a=>⟨o,f.extBut b o (r b a) e⟩,λ_ _ q=>q,λ_ _ _ q=>q,λb g q=>⟨#[],by rw[q];simp⟩⟩ (I.h.sameBut f C) I.bare λb m=>?_;have e:b=h:=by simpa using m
 subst e;exact⟨.inr v,d,w,u⟩
set_option tactic.hygienic true in
theorem D1(I:Nat->Shared->Prop)
  (u:∀n s,I n s->wpAny (model t w) A (pyNext it) (fun r f=>match r with
   |none=>R (.ok .next) f
   | some v=>wpAny (model t w) A (letOwnedTupleGo tg it v) (fun _ d=>wpAny (model t w) A (assign tg k v) (fun _ g=>
     wpAny (model t w) A (forIn ifs true fun c r=>if r=true then do let ok <- isTrue c k (eval c k);pure (ForInStep.yield ok) else pure (ForInStep.yield r)) (fun ok b=>
      if ok=true then wpAny (model t w) A (eval elt k) (fun x i=>
       wpAny (model t w) A (call (.builtin "list.append") [acc,x]) (λ_ j=>∃m,m < n/\I m j) (notedBy (model t w) A k λe a=>R (.error e) a) i) (notedBy (model t w) A k λe a=>R (.error e) a) b
      else ∃m,m < n/\I m b) (notedBy (model t w) A k λe a=>R (.error e) a) g) (notedBy (model t w) A k λe a=>R (.error e) a) d) (notedBy (model t w) A k λe a=>R (.error e) a) f) (notedBy (model t w) A k λe a=>R (.error e) a) s)
  (n:Nat) (h:I n s):codeAny (model t w) A (.compLoop (.ListComp elt [⟨tg,iter,ifs,0⟩] G N) 0 it acc k) R s:=by
 refine codeAny_loop rfl I (λn s S=>?_) n h;show wpAny _ A ((compTurn (.ListComp elt [⟨tg,iter,ifs,0⟩] G N) 0 it acc k).onRaise (λx=>do noteFrame x k;theTreesLotGoes x)) _ _ s;refine wpAny_noted ?_;rw[compTurn_list];refine aa (lY (aa (aU (u n s S) (λr f p=>?_) λ_ _ z=>z)));cases r with
 |none=>exact aj p
 |some v=>
  refine aa (aU p (λ_ d l=>aa (aU l (λ_ g y=>aa (aU y (λok b q=>?_) λ_ _ z=>z)) λ_ _ z=>z)) λ_ _ z=>z);cases ok with
  |false=>exact aj ⟨rfl,q⟩
  |true=>exact aa (aa (aU q (λx i o=>aa (aU o (λ_ j H=>aj (aj ⟨rfl,H⟩)) λ_ _ z=>z)) λ_ _ z=>z))
theorem Km{H:Heap}{tk:Nat}(B:BlockOk X G l q n)(a:Inv X pins M I k)(C:k.heap.objs.size≤h)(f2:∀b ∈ fp,w_ X pins I b)(A:∀b ∈ fp,b < k.heap.objs.size)(d:∀b o,k.heap.get? b=some o->H.get? b=some o)
  (hD:I k.heap.objs.size=none) (D:k.heap.objs.size≠h) (P:I h=none) (w:H.Ns h mC) (s:H.get? k.heap.objs.size=some { cls:=.type "list",dict:=none,data:=.seq ([]:LV).toArray }) :
  Inv (inn X G l k I h fp) [] (oY q n M) (upd I k.heap.objs.size (.lst [])) { k with heap:=H,toks:=tk }:=by
 refine⟨GR B a C f2 A,rfl,a.bare,Un.laid d (al _) hD,?_,λx c e=>?_,?_,λx c e=>?_,λp hp=>absurd (show p ∈ ([]:PN) from hp) (by simp),?_,?_⟩
 .obtain⟨m0,hn0,E⟩:=a.loc;refine⟨_,w,λi x v V W hv=>?_⟩;obtain⟨S,F,K⟩:=BY W;have t:M.length=X.N.length:=a.len;have Q:X.N[i]? = some x:=by
   rw[B.names,g7 (by rw[<- t];exact K)];exact V
  have j:(relabel G X.e).names.lookup x=some .local\/(relabel G X.e).names.lookup x=some .cell\/(relabel G X.e).names.lookup x=some .free:=hv;have T:¬(relabel G X.e).names.lookup x=some .local:=λz=>by
   obtain⟨R,m,e|⟨e,_⟩⟩:=fL z
   .subst e;exact absurd (B.ts _ m rfl i Q) F
   .cases e
  have N:(x,NameKind.free) ∈ G.names:=by
   rcases j with z|z|z
   .exact absurd z T
   .obtain⟨R,m,e|⟨_,e⟩⟩:=fL z
    .subst e;exact absurd rfl (B.cell _ m)
    .subst e;exact m
   .obtain⟨R,m,e|⟨e,_⟩⟩:=fL z
    .subst e;exact m
    .cases e
  obtain⟨_,r⟩:=B.fr _ N rfl;have L:HN X.e.scope x:=by
   rcases r with z|z
   .exact .inr (.inl z)
   .exact .inr (.inr z)
  obtain⟨u,ru,lk⟩:=E i x v Q S L;refine⟨u,ru,.inr ⟨?_,?_⟩⟩
  .rcases j with z|z|z
   .exact absurd z T
   .exact .inl z
   .exact .inr z
  .rcases lk with ⟨z,_⟩|⟨_,c,Z,ic⟩
   .rcases r with y|y
    .rw [z]at y;cases y
    .rw [z]at y;cases y
   .obtain⟨c',f⟩:=B.has N;have:=(B.cl a f).1
    rw[Z]at this;cases this;obtain⟨o,g,hd⟩:=ic;exact⟨c,f,o,d c o g,hd⟩
 .obtain⟨v,o,g,hd⟩:=a.cell x c (B.cl a e).1;exact⟨v,o,d c o g,hd⟩
 .show upd I k.heap.objs.size (.lst []) h=none;rw[aq (aC D)];exact P
 .obtain⟨v,o,g,hd⟩:=a.cell x c (B.cl a e).1;rw[aq (bo (aM g))];exact a.freeC x c (B.cl a e).1
 .exact a.h.laid d (al _) ⟨ck _,[],0,.nil,s⟩
 .show (oY q n M).length=l.length;rw[vP,a.len,B.more]
inductive cIv(K:FG)(Y9:Cx)(F1:Aa)(m1:List Addr)(H2:Hp)(A:Addr)(tn:Nat->Heap->Prop)(fp:List Addr)(R:Nat->Nat->Lc->aB->List P->Prop)(ys:List P)(nn:Nat)(sx:Shared):Prop
 |mk (i:Nat) (σ':L2.St) (F':Aa) (m':List Addr) (H':Hp) (L':Lc) (S':aB) (acc bS:List P) (xs:List V) (h0_:Inv Y9 [] σ' H' sx) (h1_:tn i sx.heap) (h2_:∀b ∈ fp,H' b=none) (h3_:Stp F1 m1 H2 F' m' H') (h4_:Rel K F' H' m' S') (h5_:RL K F' H' m' σ' L') (h6_:H' A=some (.lst xs)) (h7_:dt K F' H' acc xs) (h8_:acc.length≤i) (h9_:¬F' A) (ha_:A ∉ m') (hb_:R nn i L' S' bS) (hc_:acc++bS=ys):cIv K Y9 F1 m1 H2 A tn fp R ys nn sx
set_option tactic.hygienic true in
theorem uu 
  (h:BlockOk X G l q n) (hcalm:X.c=true)
  (hi:PI X tg iter (tI X.K fi)) (hg:∀s H C E,PG (inn X G l s H C E) tg (gT X.K g)) (hc:∀s H C E,PIfs (inn X G l s H C E) ifs fc) (he:∀s H C E,PE (inn X G l s H C E) elt (tV X.K fe))
  (hclos:closureFor G X.e=pure (oQ G X.e)) (hs:∀x,foldedSetIterable iter X.e x=pure x)
  (a:Inv X pins M H s) (r:Rel X.K F H m S) (k:RL X.K F H m M L) (t:bO fi q n g fc fe L S=some (d,S2))
  (fin:∀p F' m' H' sx C,Inv X pins M H' sx->Stp F m H F' m' H'->Rel X.K F' H' m' S2->RP X.K F' H' d (.ref p)->H' C=none->X.z.heap.objs.size≤C->C≠X.e.locals->(∀x c,X.e.cells.lookup x=some c->c≠C)->(∀p ∈ X.pn++pins,p.1≠C) ->
   (∃mC,sx.heap.Ns C mC)->compPost (model X.p X.w) X.A X.xe use a0 (.ref p) C (.ok .next) sx) :
  wx X (comprehension (.ListComp elt [⟨tg,iter,ifs,0⟩] G N) G X.e p2 (newList []) false (eval iter X.e) use) a0 X.xe s:=by
 obtain⟨W,S1,e1,t⟩:=ah t;split at t;case isFalse=>cases t
 rename_i hfew;obtain⟨ys,S2',e2,t⟩:=ah t;cases t;refine wpAny_comprehension_free (use:=use) rfl hs hclos h.kind h.loc (du (hi pins s M H _ a ⟨F,m,L,S,W,S1,r,k,e1,λJ9 B m1 j s1 r1 it=>(show(λJ9 j=>∃B m1,Stp F m H B m1 j/\Rel X.K B j m1 S1/\N6 X.K J9 W B m1 j) J9 j from ⟨B,m1,s1,r1,it⟩)⟩) λxv sA hA=>du hA λitv A h2=>?_);obtain⟨it,E,tn,J9,I,rfl,I2,w,st2,f2,B,m1,s1,r1,itp⟩:=h2;have hfp:∀b ∈ E,b < A.heap.objs.size:=λb Q=>by obtain⟨o,e,_⟩:=w.obj _ _ st2 b Q;exact aM e
 refine q_ ?_ (by show 0≤sizeLine;exact ck _);refine wpAny_newFunctionEnv h.cell (by intro y hy;simp at hy) (λh1 hns1 hsb1=>?_) h.kind;dsimp only at hns1 hsb1 ⊢;have hD:I A.heap.objs.size=none:=I2.h.fresh (al _);generalize hH2:A.heap.push { cls:=.type "list",dict:=none,data:=.seq ([]:LV).toArray }=P at hns1 hsb1 ⊢;have hC:P.objs.size=A.heap.objs.size+1:=by rw[<- hH2,yz]
 have D:A.heap.objs.size≤P.objs.size:=by rw[hC];exact lp _
 have old:∀b o,A.heap.get? b=some o->h1.get? b=some o:=λb o e=>hsb1.extBut b o (bo (bN (aM e) D)) (bg _ (hH2 ▸ bg _ e));have hDC:A.heap.objs.size≠P.objs.size:=by rw[hC];exact bo (qz _)
 have accO:h1.get? A.heap.objs.size=some { cls:=.type "list",dict:=none,data:=.seq ([]:LV).toArray }:=hsb1.extBut _ _ hDC (bg _ (hH2 ▸ dD _ rfl));have hCn:I P.objs.size=none:=I2.h.fresh D;have hCcell:∀x c,X.e.cells.lookup x=some c->c≠P.objs.size:=λx c e z=>by obtain⟨v,o,ho,_⟩:=I2.cell x c e;exact absurd (aM ho) (vo.mpr (by rw[z];exact D))
 have hCloc:P.objs.size≠X.e.locals:=cm (bN I2.lt D);have hCpin:∀p ∈ X.pn++pins,p.1≠P.objs.size:=λp hp z=>absurd (aM (I2.pin p hp).1) (vo.mpr (by rw[z];exact D));have I3:=Km (tk:=A.toks+([]:List (Str×Value)).length) h I2 D f2 hfp old hD hDC hCn hns1 accO;have okX:=GR (k:=P.objs.size) h I2 D f2 hfp;have fpH:∀{H':Hp},(∀b ∈ E,H' b=none)->∀b ∈ E,w_ (inn X G l A I P.objs.size E) [] H' b:=λhn b Q=>
  ⟨hn b Q,bo (bN (hfp b Q) D),okX.exfs b Q,.inl Q,(okX.exf b Q).2,λp hp=>absurd (show p ∈ ([]:PN) from hp) (by simp)⟩
 have tn1:tn 0 h1:=w.keep _ _ _ st2 λb Q o e=>old b o e;have loop:∀s3:Shared,s3={ A with heap:=h1,toks:=A.toks+([]:List (Str×Value)).length } ->
   codeAny (model X.p X.w) X.A (.compLoop (.ListComp elt [⟨tg,iter,ifs,0⟩] G N) 0 (.ref it) (.ref A.heap.objs.size) (compEnvC G (oQ G X.e) P.objs.size X.e))
    (compPost (model X.p X.w) X.A X.xe use a0 (.ref A.heap.objs.size) P.objs.size) s3:=by
  rintro s3 rfl;refine D1 (cIv X.K (inn X G l A I P.objs.size E) B m1 I A.heap.objs.size tn E (λnn i L' T bS=>nn=W.length-i/\i≤W.length/\bZ g fc fe (W.drop i) L' T=some (bS,S2)) ys) ?_ W.length ?_
  .rintro nn sx ⟨i,σ',F',m',H',L',T,acc,bS,xs,I',tn',fr',st',r',l',hacc,ra,hal,nF,nm,⟨rfl,hi',V⟩,rfl⟩;obtain⟨hgo,hstop⟩:=itp F' m' H' st';by_cases hlt:i < W.length
   .have hv:W[i]? = some W[i]:=by simp[hlt]
    rw[vm hlt]at V;obtain⟨hgo1,hy⟩:=hgo i _ hv;refine aU (w.item (inn X G l A I P.objs.size E) rfl rfl rfl hcalm i [] sx σ' H' (λ_ _=>False) I' (fpH fr') tn' hgo1) (λrr sy hr=>?_) (λ_ _ f=>f.elim);obtain⟨u,rfl,hr⟩:=hr;refine aU hr (λ_ sz hz=>?_) (λ_ _ f=>f.elim);obtain⟨x,H3,I4,rx,yl,tn4,fr4⟩:=hz;obtain⟨F3,gr,p3⟩:=hy x H3 yl;have O1:Stp B m1 I F3 m' H3:=st'.trans gr.stp;have r4:=r'.grow gr;have l4:=l'.mono (gr.stp (m:=m'));have acc4:=gr.keep _ _ hacc;have nF4:¬F3 A.heap.objs.size:=λz=>by
     rcases gr.nf _ z with z|⟨z,_⟩
     .exact nF z
     .rw [hacc]at z;cases z
    have I4':=I4.pinned (fpH fr4) (w.obj _ _ tn4);have back:∀{σ7:L2.St}{H7:Hp}{s7:Shared},Inv (inn X G l A I P.objs.size E) ([]++om E sz.heap) σ7 H7 s7->tn (i+1) s7.heap/\∀b ∈ E,H7 b=none:=λ{σ7 H7 s7} I7=>
     ⟨w.keep _ _ _ tn4 λb Q o e=>(I7.pin (b,o) (eT _ (eT _ (j8 Q e)))).1,λb Q=>by obtain⟨o,e,dd⟩:=w.obj _ _ tn4 b Q;exact(I7.pin (b,o) (eT _ (eT _ (j8 Q e)))).2.1⟩
    unfold bZ at V;cases eg:g W[i] L' with
    |none=>rw[eg]at V;cases V
    |some L1=>
     rw[eg]at V;dsimp only at V;obtain⟨kk,S5,e5,V⟩:=ah V;refine aU (hg A I P.objs.size E _ sz σ' H3 x u (λR H5=>H5=H3/\RL X.K F3 H3 m' R L1) I4' rx ⟨F3,m',L',W[i],L1,l4,p3,eg,λR l5=>⟨rfl,l5⟩⟩) (λ_ s5 h5=>?_) (λ_ _ f=>f.elim);obtain⟨R,H5,I5,rfl,l5⟩:=h5;have test:wx X (forIn ifs true λc r=>if r=true then do let ok <- isTrue c (compEnvC G (oQ G X.e) P.objs.size X.e) (eval c (compEnvC G (oQ G X.e) P.objs.size X.e));pure (ForInStep.yield ok) else pure (ForInStep.yield r))
       (λok s6=>ok=kk/\∃Z m6 H6,Inv (inn X G l A I P.objs.size E) ([]++om E sz.heap) R H6 s6/\Stp F3 m' H5 Z m6 H6/\Rel X.K Z H6 m6 S5) (λ_ _=>False) s5:=by
      have hcc:=hc A I P.objs.size E;cases hcc with
      |none=>cases e5;exact wpAny_tests_nil ⟨rfl,F3,m',H5,I5,.refl,r4⟩
      |one hq=>refine wpAny_tests_one (aU (hq _ s5 R H5 (λb H6=>b=kk/\∃Z m6,Stp F3 m' H5 Z m6 H6/\Rel X.K Z H6 m6 S5) I5 ⟨F3,m',L1,T,kk,S5,r4,l5,e5,λZ m6 H6 s6 r6=>⟨rfl,Z,m6,s6,r6⟩⟩) (λb s6 h6=>?_) λ_ _ f=>f);obtain⟨H6,I6,rfl,Z,m6,Fq,r6⟩:=h6;exact⟨rfl,Z,m6,H6,I6,Fq,r6⟩
     refine aU test (λok s6 h6=>?_) (λ_ _ f=>f.elim);obtain⟨rfl,Z,m6,H6,I6,Fq,r6⟩:=h6;have acc6:=Fq.oth _ _ acc4 nm;have nm6:A.heap.objs.size ∉ m6:=λz=>by
      rcases Fq.nm _ z with z|z
      .exact nm z
      .rw [acc4]at z;cases z
     have nF6:¬Z A.heap.objs.size:=λz=>by
      rcases Fq.nf _ z with z|z|z
      .exact nF4 z
      .rw [acc4]at z;cases z
      .exact nm z
     have ra6:=dt.mono Fq (ra.grow gr);have l6:=l5.mono Fq;cases ok with
     |false=>rw[au bt]at V ⊢;obtain⟨t7,f7⟩:=back I6;exact⟨W.length-(i+1),by lia,i+1,R,Z,m6,H6,L1,S5,acc,bS,xs,I6.pins_of λp hp=>absurd hp (by simp),t7,f7,O1.trans Fq,r6,l6,acc6,ra6,Bt hal,nF6,nm6,⟨rfl,hlt,V⟩,rfl⟩
     |true=>
      rw[am rfl]at V ⊢;obtain⟨y,S8,e8,V⟩:=ah V;obtain⟨zs,S9,e9,V⟩:=ah V;cases V;refine aU (he A I P.objs.size E _ s6 R H6 (λv8 H8=>∃F8 m8,Stp Z m6 H6 F8 m8 H8/\Rel X.K F8 H8 m8 S8/\RP X.K F8 H8 y v8) I6 ⟨Z,m6,L1,S5,y,S8,r6,l6,e8,λv8 F8 m8 H8 s8 r8 p8=>⟨F8,m8,s8,r8,p8⟩⟩) (λu8 s8 h8=>?_) (λ_ _ f=>f.elim);obtain⟨v8,H8,I8,rv8,F8,m8,st8,r8,p8⟩:=h8;have acc8:=st8.oth _ _ acc6 nm6;have nm8:A.heap.objs.size ∉ m8:=λz=>by
       rcases st8.nm _ z with z|z
       .exact nm6 z
       .rw [acc6]at z;cases z
      have nF8:¬F8 A.heap.objs.size:=λz=>by
       rcases st8.nf _ z with z|z|z
       .exact nF6 z
       .rw [acc6]at z;cases z
       .exact nm6 z
      have ra8:=dt.mono st8 ra6;have nt8:∀zs,H8 A.heap.objs.size≠some (.tup zs):=λzs z=>by rw[acc8]at z;cases z
      have hl8:xs.length < sizeLine:=by have h9:W.length≤1000000:=be hfew;rw[<- ra8.length];exact bN (jX hal hlt) (aF h9 (by decide))
      refine aU (ou (X:=inn X G l A I P.objs.size E) _ s8 R H8 (.ref A.heap.objs.size) [v8] (.ref A.heap.objs.size) [u8] (λ_ H9=>H9=upd H8 A.heap.objs.size (.lst (xs++[v8]))) I8 rfl (.cons rv8 .nil) ⟨_,xs,v8,rfl,rfl,acc8,hl8,rfl⟩) (λ_ s9 h9=>?_) (λ_ _ f=>f.elim);obtain⟨_,H9,I9,_,rfl⟩:=h9;obtain⟨t9,f9⟩:=back I9;have kb:Kp F8 m8 H8 F8 m8 (upd H8 A.heap.objs.size (.lst (xs++[v8]))):=Kp.bump nF8 nt8;have st9:Stp B m1 I F8 m8 (upd H8 A.heap.objs.size (.lst (xs++[v8]))):=(O1.trans (Fq.trans st8)).bump hD;have l9:RL X.K F8 (upd H8 A.heap.objs.size (.lst (xs++[v8]))) m8 R L1:=⟨l6.len,λK dd e=>by obtain⟨v,e1,rr⟩:=(l6.mono st8).at' K dd e;exact⟨v,e1,RD.kp kb rr⟩⟩
      exact⟨W.length-(i+1),by lia,i+1,R,F8,m8,_,L1,S8,acc++[y],zs,xs++[v8],I9.pins_of fun p hp=>absurd hp (by simp),t9,f9,st9,r8.bump nF8 nm8 nt8,l9,aJ,
       dt.kp kb (ra8.append ⟨v8,[],rfl,p8,rfl⟩),by rw[bx];exact Nat.succ_le_succ hal,nF8,nm8,⟨rfl,hlt,e9⟩,by simp⟩
   .have e:i=W.length:=by lia
    subst e;rw[qg]at V;cases V;refine aU (w.done (inn X G l A I P.objs.size E) rfl rfl rfl hcalm W.length [] sx σ' H' (λ_ _=>False) I' (fpH fr') tn' hstop) (λrr sy hr=>?_) (λ_ _ f=>f.elim);obtain⟨rfl,I5⟩:=hr;rw[dB] at *
    have Iout:Inv X pins M H' sy:=I2.call' (z:=E) I5.os I5.base I5.h I5.bare λb Q=>⟨(f2 b Q).2.2.2.1,(f2 b Q).2.1,(f2 b Q).2.2.2.2.1,(f2 b Q).2.2.2.2.2⟩;have hD0:H A.heap.objs.size=none:=by
     cases t:H A.heap.objs.size with
     |none=>rfl
     |some o=>exact absurd hD (s1.trk _ (by rw[t];exact λz=>nomatch z))
    have hCH:H' P.objs.size=none:=I5.free;obtain⟨mC,hmC,_⟩:=I5.loc;exact fin A.heap.objs.size (λb=>F' b\/b=A.heap.objs.size) m' H' sy P.objs.size Iout ((s1.trans st').addF hD0) (r'.addF nm (by rw[hacc];exact λz=>nomatch z))
     ⟨_,xs,rfl,⟨.inr rfl,hacc⟩,dt.kp (m:=m') Tn ra⟩ hCH (aF I2.sz D) hCloc hCcell hCpin ⟨mC,hmC⟩
  .exact⟨0,_,B,m1,_,oY q n L,S1,[],ys,[],I3,tn1,λb Q=>by rw[aq (bo (hfp b Q))];exact(f2 b Q).1,(cu hD).stp,r1.grow (cu hD),((k.mono s1).mono (cu hD).stp).up q n,aJ,rfl,ck _,r1.fresh_F hD,r1.fresh_m hD,⟨rfl,ck _,by rw[mM];exact e2⟩,rfl⟩
 exact codeAny_compStart_list (loop _ rfl) (w.self X.A 0 _ _ _ tn1 (loop _ rfl))
theorem Ov(B:BlockOk X G l q n)(c:X.c=true)
  (A:PI X tg iter (tI X.K fi)) (P:∀s H C f,PG (inn X G l s H C f) tg (gT X.K g)) (z:∀s H C f,PIfs (inn X G l s H C f) ifs fc) (K:∀s H C f,PE (inn X G l s H C f) t (tV X.K fe))
  (o:closureFor G X.e=pure (oQ G X.e)) (D:∀x,foldedSetIterable iter X.e x=pure x:=by intro _;rfl) :
  PE X (.ListComp t [⟨tg,iter,ifs,0⟩] G N) (tV X.K (bO fi q n g fc fe)):=by
 intro i s M H Q I ⟨F,m,L,S,d,T,r,h,a,k⟩;rw[eval_ListComp];refine uu B c A P z K o D I r h a λp F' m' H' sx C b st V W y v w u j E=>?_
 obtain⟨R,e⟩:=E;exact⟨R,e,λh' Z=>⟨.ref p,H',b.letGo Z y v w u j,rfl,k _ F' m' H' st V W⟩⟩
set_option tactic.hygienic true in
theorem Oe(i:Nat)(hN:X.N.Nodup)(B:BlockOk X G l q n)(c:X.c=true)
  (hi:PI X tg iter (tI X.K fi)) (hg:∀s H C b,PG (inn X G l s H C b) tg (gT X.K g)) (hc:∀s H C b,PIfs (inn X G l s H C b) ifs fc) (he:∀s H C b,PE (inn X G l s H C b) t (tV X.K fe))
  (o:closureFor G X.e=pure (oQ G X.e)) (P:swapsWith (.ListComp t [⟨tg,iter,ifs,0⟩] G N) (some (.Name x px)) spos.line X.e=pure true:=by rfl)
  (hs:∀x,foldedSetIterable iter X.e x=pure x:=by intro _;rfl) (z:X.N[i]? = some x:=by rfl) (hx:Loc X.e.scope x:=by first|exact Or.inl rfl|exact Or.inr rfl)
  (hf:X.fn x=true\/X.e.scope.names.lookup x=some .local:=by first|exact .inl rfl|exact .inr rfl|assumption) :
  PS X (.Assign [.Name x px] (.ListComp t [⟨tg,iter,ifs,0⟩] G N) spos) (jJ X.K (ar i (O (bO fi q n g fc fe)))):=by
 intro j s M H D I ⟨F,m,L,S,fl,L',T,r,h,f,k⟩;obtain⟨d,S1,Z,f⟩:=ah f;cases f;obtain⟨v,S2,e2,e3⟩:=ah Z;cases e3;rw[exec_Assign_Name_used _ _ _ _ P];refine aa (lY (aa ?_));show wpAny _ _ (do let _ <- comprehension (.ListComp t [⟨tg,iter,ifs,0⟩] G N) G X.e _ (newList []) false (eval iter X.e) (some (assign (.Name x px) X.e))) _ _ s;refine aa (aU (uu (use:=some (assign (.Name x px) X.e)) (a0:=λ_ A=>SP X j D .next A) B c hi hg hc he o hs I r h e2 λp F' m' H' sx C W st r' rp hC h0 R V h3 hz=>?_) (λ_ A hq=>aj (aj hq)) λ_ _ e=>e);obtain⟨mC,K⟩:=hz;refine Es (oa W hN z hx (v:=.ref p) rfl (λA y u=>?_) hf);refine⟨mC,?_,λh' sb=>⟨_,H',y.letGo sb hC h0 R V h3,k _ F' m' H' st r' ((h.mono st).set (d:=.p v) rp i)⟩⟩;obtain⟨a,E,w⟩:=u;refine K.sameBut E ?_;rcases w with w|w
 .rw [w];exact R
 .exact aC (V x a w)
end
end Ev
namespace Ev
open PySem PySem.Spec PyProof.Rows L2
section
variable{X:Cx}{a b e:Expr}{es:Ab}{C z:EV}{fs:iQ}{N p:Pos}
noncomputable def nz:P->Option P
 | .int i=>some (.int (-i))
 |_=>none
theorem Rw(f:PE X a (tV X.K C)):PE X (.UnaryOp .USub a N) (tV X.K (Db nz C)):=(Pc LK f).imp' λG H Q z=>by
 obtain⟨F,m,L,S,d,t,r,l,q,k⟩:=z;obtain⟨x,w,n,q⟩:=ah q;cases x with
 |int i=>cases q;exact⟨F,m,L,S,_,_,r,l,n,λv h b e s c p=>⟨i,p,k _ h b e s c rfl⟩⟩
 |_=>cases q
noncomputable def kZ:List P->Option P
 | [.int i]=>some (.int i)
 | [.bl b]=>some (.int (if b then 1 else 0))
 |_=>none
theorem y7{K:FG}{F:Aa}{H:Hp}{d:P}{s:List V}(r:dt K F H [d] s):∃x,s=[x]/\RP K F H d x:=by obtain⟨x,h,rfl,p,a⟩:=r;cases (show h=[] from a);exact⟨x,rfl,p⟩
theorem Kq:dW X (.type "int") (rC X.K kZ):=by
 intro B s G H n u Q I r h;obtain⟨F,e,d,f,a,q,k⟩:=h;unfold kZ at q;split at q
 .cases q;obtain⟨x,rfl,p⟩:=y7 a;exact uw B s G H _ u Q I r (.inl ⟨_,by rw[show x=_ from p],k _ F H .refl rfl⟩)
 .cases q;obtain⟨x,rfl,p⟩:=y7 a;exact uw B s G H _ u Q I r (.inr ⟨_,by rw[show x=_ from p],k _ F H .refl rfl⟩)
 .cases q
noncomputable def pb:EE:=λ_ S=>some (.ref S.length,S++[.dct [] []])
theorem E6:PE X (.Dict [] [] N) (tE X.K pb):=F0.imp' λG H Q z=>by obtain⟨F,m,L,S,d,x,r,l,q,k⟩:=z;cases q;intro p h;refine k (.ref p) F (m++[p]) _ (fJ h) (r.own h ⟨[],aJ,rfl,rfl⟩) ⟨p,rfl,?_⟩;rw[<- r.len,cB (al _)];simp
noncomputable def sO(k:cj)(v:D):List cj->List D->List cj×List D
 |h::s,w::x=>if h=k then (h::s,v::x) else (h::(sO k v s x).1,w::(sO k v s x).2)
 |_,_=>([k],[v])
noncomputable def m_(d:D)(S:aB):Option (Nat×List cj×List D):=match d with
 | .ref i=>match S[i]? with
  |some (.dct k T)=>some (i,k,T)
  |_=>none
 |_=>none
set_option tactic.hygienic true in
theorem v_(h:m_ r S=some (i,v,T)):r=.ref i/\S[i]? = some (.dct v T):=by
 unfold m_ at h;split at h
 .split at h
  .rename_i e;cases h;exact⟨rfl,e⟩
  .cases h
 .cases h
def y4(o:EE)(k v:EV):ES:=λL S=>bL (v L S) λy x=>bL (o L x) λd a=>bL (k L a) λz h=>match m_ d h,dj z with
 |some (i,s,T),some e=>if (s.Nodup/\few s=true) then some (.nx,L,h.set i (.dct (sO e (.p y) s T).1 (sO e (.p y) s T).2)) else none
 |_,_=>none
theorem t8{K:FG}{F:Aa}{H:Hp}{m:List Addr}{k:cj}{y:D}{u:V}(t:RD K F H m y u):∀{v:List (cj×V)}{s:List D},(v.map (·.1)).Nodup->dA K F H m s (v.map (·.2)) ->
  (putK v k u).map (·.1)=(sO k y (v.map (·.1)) s).1/\dA K F H m (sO k y (v.map (·.1)) s).2 ((putK v k u).map (·.2))
 | [],s,_,r=>by have:s=[]:=g8 r.length;subst this;exact⟨rfl,u,[],rfl,t,rfl⟩
 |(h,w)::v,[],_,r=>by have:=r.length;simp at this
 |(h,w)::v,d::s,i,r=>by
  obtain⟨x,G,e,E,j⟩:=r;rw[aE]at e i;injection e with o S;subst o;subst S;obtain⟨p,g⟩:=cz.mp i;simp only[aE,sO];by_cases n:h=k
  .subst n;rw[am rfl];have f:putK ((h,w)::v) h u=(h,u)::v:=by
    unfold putK;rw[am (by simp)];rw[aE,am rfl];congr 1;have:∀l:List (cj×V),h ∉ l.map (·.1)->l.map (λa=>if a.1=h then (a.1,u) else a)=l:=by
     intro l;induction l with
     |nil=>intro _;rfl
     |cons q l C=>
      intro b;rw[aE]at b;have P:¬q.1=h:=λz=>b (by rw[<- z];exact aH)
      rw[aE,au P,C λz=>b (aI _ z)]
    exact this v p
   rw[f];exact⟨rfl,u,_,rfl,t,j⟩
  .rw [au n];obtain⟨A,B⟩:=t8 t g j;have f:putK ((h,w)::v) k u=(h,w)::putK v k u:=by
    unfold putK;rw[gf,cT (show ¬(h,w).1=k from n),uY];by_cases c:(v.any λa=>decide (a.1=k))=true
    .rw [am c,am c,aE,au (show ¬(h,w).1=k from n)]
    .rw [au c,au c];rfl
   rw[f,aE,aE,A];exact⟨rfl,w,_,rfl,E,B⟩
set_option tactic.hygienic true in
theorem Rg{o i g:Expr}{t:EE}{L k:EV}{h:Pos}(hu:X.A.units+1 < cLine)(ho:PE X o (tE X.K t))(hi:PE X i (tV X.K L))(hv:PE X g (tV X.K k))(hs:swapsWith g (some (.Subscript o i h)) N.line X.e=pure false:=by rfl) :
  PS X (.Assign [.Subscript o i h] g N) (jJ X.K (y4 t L k)):=(Cc hu ho hi hv hs).imp' λD G H hz=>by
 obtain⟨F,m,e,S,fl,L',S',r,l,q,s⟩:=hz;obtain⟨y,Q,e1,q⟩:=ah q;obtain⟨d,R,e2,q⟩:=ah q;obtain⟨z,V,e3,q⟩:=ah q;refine⟨F,m,e,S,y,Q,r,l,e1,λv M m1 H1 K r1 p1=>?_⟩;refine⟨M,m1,e,Q,d,R,r1,l.mono K,e2,λx F2 m2 H2 P r2 p2=>?_⟩;refine⟨F2,m2,e,R,z,V,r2,(l.mono K).mono P,e3,λw c u p A I p3=>?_⟩;cases C:m_ d V with
 |none=>rw[C]at q;cases q
 |some n=>
  obtain⟨j,ks,T⟩:=n;rw[C]at q;cases B:dj z with
  |none=>rw[B]at q;cases q
  |some b=>
   rw[B]at q;dsimp only at q;split at q
   .rename_i hc;cases q;obtain⟨rfl,es⟩:=v_ C;obtain⟨a,rfl,E⟩:=RD.mono A p2;obtain⟨f,Z,hk,rs⟩:=I.obj j a _ E es;subst hk;have pv:RD X.K c p u (.p y) v:=RD.mono A (RD.mono P (show RD X.K M H1 m1 (.p y) v from p1));obtain⟨h1,h2⟩:=t8 (k:=b) pv hc.1 rs;cases (iA B p3);have nt:∀zs,p a≠some (.tup zs):=λzs z=>by rw[Z]at z;cases z
    have st:Stp c u p c u (upd p a (.dK (putK f b v))):=gw I E es trivial nt;have hl:f.length < sizeLine:=by have W:(f.map (·.1)).length≤1000000:=be hc.2;rw[bn]at W;exact jX W (by decide)
    refine⟨a,_,rfl,yw.k Z hl,?_⟩;exact s G c u _ (K.trans (P.trans (A.trans st))) (I.set E es trivial nt ⟨_,aJ,h1,dA.mono st h2⟩) (((l.mono K).mono P).mono (A.trans st))
   .cases q
end
section
variable{X:Cx}{a b c e:Expr}{es:Ab}{C z fc:EV}{fs:iQ}{N p:Pos}
abbrev zF:P->P->Option P:=Tv
theorem Px(_:X.A.units+1 < cLine):pJ X (compareOp .Eq) zF:=Sc
@[simp] def jf(a:EV)(L:Lc)(S:aB):IV:=bL (a L S) λv h=>match v with
 | .lst x=>some (x,h)
 | .ro x=>some (x,h)
 |_=>none
theorem iS{D iter:Expr}(h:PE X iter (tV X.K C)):PI X D iter (tI X.K (jf C)):=by
 intro B s G H R I ⟨F,m,L,S,T,N,r,l,q,k⟩;obtain⟨v,y,W,q⟩:=ah q;refine du (h B s G H (λx n=>∃f c,Stp F m H f c n/\Rel X.K f n c y/\RP X.K f n v x) I ⟨F,m,L,S,v,y,r,l,W,λx f c n t z g=>⟨f,c,t,z,g⟩⟩) λu t A=>?_
 obtain⟨x,n,w,rx,f,c,st,z,g⟩:=A;have mk:∀{P:It},N6 X.K P T f c n->y=N->R P n:=λit e=>by subst e;exact k _ f c n st z it
 have i:∀{a:Addr}{j:List V},x=.ref a->iO X.K n a j->R (Rb X.K a) n->wx X (pyIter u) (Q_ X B G D R) X.xe t:=λ{a j} e hq q=>by
  subst e;cases rx;obtain⟨its,rv,p,A⟩:=w.list hq;refine Eu p.isList ?_;refine⟨t.heap.objs.size,[t.heap.objs.size],_,_,n,rfl,w.kept (t':=t.toks) λb o e=>bg _ e,Dc a _,⟨_,dD _ rfl,rfl,rfl⟩,λb Z=>?_,q⟩;have e:b=t.heap.objs.size:=by simpa using Z
  subst e;exact w.fpOk (al _) (w.h.fresh (al _))
 cases v with
 |lst Q=>cases q;obtain⟨a,j,rfl,d,K⟩:=g;exact i rfl d.sq (mk (GG (λE m2 M s=>(d.kp s.kp).sq) K) rfl)
 |ro Q=>cases q;obtain⟨a,j,rfl,d,K⟩:=g;exact i rfl d.sq (mk (GG (λE m2 M s=>(d.kp s.kp).sq) K) rfl)
 |_=>cases q
end
section
variable{X:Cx}{N p:Pos}
noncomputable abbrev DE:=List (Str×EV)
end
mutual
noncomputable def pd:P->PyData
 | .non=>.none
 | .bl b=>.bool b
 | .int i=>.int i
 | .str x=>.str x
 | .tup xs=>.tuple (m9 xs)
 | .lst xs=>.list (m9 xs)
 | .ro xs=>.list (m9 xs)
 | .dct _ _=>.none
noncomputable def m9:List P->List PyData
 | []=>[]
 |x::r=>pd x::m9 r
end
noncomputable def dh:Nat->P->Bool
 |_,.non=>true
 |_,.bl _=>true
 |_,.int _=>true
 |_,.str x=>ao x
 |n+1,.tup s=>s.all (dh n)
 |n+1,.lst s=>s.all (dh n)
 |n+1,.ro s=>s.all (dh n)
 |_,_=>false
variable{n:Nat}
theorem qQ:∀{s:List P},(∀d ∈ s,(pd d).canLay0=true/\(pd d).depth≤n)->uI (m9 s)=true/\uH (m9 s)≤n
 | [],_=>⟨rfl,ck _⟩
 |d::r,h=>by obtain⟨⟨p,a⟩,q⟩:=List.forall_mem_cons.mp h;obtain⟨x,e⟩:=qQ q;exact⟨by simp only[m9,uI,p,x,Bool.and_self],by simp only[m9,uH];lia⟩
theorem gy:∀(n:Nat)(p:P),dh n p=true->(pd p).canLay0=true/\(pd p).depth≤n
 |_,.non,_=>⟨rfl,ck _⟩
 |_,.bl _,_=>⟨rfl,ck _⟩
 |_,.int _,_=>⟨rfl,ck _⟩
 |n,.str x,h=>⟨by cases n<;>exact h,ck _⟩
 |n,.dct _ _,h=>by cases n<;>cases h
 |0,.tup _,h=>by cases h
 |0,.lst _,h=>by cases h
 |0,.ro _,h=>by cases h
 |n+1,.tup s,h=>by obtain⟨a,b⟩:=qQ λd hd=>gy n d (bw.mp h d hd);exact⟨a,by simp only[pd,pP];lia⟩
 |n+1,.lst s,h=>by obtain⟨a,b⟩:=qQ λd hd=>gy n d (bw.mp h d hd);exact⟨a,by simp only[pd,pP];lia⟩
 |n+1,.ro s,h=>by obtain⟨a,b⟩:=qQ λd hd=>gy n d (bw.mp h d hd);exact⟨a,by simp only[pd,pP];lia⟩
theorem j7(h:dh 20 p=true):zX (pd p)=true:=by obtain⟨x,a⟩:=gy 20 p h;unfold zX;rw[x,uZ];exact mF (by lia)
section
variable{X:Cx}{B:PN}{G:L2.St}{H:Hp}{s:Shared}{F:Aa}
theorem iZ(o:∀{p:P}{v:V}{u:Value},RP X.K F H p v->RelV v u->dh n p=true->∃k,Reads s.heap u (pd p) k) :
  ∀{f:List P}{a:List V}{b:LV},dt X.K F H f a->aZ a b->(∀d ∈ f,dh n d=true)->∃k,ReadsAll s.heap b (m9 f) k
 | [],a,b,r,v,_=>by cases (show a=[] from r);cases v;exact⟨_,.nil⟩
 |d::f,a,b,r,v,h=>by
  obtain⟨x,i,rfl,p,r⟩:=r;cases v with
  |cons w t=>obtain⟨k,q⟩:=o p w (h d (.head _));obtain⟨g,m⟩:=iZ o r t λe c=>h e (.tail _ c);exact⟨_,.cons q m⟩
theorem jv(I:Inv X B G H s):∀(n:Nat){p:P}{v:V}{u:Value},RP X.K F H p v->RelV v u->dh n p=true->∃w,Reads s.heap u (pd p) w:=by
 intro n;induction n with
 |zero=>
  intro p v u r k h;cases p with
  |non=>cases (show v=.non from r);cases k;exact⟨_,.none⟩
  |bl b=>cases (show v=.bl b from r);cases k;exact⟨_,.bool b⟩
  |int i=>cases (show v=.int i from r);obtain⟨t,rfl⟩:=k;exact⟨_,.int i t⟩
  |str x=>cases (show v=.str x from r);obtain⟨t,rfl⟩:=k;exact⟨_,.str x t⟩
  |_=>simp[dh]at h
 |succ n y=>
  intro p v u r k h;cases p with
  |non=>cases (show v=.non from r);cases k;exact⟨_,.none⟩
  |bl b=>cases (show v=.bl b from r);cases k;exact⟨_,.bool b⟩
  |int i=>cases (show v=.int i from r);obtain⟨t,rfl⟩:=k;exact⟨_,.int i t⟩
  |str x=>cases (show v=.str x from r);obtain⟨t,rfl⟩:=k;exact⟨_,.str x t⟩
  |dct A T=>simp[dh]at h
  |tup z=>obtain⟨a,K,rfl,l,j⟩:=r;cases k;obtain⟨g,f,⟨o,e,c,m,d⟩,S⟩:=I.tuple l.sq;obtain⟨w,q⟩:=iZ y j f (by simpa[dh] using h);rw[pd];exact⟨w,AK e c d (by simpa using q)⟩
  |lst z=>obtain⟨a,K,rfl,l,j⟩:=r;cases k;obtain⟨g,f,⟨o,m,e,c,_,d⟩,S⟩:=I.list l.sq;obtain⟨w,q⟩:=iZ y j f (by simpa[dh] using h);rw[pd];exact⟨_,u4 e c d (by simpa using q)⟩
  |ro z=>obtain⟨a,K,rfl,l,j⟩:=r;cases k;obtain⟨g,f,⟨o,m,e,c,_,d⟩,S⟩:=I.list l.sq;obtain⟨w,q⟩:=iZ y j f (by simpa[dh] using h);rw[pd];exact⟨_,u4 e c d (by simpa using q)⟩
end
noncomputable def kN(f:D->Option P):List D->Option (List P)
 | []=>some []
 |d::r=>(f d).bind λv=>(kN f r).map λT=>v::T
def snap(S:aB):Nat->D->Option P
 |_,.p v=>some v
 |0,.ref _=>none
 |n+1,.ref i=>match S[i]? with
  |some (.lst d)=>(kN (snap S n) d).map .lst
  |some (.tpl d)=>(kN (snap S n) d).map .tup
  |some (.fz v)=>some v
  |_=>none
@[simp] theorem rN(S:aB)(n:Nat)(v:P):snap S n (.p v)=some v:=by cases n<;>rfl
theorem Cp(S:aB)(n:Nat):∀T:List P,kN (snap S n) (T.map .p)=some T
 | []=>rfl
 |v::r=>by simp[kN,Cp S n r]
section
variable{X:Cx}{B:PN}{G:L2.St}{H:Hp}{s:Shared}{F:Aa}{m:List Addr}{S:aB}
theorem ma(o:∀{d:D}{v:V}{u:Value}{p:P},RD X.K F H m d v->RelV v u->snap S n d=some p->dh a0 p=true->∃b,Reads s.heap u (pd p) b) :
  ∀{k:List D}{f:List V}{c:LV}{ps:List P},dA X.K F H m k f->aZ f c->kN (snap S n) k=some ps->(∀d ∈ ps,dh a0 d=true)->∃b,ReadsAll s.heap c (m9 ps) b
 | [],f,c,ps,r,v,q,_=>by cases (show f=[] from r);cases v;cases q;exact⟨_,.nil⟩
 |d::k,f,c,ps,r,v,q,h=>by
  obtain⟨x,A,rfl,p,r⟩:=r;obtain⟨y,i,q⟩:∃a,snap S n d=some a/\(kN (snap S n) k).map (λT=>a::T)=some ps:=by
   cases e:snap S n d with
   |none=>simp[kN,e]at q
   |some a=>exact⟨a,rfl,by simpa[kN,e] using q⟩
  obtain⟨B,j,rfl⟩:∃a,kN (snap S n) k=some a/\ps=y::a:=by
   cases e:kN (snap S n) k with
   |none=>rw[e]at q;cases q
   |some a=>rw[e]at q;cases q;exact⟨a,rfl,rfl⟩
  cases v with
  |cons z l=>obtain⟨b,g⟩:=o p z i (h y (.head _));obtain⟨K,t⟩:=ma o r l j λe w=>h e (.tail _ w);exact⟨_,.cons g t⟩
theorem j5(I:Inv X B G H s)(E:Rel X.K F H m S):∀(n k:Nat){d:D}{v:V}{u:Value}{p:P},RD X.K F H m d v->RelV v u->snap S n d=some p->dh k p=true->∃t,Reads s.heap u (pd p) t:=by
 intro n;induction n with
 |zero=>
  intro k d v u p r x q h;cases d with
  |p w=>rw[rN]at q;cases q;exact jv I k r x h
  |ref i=>cases q
 |succ n C=>
  intro k d v u p r x q h;cases d with
  |p w=>rw[rN]at q;cases q;exact jv I k r x h
  |ref i=>
   obtain⟨a,rfl,K⟩:=r;have M:i < S.length:=by rw[<- E.len];exact(bz.mp K).1
   obtain⟨o,A⟩:∃o,S[i]? = some o:=⟨S[i],by simp[M]⟩;have y:=E.obj i a o K A;simp only[snap,A]at q;cases o with
   |fz w=>cases q;exact jv I k y x h
   |dct T b=>cases q
   |ins _ _ _=>cases q
   |exc _ _=>cases q
   |dtt _ _=>cases q
   |lst b=>
    dsimp only at q;cases e:kN (snap S n) b with
    |none=>rw[e]at q;cases q
    |some R=>
     rw[e]at q;cases q;cases k with
     |zero=>simp[dh]at h
     |succ k=>obtain⟨L,j,z⟩:=y;cases x;obtain⟨l,f,⟨o,Q,g,c,_,d⟩,N⟩:=I.list (iO.of j);obtain⟨t,q⟩:=ma (a0:=k) (λr x q h=>C k r x q h) z f e (by simpa[dh] using h);rw[pd];exact⟨_,u4 g c d (by simpa using q)⟩
   |tpl b=>
    dsimp only at q;cases e:kN (snap S n) b with
    |none=>rw[e]at q;cases q
    |some R=>
     rw[e]at q;cases q;cases k with
     |zero=>simp[dh]at h
     |succ k=>obtain⟨L,j,z⟩:=y;cases x;obtain⟨l,f,⟨o,g,c,Q,d⟩,N⟩:=I.tuple (a:=a) (xs:=L) (.inl (.inl j));obtain⟨t,q⟩:=ma (a0:=k) (λr x q h=>C k r x q h) z f e (by simpa[dh] using h);rw[pd];exact⟨_,AK g c d (by simpa using q)⟩
theorem mZ(l:Rel X.K F H m S)(r:RD X.K F H m u v)(q:snap S n u=some p)(k:∀f,p≠.lst f/\p≠.tup f):RP X.K F H p v:=by
 cases u with
 |p w=>rw[rN]at q;cases q;exact r
 |ref i=>
  cases n with
  |zero=>cases q
  |succ n=>
   obtain⟨a,rfl,h⟩:=r;have b:i < S.length:=by rw[<- l.len];exact(bz.mp h).1
   obtain⟨o,x⟩:∃o,S[i]? = some o:=⟨S[i],by simp[b]⟩;have c:=l.obj i a o h x;simp only[snap,x]at q;cases o with
   |fz w=>cases q;exact c
   |dct t d=>cases q
   |ins _ _ _=>cases q
   |exc _ _=>cases q
   |dtt _ _=>cases q
   |lst d=>
    dsimp only at q;cases e:kN (snap S n) d with
    |none=>rw[e]at q;cases q
    |some s=>rw[e]at q;cases q;exact absurd rfl (k s).1
   |tpl d=>
    dsimp only at q;cases e:kN (snap S n) d with
    |none=>rw[e]at q;cases q
    |some s=>rw[e]at q;cases q;exact absurd rfl (k s).2
end
inductive rEI(K:FG)(g:D->D->aB->Option P)(x:V)(y:V)(H:Hp)(Q:VK):Prop
 |mk (F:Aa) (m:List Addr) (S:aB) (d:D) (e:D) (v:P) (h0_:Rel K F H m S) (h1_:RD K F H m d x) (h2_:RD K F H m e y) (h3_:g d e S=some v) (h4_:∀u F' H',Grow F H F' H'->RP K F' H' v u->Q u H'):rEI K g x y H Q
noncomputable def rE(K:FG)(g:D->D->aB->Option P):R2:=λx y H Q=>rEI K g x y H Q
@[simp] def fy(g:D->D->aB->Option P)(a b:EE)(L:Lc)(S:aB):tyV:=bL (a L S) λx e=>bL (b L e) λy h=>(g x y h).map λv=>(v,h)
section
variable{X:Cx}{a b:Expr}{C z:EE}{N:Pos}
theorem B4(h:tV X.K (fy a0 C z) G H Q):L0 (rE X.K a0) (tE X.K C) (tE X.K z) G H Q:=by
 obtain⟨F,m,L,S,d,K,r,l,q,k⟩:=h;obtain⟨x,s,P,q⟩:=ah q;obtain⟨y,n,A,q⟩:=ah q;refine⟨F,m,L,S,x,s,r,l,P,λv p B N c M D=>?_⟩;refine⟨p,B,L,s,y,n,M,l.mono c,A,λu i f R t b E=>?_⟩;cases e:a0 x y n with
 |none=>rw[e]at q;cases q
 |some a=>rw[e]at q;cases q;exact⟨i,f,K,x,y,_,b,RD.mono t D,E,e,λw j o g I=>k w j f o (c.trans (t.trans g.stp)) (b.grow g) I⟩
theorem Ow(o:jL X (compareOp v) (rE X.K r))(x:PE X a (tE X.K C))(e:PE X b (tE X.K z))(m:behindInMarks v b=false):PE X (.Compare a [v] [b] N) (tV X.K (fy r C z)):=
 (Ch o x e m).imp' λ_ _ _ h=>B4 h
theorem Oh(o:jL X (compareOp op) (rE X.K u))(c:PE X a (tE X.K C))(t:PE X b (tE X.K z))(w:behindInMarks op b=false):PT X (.Compare a [op] [b] N) (tQ X.K (bV (fy u C z))):=
 (Ca o c t w).imp' λG H Q h=>by
  refine B4 ?_;obtain⟨F,m,L,S,d,j,r,l,q,k⟩:=h;obtain⟨x,y,f,q⟩:=ah q;cases x with
  |bl b=>cases q;exact⟨F,m,L,S,_,_,r,l,f,λv e g n s i p=>⟨_,p,k e g n s i⟩⟩
  |_=>cases q
end
def CH(x y:P):Option Bool:=match zF x y with
 |some (.bl b)=>some b
 |_=>if (dh 20 x && dh 20 y)=true then some (cb (pd x) (pd y)) else none
def HL(d e:D)(S:aB):Option P:=(snap S 9 d).bind λx=>(snap S 9 e).bind λy=>(CH x y).map .bl
def Gm(x y:P):Option Bool:=match dNe x y with
 |some (.bl b)=>some b
 |_=>if (dh 20 x && dh 20 y)=true then some (!PyData.eqv (pd x) (pd y)) else none
def G4(d e:D)(S:aB):Option P:=(snap S 9 d).bind λx=>(snap S 9 e).bind λy=>(Gm x y).map .bl
noncomputable def ph(c:D)(S:aB):Option (List cj):=match c with
 | .p (.dct k _)=>some k
 | .ref i=>match S[i]? with
  |some (.dct k _)=>some k
  |some (.fz (.dct k _))=>some k
  |_=>none
 |_=>none
noncomputable def DJ(k:cj)(s:List cj):Bool:=s.any λh=>decide (h=k)
def NR(d c:D)(S:aB):Option Bool:=match ph c S with
 |some s=>(snap S 9 d).bind λx=>(dj x).map λk=>DJ k s
 |none=>none
def K6(d c:D)(S:aB):Option P:=(NR d c S).map .bl
noncomputable def d8:D->Bool
 | .p .non=>true
 |_=>false
def tj(d e:D)(_:aB):Option P:=match e with
 | .p .non=>some (.bl (d8 d))
 |_=>none
def dN(d e:D)(_:aB):Option P:=match e with
 | .p .non=>some (.bl (!d8 d))
 |_=>none
theorem zD(h:zF x r=some b):(∀s,x≠.lst s/\x≠.tup s)/\∀s,r≠.lst s/\r≠.tup s:=by
 refine⟨λs=>⟨λe=>?_,λe=>?_⟩,λs=>⟨λe=>?_,λe=>?_⟩⟩
 .subst e;cases r<;>cases h
 .subst e;cases r<;>cases h
 .subst e;cases x<;>cases h
 .subst e;cases x<;>cases h
section
variable{X:Cx}
set_option tactic.hygienic true in
theorem Pw(o:X.A.units+64 < cLine):jL X (compareOp .Eq) (rE X.K HL):=by
 intro B s G H x y v u Q I j z h;obtain⟨F,m,S,d,e,r,l,g,i,q,k⟩:=h;unfold HL at q;cases t:snap S 9 d with
 |none=>rw[t]at q;cases q
 |some a=>
  rw[t]at q;cases p:snap S 9 e with
  |none=>rw[p]at q;cases q
  |some b=>
   rw[p]at q;simp only[jP]at q;cases n:CH a b with
   |none=>rw[n]at q;cases q
   |some c=>
    rw[n]at q;cases q;unfold CH at n;split at n
    .rename_i L w;cases n;obtain⟨K,P⟩:=zD w;exact Px (by lia) B s G H x y v u Q I j z ⟨F,a,b,.bl c,l.ft,mZ l g t K,mZ l i p P,w,k⟩
    .split at n
     .rename_i f;rw[az]at f;cases n;obtain⟨D,A⟩:=j5 I l 9 20 g j t f.1;obtain⟨E,C⟩:=j5 I l 9 20 i z p f.2;exact eq_dataH A C (j7 f.1) (j7 f.2) o ⟨.bl _,H,I,rfl,k _ F H .refl rfl⟩
     .cases n
theorem DY(h:dNe x r=some b):(∀s,x≠.lst s/\x≠.tup s)/\∀s,r≠.lst s/\r≠.tup s:=by
 refine⟨λs=>⟨λe=>?_,λe=>?_⟩,λs=>⟨λe=>?_,λe=>?_⟩⟩
 .subst e;cases r<;>cases h
 .subst e;cases r<;>cases h
 .subst e;cases x<;>cases h
 .subst e;cases x<;>cases h
set_option tactic.hygienic true in
theorem Pp(o:X.A.units+64 < cLine):jL X (compareOp .NotEq) (rE X.K G4):=by
 intro B s G H x y v u Q I j z h;obtain⟨F,m,S,d,e,r,l,g,i,q,k⟩:=h;unfold G4 at q;cases t:snap S 9 d with
 |none=>rw[t]at q;cases q
 |some a=>
  rw[t]at q;cases p:snap S 9 e with
  |none=>rw[p]at q;cases q
  |some b=>
   rw[p]at q;simp only[jP]at q;cases n:Gm a b with
   |none=>rw[n]at q;cases q
   |some c=>
    rw[n]at q;cases q;unfold Gm at n;split at n
    .rename_i L w;cases n;obtain⟨K,P⟩:=DY w;exact R9 B s G H x y v u Q I j z ⟨F,a,b,.bl c,l.ft,mZ l g t K,mZ l i p P,w,k⟩
    .split at n
     .rename_i f;rw[az]at f;cases n;obtain⟨D,A⟩:=j5 I l 9 20 g j t f.1;obtain⟨E,C⟩:=j5 I l 9 20 i z p f.2;exact ne_dataH A C (j7 f.1) (j7 f.2) o ⟨.bl _,H,I,rfl,k _ F H .refl rfl⟩
     .cases n
theorem PB(h:r.all (dh 19)=true):uI (m9 r)=true/\uH (m9 r)≤20:=by have l:=gy 20 (.lst r) h;simp only[pd,PyData.canLay0,pP]at l;have x:=l.2;exact⟨l.1,by lia⟩
theorem C_:(gF u v).isSome=DJ v (u.map (·.1)):=by
 induction u with
 |nil=>rfl
 |cons p r i=>
  unfold DJ at i ⊢;by_cases h:p.1=v
  .rw [im h,aE,gf,mF h];rfl
  .rw [gE h,i,aE,gf,cT h];rfl
set_option tactic.hygienic true in
theorem Hm{K:FG}{F:Aa}{H:Hp}{m:List Addr}{S:aB}{c:D}{y:V}{n:List cj}(r:Rel K F H m S)(p:RD K F H m c y)(q:ph c S=some n):∃a k,y=.ref a/\H a=some (.dK k)/\k.map (·.1)=n:=by
 unfold ph at q;split at q
 .cases q;obtain⟨a,k,e,_,x,h,_⟩:=p;exact⟨a,k,e,x,h⟩
 .rename_i i;obtain⟨a,rfl,s⟩:=p;split at q
  .rename_i o;cases q;obtain⟨k,x,h,_⟩:=r.obj i a _ s o;exact⟨a,k,rfl,x,h⟩
  .rename_i o;cases q;obtain⟨b,k,e,_,x,h,_⟩:=r.obj i a _ s o;cases e;exact⟨a,k,rfl,x,h⟩
  .cases q
 .cases q
theorem Pt(C:X.A.units+64 < cLine):jL X (compareOp .In) (rE X.K K6):=by
 intro B s G H x y v u Q I P A h;obtain⟨F,m,S,d,e,r,l,o,K,q,k⟩:=h;unfold K6 NR at q;cases c:ph e S with
 |some D=>
  rw[c]at q;dsimp only at q;cases f:snap S 9 d with
  |none=>rw[f]at q;cases q
  |some a=>
   rw[f]at q;simp only[jP]at q;cases n:dj a with
   |none=>rw[n]at q;cases q
   |some g=>rw[n]at q;cases q;obtain⟨b,i,rfl,w,p⟩:=Hm l K c;have j:RP X.K F H a x:=mZ l o f λL=>⟨λz=>(by subst z;cases n),λz=>(by subst z;cases n)⟩;cases A;cases iA n j;exact Sv (by lia) I (kr.k w) P λE t=>⟨.bl _,H,t,rfl,by rw[C_,p];exact k _ F H .refl rfl⟩
 |none=>rw[c]at q;cases q
theorem Ps:jL X (compareOp .Is) (rE X.K tj):=by
 intro B s G H x y v u Q I c t h;obtain⟨F,m,S,d,e,r,l,n,f,q,k⟩:=h;unfold tj at q;split at q
 .cases q;cases (show y=.non from f);refine MF B s G H x _ v u Q I c t ⟨rfl,?_⟩;have:decide (x=.non)=d8 d:=by
   cases d with
   |ref i=>obtain⟨a,rfl,_⟩:=n;rfl
   |p w=>
    cases w with
    |non=>cases (show x=.non from n);rfl
    |bl b=>cases (show x=.bl b from n);rfl
    |int b=>cases (show x=.int b from n);rfl
    |str b=>cases (show x=.str b from n);rfl
    |_=>(obtain⟨a,g,rfl,_⟩:=n;rfl)
  rw[this];exact k _ F H .refl rfl
 .cases q
theorem Ge:jL X (compareOp .IsNot) (rE X.K dN):=by
 intro B s G H x y v u Q I c t h;obtain⟨F,m,S,d,e,r,l,n,f,q,k⟩:=h;unfold dN at q;split at q
 .cases q;cases (show y=.non from f);refine JF B s G H x _ v u Q I c t ⟨rfl,?_⟩;have:decide (x=.non)=d8 d:=by
   cases d with
   |ref i=>obtain⟨a,rfl,_⟩:=n;rfl
   |p w=>
    cases w with
    |non=>cases (show x=.non from n);rfl
    |bl b=>cases (show x=.bl b from n);rfl
    |int b=>cases (show x=.int b from n);rfl
    |str b=>cases (show x=.str b from n);rfl
    |_=>(obtain⟨a,g,rfl,_⟩:=n;rfl)
  rw[this];exact k _ F H .refl rfl
 .cases q
end
noncomputable def ss:List jK->List P->Lc->Option Lc
 | [],[],L=>some L
 |g::s,v::T,L=>match g v L with
  |some h=>ss s T h
  |none=>none
 |_,_,_=>none
def aW(g:List jK):jK:=λv L=>match v with
 | .tup T=>ss g T L
 |_=>none
theorem xV:∀{s:List jK}{T:List P}{L x:Lc},ss s T L=some x->T.length=s.length
 | [],[],_,_,_=>rfl
 | [],_::_,_,_,h=>by cases h
 |_::_,[],_,_,h=>by cases h
 |g::s,v::T,L,x,h=>by
  unfold ss at h;split at h
  .rw [aQ,aQ,xV h]
  .cases h
inductive gTsI(K:FG)(gs:List jK)(xs:List V)(σ:L2.St)(H:Hp)(Q:L2.St->Hp->Prop):Prop
 |mk (F:Aa) (m:List Addr) (L:Lc) (vs:List P) (L':Lc) (h0_:RL K F H m σ L) (h1_:dt K F H vs xs) (h2_:ss gs vs L=some L') (h3_:∀σ',RL K F H m σ' L'->Q σ' H):gTsI K gs xs σ H Q
noncomputable def Uj(K:FG)(g:List jK):NI:=λx G H Q=>gTsI K g x G H Q
inductive GsOk(X:Cx):Ab->List jK->Prop where
 |nil:GsOk X [] []
 |cons {x:Str}{p:Pos}{es:Ab}{g:jK}{gs:List jK}:PG X (.Name x p) (gT X.K g)->GsOk X es gs->GsOk X (.Name x p::es) (g::gs)
section
variable{X:Cx}{N:Pos}
theorem tW:assignEach (.Name x p::es) v=(false,assign (.Name x p) v)::assignEach es v:=rfl
theorem GsOk.len(h:GsOk X es r)(e:Env):(assignEach es e).length=r.length/\(assignEach es e).findIdx? (·.1)=none:=by
 induction h with
 |nil=>exact⟨rfl,rfl⟩
 |cons _ _ i=>rw[tW];refine⟨by rw[aQ,aQ,i.1],?_⟩;simp only[List.findIdx?_cons,i.2];rfl
set_option tactic.hygienic true in
theorem GsOk.pgs(h:GsOk X es gs):Qz X es (Uj X.K gs):=by
 induction h with
 |nil=>
  intro B s G H f u Q I a ⟨F,m,L,T,e,l,r,q,k⟩;cases T with
  |nil=>cases q;cases (show f=[] from r);exact JB B s G H [] u Q I a ⟨rfl,k G l⟩
  |cons _ _=>cases q
 |cons g _ i=>
  intro B s G H f u Q I a ⟨F,m,L,T,e,l,r,q,k⟩;cases T with
  |nil=>cases q
  |cons v T=>
   unfold ss at q;split at q
   .rename_i n b;obtain⟨x,t,rfl,p,r⟩:=r;refine FT g i rfl B s G H _ u Q I a ⟨x,t,rfl,F,m,L,v,n,l,p,b,λd c=>?_⟩;exact⟨F,m,n,T,e,c,r,q,k⟩
   .cases q
theorem M9(c:X.c=true)(h:GsOk X es r):PG X (.Tuple es n N) (gT X.K (aW r)):=
 PG.imp' (Mr c h.pgs (h.len _).1 (h.len _).2) λv G H Q z=>by
  obtain⟨F,m,L,d,x,l,p,q,k⟩:=z;cases d with
  |tup T=>obtain⟨a,f,rfl,t,e⟩:=p;have s:=xV (show ss r T L=some x from q);exact⟨a,f,rfl,t.sq,by rw[<- e.length];exact s,F,m,L,T,x,l,e,q,k⟩
  |_=>cases q
def KC(K:FG)(a:Addr):It:=
 ⟨λi H=>∃s x,iO K H a s/\s[i]? = some x,λi H x h=>∃p y,x=.ref p/\H p=none/\h=upd H p (.tup [.int i,y])/\∀s,iO K H a s->s[i]? = some y,λi H=>∃s,iO K H a s/\s.length≤i⟩
theorem Dd{P:Program}{w:World}{K:FG}{es:Ab}{n:Nat}(a e t:Addr)(C:e≠t):Turn P w K (.Tuple es n N) (KC K a) [e,t] e (λi h=>(∃l,IsEnum h e t i l)/\h.IsListIter t a i) where
 mem:=by simp
 obj:=λi h st b p=>by
  obtain⟨⟨l,A⟩,⟨o,ho,c,d⟩⟩:=st;have:b=e\/b=t:=by simpa using p
  rcases this with rfl|rfl
  .exact⟨_,A,λv z=>by have z':Data.fields _=Data.cell v:=z;cases z'⟩
  .exact⟨o,ho,λv z=>by rw[d]at z;cases z⟩
 keep:=λi h h' st k=>by obtain⟨⟨l,A⟩,y⟩:=st;exact⟨⟨l,k e (by simp) _ A⟩,y.at λo q=>k t (by simp) o q⟩
 item:=by
  intro X hP hw hK f i B s G H E I V st hg;subst hP hw hK;obtain⟨xs,x,W,hx⟩:=hg;obtain⟨its,rv,pl,hz⟩:=I.list W;obtain⟨u,hu,ru⟩:=rv.get hx;obtain⟨⟨l,A⟩,y⟩:=st;obtain⟨f0,f1,f2,f3,f4,f5⟩:=V e (by simp);obtain⟨Q,R,g2,g3,g4,g5⟩:=V t (by simp);refine wpAny_pyNext_enum_item A y pl.isList (x:=u) (by simpa using hu) C λh1 ho1 L ht1 hz1 hk1=>?_
  refine⟨_,rfl,wpAny_letOwnedTupleGo_enum (s:={ s with heap:=h1,toks:=s.toks+1 }) ho1 λT he2 F=>?_⟩;replace F:gK e h1 T:=F;have D:e < s.heap.objs.size:=aM A;have S:∀b o,b≠e->b≠t->s.heap.get? b=some o->T.get? b=some o:=λb o b1 b2 q=>(F.2 b b1).trans (hk1 b o b1 b2 q);have M:T.get? s.heap.objs.size=some { cls:=.type "tuple",data:=.seq #[.int i s.toks,u] }:=(F.2 _ (cm D)).trans ht1;have j:H s.heap.objs.size=none:=I.h.fresh (al _);have Z:∀{b:Addr}{o:HO},H b=some o->b≠e/\b≠t:=λ{b o} q=>⟨λz=>(by rw[z,f0]at q;cases q),λz=>(by rw[z,Q]at q;cases q)⟩;have g:∀b,b ∉ [e,t]->b≠e/\b≠t:=λb p=>⟨λz=>p (by simp[z]),λz=>p (by simp[z])⟩;have I':Inv X B G (upd H s.heap.objs.size (.tup [.int i,x])) { s with heap:=T,gens:=s.gens,drawn:=s.drawn,toks:=s.toks+1 }:=by
   refine I.step (ch:=[e,t]) (λb p=>?_) (λb o _ _ f q _=>S b o (g b f).1 (g b f).2 q) (λb o _ _ f q _=>⟨o.slots,S b o (g b f).1 (g b f).2 q⟩) (λb o _ q n=>?_) (λb o f q=>⟨o,S b o (g b f).1 (g b f).2 q⟩)
    (λb ys q=>?_) (λb o ys q=>?_) (λb ps q=>⟨#[],?_⟩) (λm hm=>?_) (λb u' q=>?_) I.bare
   .have:b=e\/b=t:=by simpa using p
    rcases this with rfl|rfl
    .exact⟨f3,f1,f4,f5⟩
    .exact⟨g3,R,g4,g5⟩
   .rw [aq (bo (aM q))];exact n
   .rw [aq (dw q j)];exact q
   .rw [aq (dw q j)];exact q
   .rw [aq (dw q j),q];simp
   .obtain⟨o,es,ep,ho,r⟩:=hm;exact⟨o,es,ep,S _ o (aC f1) (aC R) ho,r⟩
   .by_cases p:b=s.heap.objs.size
    .subst p;rw[aJ]at q;cases q;exact⟨by show 2≤sizeLine;decide,[.int i s.toks,u],.cons ⟨_,rfl⟩ (.cons ru .nil),⟨_,M,⟨rfl,_,rfl⟩,rfl⟩⟩
    .rw [aq p]at q;refine(I.h b u' q).stay (λc v f z=>S c v ?_ ?_ z) (λc z=>by rw[aq (dw z j)];exact z) λc ys z=>by rw[aq (dw z j)];exact z
     .rcases f with rfl|f
      .exact (Z q).1
      .exact (Z f).1
     .rcases f with rfl|f
      .exact (Z q).2
      .exact (Z f).2
  refine⟨.ref s.heap.objs.size,_,I',rfl,⟨s.heap.objs.size,x,rfl,j,rfl,λys hy=>by rw[I.list_inj hy W];exact hx⟩,⟨⟨u,by simpa using he2⟩,L.at λo q=>(F.2 t (aC C)).trans q⟩,λb p=>?_⟩;have hb':b=e\/b=t:=by simpa using p
  obtain⟨oi,hoi,_⟩:=id y;rcases hb' with rfl|rfl
  .rw [aq (bo D)];exact f0
  .rw [aq (bo (aM hoi))];exact Q
 done:=by intro X hP hw hK f i B s G H E I V st hg;subst hP hw hK;obtain⟨xs,W,hx⟩:=hg;obtain⟨its,rv,pl,hz⟩:=I.list W;obtain⟨⟨l,A⟩,y⟩:=st;obtain⟨Q,R,g2,g3,g4,g5⟩:=V t (by simp);have hl:=rv.length;exact wpAny_pyNext_enum_end (I.o.hd f) A y pl.isList (by simp;lia) λh' eb=>⟨rfl,I.turned (t':=s.toks) (λb o p e=>eb b o p e) Q R g3 g4 g5⟩
 self:=λ_ _ _ _ _ st h=>by obtain⟨⟨l,A⟩,_⟩:=st;exact Et A h
noncomputable def bv(k:Int):List P->List P
 | []=>[]
 |x::r=>.tup [.int k,x]::bv (k+1) r
theorem oJ:∀{T:List P}{k:Int}{i:Nat}{v:P},(bv k T)[i]? = some v->∃x,T[i]? = some x/\v=.tup [.int (k+i),x]
 | [],_,_,_,h=>by simp[bv]at h
 |x::r,k,0,v,h=>⟨x,rfl,by simpa[bv] using h.symm⟩
 |x::r,k,i+1,v,h=>by obtain⟨y,a,e⟩:=oJ (T:=r) (k:=k+1) (i:=i) (by simpa[bv] using h);refine⟨y,by simpa using a,?_⟩;rw[e];congr 3;lia
theorem h_:∀(T:List P)(k:Int),(bv k T).length=T.length
 | [],_=>rfl
 |_::r,k=>by rw[bv,aQ,aQ,h_ r]
@[simp] def ug(a:EV)(L:Lc)(S:aB):IV:=bL (a L S) λv h=>match v with
 | .lst x=>some (bv 0 x,h)
 | .ro x=>some (bv 0 x,h)
 |_=>none
theorem GH{K:FG}{F:Aa}{m:List Addr}{H:Hp}{a:Addr}{T:List P}{s:List V}(t:∀h k n,Stp F m H h k n->iO K n a s)(r:dt K F H T s):N6 K (KC K a) (bv 0 T) F m H:=by
 intro h k n st;have q:=t h k n st;have l:=r.length;refine⟨λi v e=>?_,⟨s,q,by rw[h_,l];exact al _⟩⟩;obtain⟨d,c,rfl⟩:=oJ e;obtain⟨x,f,p⟩:=r.get c;refine⟨⟨s,x,q,f⟩,λz u y=>?_⟩;obtain⟨g,y,rfl,b,rfl,w⟩:=y;have:y=x:=by have:=w s q;rw[f]at this;cases this;rfl
 subst this;refine⟨h,cu b,RP.newTup b ⟨_,_,rfl,?_,_,_,rfl,RP.mono st p,rfl⟩⟩;show V.int (i:Int)=V.int (0+(i:Int));rw[df]
theorem iE{es:Ab}{n:Nat}{a:Expr}{C:EV}{p d:Pos}(hg:Gl X "enumerate")(hm:X.g "enumerate"=none)(ha:PE X a (tV X.K C))(M:starEach [a] X.e=[(false,eval a X.e)]):PI X (.Tuple es n N) (.Call (.Name "enumerate" p) [a] [] d) (tI X.K (ug C)):=by
 intro B s G H R I ⟨F,m,L,S,T,S',r,l,q,k⟩;obtain⟨v,A,e1,q⟩:=ah q;have hA:PA X [a] (sW X.K (bc C bf)):=Ld ha NF (by rw[M];rfl);refine Call_ (mh I hg hm boot_enumerate (mJ (du (hA d B s G H (λc x=>∃f t,Stp F m H f t x/\Rel X.K f x t A/\dt X.K f x [v] c) I ⟨F,m,L,S,[v],A,r,l,?_,λc f t x h j K=>⟨f,t,h,j,K⟩⟩) λus h ⟨c,x,w,W,f,t,st,j,K⟩=>?_) (by rw[M];rfl) rfl))
 .simp only[bc,bf,e1,aw]
 obtain⟨x1,rfl,Q⟩:=y7 K;obtain⟨u,rfl,ru⟩:=vals1 W;have D:∀{a:Addr}{c:List V},x1=.ref a->iO X.K x a c->R (KC X.K a) x->wx X (call (.type "enumerate") [u]) (λv h=>wx X (pyIter v) (Q_ X B G (.Tuple es n N) R) X.xe h) X.xe h:=λ{a c} e hq q=>by
  subst e;cases ru;obtain⟨its,W,pl,hz⟩:=w.list hq;refine call_enumerate_list pl.isList λh' E o hsz hk=>?_
  refine Et E ?_;have g:∀b,h.heap.objs.size≤b->x b=none:=λb y=>w.h.fresh y;refine⟨h.heap.objs.size+1,[h.heap.objs.size+1,h.heap.objs.size],_,_,x,rfl,w.kept (t':=h.toks) hk,Dd a _ _ (cm (qz _)),⟨⟨_,E⟩,o⟩,λb y=>?_,q⟩;have z:b=h.heap.objs.size+1\/b=h.heap.objs.size:=by simpa using y
  rcases z with rfl|rfl
  .exact w.fpOk (lp _) (g _ (lp _))
  .exact w.fpOk (al _) (g _ (al _))
 cases v with
 |lst ds=>cases q;obtain⟨a,c,rfl,i,P⟩:=Q;exact D rfl i.sq (k _ f t x st j (GH (λZ m2 H2 s=>(i.kp s.kp).sq) P))
 |ro ds=>cases q;obtain⟨a,c,rfl,i,P⟩:=Q;exact D rfl i.sq (k _ f t x st j (GH (λZ m2 H2 s=>(i.kp s.kp).sq) P))
 |_=>cases q
end
open PySem.AutoSeq1 (wpAny_loadPart')
theorem Ht(n:Nat):(hV n=true)=(n≤1000000):=by unfold hV;simp
variable{l:Type}{Q:l->Shared->Prop}{s:Shared}
theorem QT(h:c=false)(k:wpAny M A b Q E s):wpAny M A (if c=true then a else b) Q E s:=by rw[h,au bt];exact k
theorem Uh(h:c=true)(k:wpAny M A a Q E s):wpAny M A (if c=true then a else b) Q E s:=by rw[h,am rfl];exact k
theorem xY(a:Array Value)(n:Nat):∀b:Array Value,((List.replicate n a).foldl (·++·) b).size=b.size+n * a.size:=by
 induction n with
 |zero=>intro b;simp
 |succ n i=>intro b;rw[cX,fC,i,AW,vq];lia
theorem IZ(l:Addr)(i:Array Value)(n:Nat)(e:Option Addr)(k:Array (OV))(x:Int)(u:Tok)(c:-1000000 < x/\x < 1000000)(m:(i.isEmpty ||x == 1)=true) :
  Meets (Builtin.«tuple.__mul__» ⟨[.ref l,.int x u],[]⟩) (λ_ R s=>s.heap.get? l=some { cls:=.type "tuple",dict:=e,data:=.seq i n,slots:=k }/\R (.ok (.ret (Value.ref l))) s):=
 .of_wp λI w A R s h=>by
  obtain⟨p,g,d,t,os⟩:=s;obtain⟨a,h⟩:=h;have f:=zV;have b:=zW
  wp_walk using lZ a
  refine QT (by rw[cT (by lia),cT (by lia)];rfl) ?_
  wp_walk using lZ a
  exact⟨_,rfl,h⟩
theorem IY(l:Addr)(i:Array Value)(n:Nat)(c:Option Addr)(q:Array (OV))(x:Int)(u:Tok)(H:-1000000 < x/\x < 1000000)(f:¬(i.isEmpty ||x == 1)=true)(z:i.size * x.toNat≤1000000) :
  Meets (Builtin.«tuple.__mul__» ⟨[.ref l,.int x u],[]⟩) (fun _ R s=>s.heap.get? l=some { cls:=.type "tuple",dict:=c,data:=.seq i n,slots:=q } /\
   R (.ok (.ret (Value.ref s.heap.objs.size))) { s with heap:=s.heap.push { cls:=Value.type "tuple",data:=Data.seq ((List.replicate x.toNat i).foldl (·++·) #[]) } }):=
 .of_wp λI w A R s h=>by
  obtain⟨S,g,d,K,os⟩:=s;obtain⟨a,h⟩:=h;have y:=zV;have o:=zW
  wp_walk using lZ a
  refine QT (by rw[cT (by lia),cT (by lia)];rfl) ?_
  wp_walk using lZ a
  have k:i.isEmpty=false:=by
   cases e:i.isEmpty with
   |false=>rfl
   |true=>rw[e]at f;simp at f
  by_cases b:x≤0
  .refine Uh (by rw[mF b];rfl) ?_;have m:x.toNat=0:=by lia
   rw[m]at h
   wp_walk using lZ a
   exact⟨_,rfl,h⟩
  .refine QT (by rw[cT b,k];rfl) ?_;have p:(i.size:Int) * x≤1000000:=by
    have:((i.size * x.toNat:Nat):Int)≤1000000:=by lia
    rw[Ad,Ae (by lia)]at this;exact this
   have r:¬(i.size:Int) * x > (2 ^ 63-1) / 8:=by lia
   dsimp only;rw[au r];have F:(1000000:Int)≤(sizeLine:Int):=by decide
   refine QT (show HU _=false from cT (by lia)) ?_;have t:¬(qc (λv j=>v++j) #[] (List.replicate x.toNat i)).size > sizeLine:=by
    have e:=xY i x.toNat #[];rw[e];have:x.toNat * i.size≤1000000:=by rw[qy];exact z
    have:(1000000:Nat)≤sizeLine:=by decide
    simp only[a7,u_];lia
   wp_walk using lZ a
   exact⟨_,rfl,h⟩
theorem Jo(a:Int)(t:Tok)(l:Addr)(i:Array Value)(n:Nat)(x:Option Addr)(e:Array (OV)) :
  Meets (Builtin.«int.__rmul__» ⟨[.int a t,.ref l],[]⟩) (λ_ R s=>s.heap.get? l=some { cls:=.type "tuple",dict:=x,data:=.seq i n,slots:=e }/\R (.ok (.ret Value.notImplemented)) s):=
 .of_wp λI w A R s h=>by
  obtain⟨p,g,d,f,os⟩:=s;obtain⟨k,h⟩:=h
  wp_walk
  exact⟨_,rfl,h⟩
theorem Dw:fillsNumberSlot (.type "tuple") "mul"=pure false:=
 PySem.fillsNumberSlot_seq (id:="tuple.__mul__") (r:=some (.builtin "tuple.__rmul__")) pV.lookup (by decide +kernel) An.lookup (by decide +kernel)
theorem Mg:seqRepeat? (.type "tuple")=pure (some (.builtin "tuple.__mul__")):=by unfold seqRepeat?;rw[EF (T:="tuple") (name:="__mul__") (id:="tuple.__mul__") pV.lookup (by decide +kernel)];first|rfl|(rw[EF (T:="tuple") (name:="__rmul__") (id:="tuple.__rmul__") An.lookup (by decide +kernel)];rfl)
section
variable{X:Cx}
theorem zr(i:LV)(k:Nat):(List.replicate k i.toArray).foldl (·++·) #[]=(List.replicate k i).flatten.toArray:=by
 have:∀(m:Nat)(b:LV),(List.replicate m i.toArray).foldl (·++·) b.toArray=(b++(List.replicate m i).flatten).toArray:=by
  intro m;induction m with
  |zero=>intro b;simp
  |succ m x=>intro b;rw[cX,fC,List.append_toArray,x,cX,gj,gi]
 have h:=this k [];rw[fD]at h;exact h
theorem BV(r:aZ u v):∀k:Nat,aZ (List.replicate k u).flatten (List.replicate k v).flatten
 |0=>.nil
 |k+1=>by rw[cX,cX,gj,gj];exact r.append (BV r k)
theorem MU(x:List l)(k:Nat):(List.replicate k x).flatten.length=x.length * k:=by
 induction k with
 |zero=>rfl
 |succ k i=>rw[cX,gj,bx,i,Bn];lia
def pf:P->P->Option P
 | .tup s,.int n=>if (hV (s.length * n.toNat) && decide (n.natAbs < 1000000))=true then some (.tup (List.replicate n.toNat s).flatten) else none
 |x,y=>wS x y
set_option tactic.hygienic true in
theorem MJ:pJ X (binaryOp .Mult) pf:=by
 intro B s G H x y v u Q I N R h;obtain⟨F,z,S,d,Z,L,M,q,k⟩:=h;have f:wS z S=some d->wx X (binaryOp .Mult v u) (EP X B G Q) X.xe s:=λq=>Pq B s G H x y v u Q I N R ⟨F,z,S,d,Z,L,M,q,k⟩
 cases z with
 |tup j=>
  cases S with
  |int n=>
   simp only[pf]at q;split at q
   .rename_i g;rw[az,Ht]at g;have h1:=be g.2;cases q;obtain⟨a,D,rfl,V,C⟩:=L;cases (show y=.int n from M);cases N;obtain⟨t,rfl⟩:=R;have K:=C.length;obtain⟨i,r,⟨o,e,c,m,E⟩,hz⟩:=I.tuple V.sq;have l:=r.length;obtain⟨oc,A,ot,os⟩:=o;dsimp only at c E;subst c E;refine EI (T:="tuple") (U:="int") (by decide) ⟨_,e,rfl⟩ (λs'=>qW s' n t) Dw PySem.F.fills_int_mul Ah Mg PySem.F.slot_int_index.lookup
     (i' Ah (qW s n t) PySem.F.entry_int_rmul (PySem.F.args_int_rmul_2 _ _) (Jo n t a i.toArray m A os) ⟨e,rfl,⟨_,e,rfl⟩,?_⟩)
    by_cases p:(i.toArray.isEmpty ||n == 1)=true
    .refine i' pV ⟨_,e,rfl⟩ Al (Ao _ _) (IZ a i.toArray m A os n t (by lia) p) ⟨e,⟨.ref a,H,I,rfl,k _ F H .refl ?_⟩⟩;have W:(List.replicate n.toNat j).flatten=j:=by
      rw[u1]at p;rcases p with p|p
      .have:i=[]:=by simpa using p
       have:j=[]:=g8 (by rw[K,l,this];rfl);subst this;simp
      .have:n=1:=by simpa using p
       subst this;simp
     rw[W];exact⟨a,D,rfl,V,C⟩
    .refine i' pV ⟨_,e,rfl⟩ Al (Ao _ _) (IY a i.toArray m A os n t (by lia) p (by rw[a7,<- l,<- K];exact g.1)) ⟨e,?_⟩;rw[zr];have w:H s.heap.objs.size=none:=I.h.fresh (al _);have P:(List.replicate n.toNat D).flatten.length≤sizeLine:=by
      rw[MU,<- K];exact aF g.1 (by decide)
     refine⟨.ref s.heap.objs.size,_,I.laid (t':=s.toks) (o:=.tup (List.replicate n.toNat D).flatten) (λb ob q=>bg _ q) (al _) ⟨P,_,BV r n.toNat,oR.new _ _⟩,rfl,k _ F _ (cu w) (.newTup w (C.rep n.toNat))⟩
   .cases q
  |_=>exact f q
 |_=>exact f q
noncomputable def kY:List P->Option P
 | [.lst x]=>some (.lst x)
 | [.ro x]=>some (.lst x)
 | [.tup x]=>some (.lst x)
 |_=>none
noncomputable def eX:List P->Option P
 | [.lst x]=>some (.tup x)
 | [.ro x]=>some (.tup x)
 | [.tup x]=>some (.tup x)
 |_=>none
theorem Hw:dW X (.type "list") (rC X.K kY):=by
  intro B s G H m u Q I r h;obtain⟨F,b,d,c,f,q,k⟩:=h;unfold kY at q;split at q;all_goals first
    |(cases q;done)
    | (cases q
       obtain⟨x,rfl,p⟩:=y7 f;obtain⟨a,y,rfl,t,n⟩:=p;first
         |exact nA B s G H _ u Q I r ⟨a,y,rfl,.inl t.sq,λl e=>k _ _ _ (cL e) (.newLst e n)⟩
         |exact nA B s G H _ u Q I r ⟨a,y,rfl,.inr t.sq,λl e=>k _ _ _ (cL e) (.newLst e n)⟩)
theorem D5:dW X (.type "tuple") (rC X.K eX):=by
  intro B s G H m u Q I r h;obtain⟨F,b,d,c,f,q,k⟩:=h;unfold eX at q;split at q;all_goals first
    |(cases q;done)
    | (cases q
       obtain⟨x,rfl,p⟩:=y7 f;obtain⟨a,y,rfl,t,n⟩:=p;first
         |exact lQ B s G H _ u Q I r ⟨a,y,rfl,.inl ⟨t.sq,λl e=>k _ F _ (cu e) (.newTup e n)⟩⟩
         |exact lQ B s G H _ u Q I r ⟨a,y,rfl,.inr ⟨t.sq,k _ F H .refl ⟨a,y,rfl,t,n⟩⟩⟩)
noncomputable def pj:List P->Option P
 | [.int i]=>some (.int (if i < 0 then -i else i))
 |_=>none
theorem Kr:dW X (.builtin "abs") (rC X.K pj):=by
 intro B s G H n u Q I r h;obtain⟨F,e,d,f,a,q,k⟩:=h;unfold pj at q;split at q
 .cases q;obtain⟨x,rfl,p⟩:=y7 a;exact Hv B s G H _ u Q I r ⟨_,by rw[show x=_ from p],k _ F H .refl rfl⟩
 .cases q
variable{e:Expr}{es:Ab}{fs:iQ}{p N:Pos}
theorem Lr(g:Gl X "list")(m:X.g "list"=none)(a:PA X (e::es) (sW X.K fs))(x:starEach (e::es) X.e=(false,eval e X.e)::starEach es X.e)(h:(backTo N (starEach es X.e)).any (·.1)=false) :
  PE X (.Call (.Name "list" p) (e::es) [] N) (tV X.K (cP kY fs)):=yQ Hw g m AT a (by decide) (by decide) x h
theorem IG(g:Gl X "tuple")(m:X.g "tuple"=none)(a:PA X (e::es) (sW X.K fs))(x:starEach (e::es) X.e=(false,eval e X.e)::starEach es X.e)(h:(backTo N (starEach es X.e)).any (·.1)=false) :
  PE X (.Call (.Name "tuple" p) (e::es) [] N) (tV X.K (cP eX fs)):=yQ D5 g m IB a (by decide) (by decide) x h
theorem Ol(g:Gl X "abs")(m:X.g "abs"=none)(a:PA X (e::es) (sW X.K fs))(x:starEach (e::es) X.e=(false,eval e X.e)::starEach es X.e)(h:(backTo N (starEach es X.e)).any (·.1)=false) :
  PE X (.Call (.Name "abs" p) (e::es) [] N) (tV X.K (cP pj fs)):=LF Kr g m Ix a (by decide) (by decide) x h
@[simp] def fN(r:EE)(a:EV)(L:Lc)(S:aB):xb:=bL (r L S) λd h=>match d9 d h with
 |none=>none
 |some _=>bL (a L h) λx e=>match d9 d e,x with
  |some (i,s),.lst y=>if hV (s.length+y.length)=true then some (.p .non,e.set i (.lst (s++y.map .p))) else none
  |_,_=>none
end
section
variable{X:Cx}{o e:Expr}{t q:EE}{C:EV}{j d N:Pos}
set_option tactic.hygienic true in
theorem IK(ho:PE X o (tE X.K t))(he:PE X e (tV X.K C))(I:starEach [e] X.e=[(false,eval e X.e)])
  (f:attributeBase o "extend" X.e (eval o X.e)=eval o X.e) (c:(j.endLine == d.line)=true):PE X (.Call (.Attribute o "extend" j) [e] [] d) (tE X.K (fN t C)):=
 (F9 pW PySem.F.slot_list_extend PySem.F.type_list_extend Dx ho (d7 he gM (by rw[I];rfl)) f (by rw[I];rfl) c (by rw[I];rfl) rfl).imp' λG H Q hz=>by
  obtain⟨F,m,L,S,h,S',r,l,q,k⟩:=hz;obtain⟨x,D,e1,q⟩:=ah q;refine⟨F,m,L,S,x,D,r,l,e1,λv F1 m1 H1 s1 W V=>?_⟩;cases E:d9 x D with
  |none=>rw[E]at q;cases q
  |some z=>
   obtain⟨i,ds⟩:=z;rw[E]at q;dsimp only at q;obtain⟨rfl,es⟩:=lx E;obtain⟨a,rfl,hm⟩:=id V;obtain⟨xs,hH,rs⟩:=W.obj i a _ hm es;refine⟨.inl ⟨rfl,xs,iO.of hH⟩,?_⟩;obtain⟨y,R,e2,q⟩:=ah q;refine⟨F1,m1,L,D,y,R,W,l.mono s1,e2,λu A M B s2 N p2=>?_⟩;cases s:d9 (.ref i) R with
   |none=>rw[s]at q;cases q
   |some z=>
    obtain⟨i2,ds2⟩:=z;rw[s]at q;obtain⟨e3,n⟩:=lx s;cases e3;cases y with
    |lst ys=>
     dsimp only at q;split at q
     .rename_i hf;cases q;obtain⟨a2,e4,p⟩:=RD.mono s2 V;cases e4;obtain⟨K,w,g⟩:=N.obj i a _ p n;obtain⟨b,P,rfl,tb,Z⟩:=p2;have T:∀P,B a≠some (.tup P):=λP z=>by rw[w]at z;cases z
      have st:Stp A M B A M (upd B a (.lst (K++P))):=gw N p n trivial T;refine⟨a,b,K,P,rfl,rfl,w,tb.2,by rw[<- g.length,<- Z.length];exact i9 hf,?_⟩;exact k .non A M _ (s1.trans (s2.trans st)) (N.set p n trivial T ⟨_,aJ,dA.mono st (g.append (dA.ofP Z))⟩) rfl
     .cases q
    |_=>cases q
noncomputable abbrev nP:=Lc->aB->Option (List D×aB)
noncomputable abbrev OG:=Option (List D×aB)
inductive tDsI(K:FG)(f:nP)(σ:L2.St)(H:Hp)(Q:List V->Hp->Prop):Prop
 |mk (F:Aa) (m:List Addr) (L:Lc) (S:aB) (ds:List D) (S':aB) (h0_:Rel K F H m S) (h1_:RL K F H m σ L) (h2_:f L S=some (ds,S')) (h3_:∀xs F' m' H',Stp F m H F' m' H'->Rel K F' H' m' S'->dA K F' H' m' ds xs->Q xs H'):tDsI K f σ H Q
noncomputable def yy(K:FG)(f:nP):TA:=λG H Q=>tDsI K f G H Q
@[simp] def jD(_L:Lc)(S:aB):OG:=some ([],S)
@[simp] def bY(a:EE)(r:nP)(L:Lc)(S:aB):OG:=bL (a L S) λx h=>bL (r L h) λs e=>some (x::s,e)
variable{es:Ab}{fs:nP}
theorem Qe:PA X [] (yy X.K jD):=gM.imp' λG H Q h=>by obtain⟨F,m,L,S,d,x,r,l,q,k⟩:=h;cases q;exact k [] F m H .refl r rfl
theorem Nk(u:PE X e (tE X.K q))(g:PA X es (yy X.K fs))(i:starEach (e::es) X.e=(false,eval e X.e)::starEach es X.e):PA X (e::es) (yy X.K (bY q fs)):=
 (d7 u g i).imp' λG H Q z=>by obtain⟨F,m,L,S,d,t,r,l,h,k⟩:=z;obtain⟨x,a,p,h⟩:=ah h;obtain⟨B,D,w,h⟩:=ah h;cases h;refine⟨F,m,L,S,x,a,r,l,p,λv f j C s P o=>?_⟩;refine⟨f,j,L,a,B,t,P,l.mono s,w,λT b y c n A K=>?_⟩;exact k (v::T) b y c (s.trans n) A ⟨v,T,rfl,RD.mono n o,K⟩
noncomputable abbrev GF:=List D->aB->Option (D×aB)
inductive spRI(K:FG)(g:GF)(vs:List V)(H:Hp)(Q:VK):Prop
 |mk (F:Aa) (m:List Addr) (ds:List D) (S:aB) (d:D) (S':aB) (h0_:Rel K F H m S) (h1_:dA K F H m ds vs) (h2_:g ds S=some (d,S')) (h3_:∀v F' m' H',Stp F m H F' m' H'->Rel K F' H' m' S'->RD K F' H' m' d v->Q v H'):spRI K g vs H Q
noncomputable def qL(K:FG)(g:GF):Sp:=λT H Q _=>spRI K g T H Q
@[simp] def ka(g:GF)(a:nP)(L:Lc)(S:aB):xb:=bL (a L S) λd h=>g d h
theorem LC(h:FnOk X.p X.w X.K X.g X.b pL u f fd ps (qL X.K a0))(B:Room u X.A)(K:Gl X x)(A:X.g x=some (.ref f))(P:dZ X.K (.ref f)=true)(z:Binds X.K fd ps [])
  (y:PA X (e::es) (yy X.K fs)) (b:(x == ("__debug__":Str))=false) (o:starEach (e::es) X.e=(false,eval e X.e)::starEach es X.e) (a:(backTo N (starEach es X.e)).any (·.1)=false) :
  PE X (.Call (.Name x p) (e::es) [] N) (tE X.K (ka a0 fs)):=
 (qM h B K A P z .nil rW y b o a).imp' λG H Q C=>by obtain⟨F,m,L,S,d,i,r,l,q,u⟩:=C;obtain⟨k,n,j,q⟩:=ah q;refine⟨F,m,L,S,k,n,r,l,j,λV c D w s M p=>?_⟩;show qL X.K a0 (V++[]) w Q E0;rw[dB];exact⟨c,D,k,n,d,i,M,p,q,λv t E g T R I=>u v t E g (s.trans T) R I⟩
noncomputable def ze(n:Nat):D->Bool
 | .p _=>true
 | .ref i=>decide (i < n)
def MT(n:Nat):SO->Bool
 | .lst d=>d.all (ze n)
 | .dct _ d=>d.all (ze n)
 | .fz _=>true
 | .ins _ _ d=>d.all (ze n)
 | .exc _ _=>true
 | .tpl d=>d.all (ze n)
 | .dtt _ d=>d.all (ze n)
def trunc(n:Nat)(S:aB):aB:=if (S.take n).all (MT n)=true then S.take n else S
@[simp] def cK(g:GF)(a:nP)(L:Lc)(S:aB):tyV:=bL (a L S) λs h=>bL (g s h) λd x=>bL (toP 9 d x) λv e=>some (v,trunc h.length e)
end
section
variable{K:FG}{F:Aa}{H:Hp}{m:List Addr}{S:aB}
theorem RD.low(h:RD K F H m r v)(l:ze n r=true):RD K F H (m.take n) r v:=by
 cases r with
 |p w=>exact h
 |ref i=>obtain⟨a,e,x⟩:=h;exact⟨a,e,by rw[g7 (be l)];exact x⟩
theorem dA.low:∀{s:List D}{a:List V},dA K F H m s a->s.all (ze n)=true->dA K F H (m.take n) s a
 | [],_,h,_=>h
 |d::s,_,h,l=>by obtain⟨x,r,e,k,f⟩:=h;rw[eR,az]at l;exact⟨x,r,e,k.low l.1,dA.low f l.2⟩
theorem Rel.trunc(r:Rel K F H m S)(z:n≤m.length)(h:(S.take n).all (MT n)=true):Rel K F H (m.take n) (S.take n) where
 len:=by rw[gX,gX,r.len]
 nd:=r.nd.sublist (ve _ _)
 obj:=λi a o t q=>by
  have u:i < n:=by have:=(bz.mp t).1;rw[gX]at this;lia
  rw[g7 u]at t;have lo:=bw.mp h o (a9 q);rw[g7 u]at q;have p:=r.obj i a o t q;cases o with
  |lst d=>obtain⟨g,s,b⟩:=p;exact⟨g,s,b.low lo⟩
  |dct j d=>obtain⟨k,s,e,b⟩:=p;exact⟨k,s,e,b.low lo⟩
  |fz v=>exact p
  |ins c j d=>obtain⟨C,l,k,y,s,e,b⟩:=p;exact⟨C,l,k,y,s,e,b.low lo⟩
  |exc c x=>exact p
  |tpl d=>obtain⟨g,s,b⟩:=p;exact⟨g,s,b.low lo⟩
  |dtt j d=>obtain⟨k,s,e,b⟩:=p;exact⟨k,s,e,b.low lo⟩
 sep:=λi a o t q w f=>by
  have u:i < n:=by have:=(bz.mp t).1;rw[gX]at this;lia
  rw[g7 u]at t q;exact r.sep i a o t q w f
 trk:=λa h=>r.trk a (qv h)
 ft:=r.ft
theorem Stp.trunc(s:Stp F m H v r u):Stp F m H v (r.take m.length) u:=by
 obtain⟨n,e⟩:=s.pre;have x:r.take m.length=m:=by rw[e];simp
 rw[x];exact⟨⟨[],by simp⟩,s.oth,s.frz,s.frk,s.tup,s.trk,s.nf,λ_ h=>.inl h⟩
end
section
variable{X:Cx}{e:Expr}{es:Ab}{fs:nP}{N:Pos}
theorem II(h:FnOk X.p X.w X.K X.g X.b pL u f fd ps (qL X.K a0))(hr:Room u X.A)(hg:Gl X x)(hm:X.g x=some (.ref f))(hk:dZ X.K (.ref f)=true)(W:Binds X.K fd ps [])
  (V:PA X (e::es) (yy X.K fs)) (b:(x == ("__debug__":Str))=false) (Z:starEach (e::es) X.e=(false,eval e X.e)::starEach es X.e) (g:(backTo N (starEach es X.e)).any (·.1)=false) :
  PE X (.Call (.Name x p) (e::es) [] N) (tV X.K (cK a0 fs)):=
 (qM h hr hg hm hk W .nil rW V b Z g).imp' λG H Q hz=>by
  obtain⟨F,m,L,S,d,S',r,l,q,u⟩:=hz;obtain⟨o,a,M,q⟩:=ah q;obtain⟨I,E,R,q⟩:=ah q;obtain⟨v1,s,T,q⟩:=ah q;cases q;refine⟨F,m,L,S,o,a,r,l,M,λxs C i D B P p1=>?_⟩;show qL X.K a0 (xs++[]) D Q E0;rw[dB];refine⟨C,i,o,a,I,E,P,p1,R,λv F2 j z s2 r2 p2=>?_⟩;obtain⟨y,s3,A,l3,K⟩:=n_ 9 T r2 p2;have st:=s2.trans s3;have k:=P.len;by_cases c:(s.take a.length).all (MT a.length)=true
  .have t:Ev.trunc a.length s=s.take a.length:=am c;rw[t]at u;have w:i.length≤j.length:=by
    obtain⟨nn,e⟩:=st.pre;rw[e,bx];lia
   have rt:=A.trunc (n:=a.length) (by rw[<- k];exact w) c;refine u v y (j.take i.length) z (B.trans st.trunc) ?_ K;rw[k];exact rt
  .have t:Ev.trunc a.length s=s:=au c;rw[t]at u;exact u v y j z (B.trans st) A K
end
section
variable{X:Cx}{a b c e o i g:Expr}{C z fc L k:EV}{t q:EE}{N h:Pos}
def sU (i:Expr):Prop:=∀(o:Expr) (N:Pos) (e:Env) (v:Value),assign (.Subscript o i N) e v=(do
 let h <- holding [v] (eval o e)
 let x <- holding [v,h] (eval i e)
 standAt N
 holding [v,h,x] (setItem h x v)
 release [v,h,x] [])
def Fy(o:EE)(k v:EV):ES:=λL S=>bL (v L S) λy x=>bL (o L x) λd a=>bL (k L a) λz h=>match d9 d h,z with
 |some (i,s),.int n=>match Cy s.length n with
  |some j=>some (.nx,L,h.set i (.lst (s.set j (.p y))))
  |none=>none
 |_,_=>none
theorem dA.setAt{K:FG}{F:Aa}{H:Hp}{m:List Addr}{d:D}{v:V}(h:RD K F H m d v):∀{s:List D}{e:List V}(j:Nat),dA K F H m s e->dA K F H m (s.set j d) (e.set j v)
 | [],_,_,r=>by cases (show _=([]:List V) from r);exact rfl
 |_::_,_,0,r=>by obtain⟨x,a,rfl,p,r⟩:=r;exact⟨v,a,rfl,h,r⟩
 |_::_,_,j+1,r=>by obtain⟨x,a,rfl,p,r⟩:=r;exact⟨x,_,rfl,p,dA.setAt h j r⟩
theorem N_(ho:PE X o (tE X.K t))(hi:PE X i (tV X.K L))(hv:PE X g (tV X.K k))(hs:swapsWith g (some (.Subscript o i h)) N.line X.e=pure false)(hw:swappedStores [.Subscript o i h] g X.e=pure none)(C:sU i) :
  PS X (.Assign [.Subscript o i h] g N) (jJ X.K (Fy t L k)):=(FQ hv (Ms ho hi Ft (C o h X.e)) hs hw).imp' λD G H hz=>by
 obtain⟨F,m,e,S,fl,L',S',r,l,q,s⟩:=hz;obtain⟨y,R,e1,q⟩:=ah q;obtain⟨d,T,e2,q⟩:=ah q;obtain⟨z,V,e3,q⟩:=ah q;refine⟨F,m,e,S,y,R,r,l,e1,λv Q Z H1 u r1 p1=>?_⟩;refine⟨Q,Z,e,R,d,T,r1,l.mono u,e2,λx F2 m2 H2 K r2 p2=>?_⟩;refine⟨F2,m2,e,T,z,V,r2,(l.mono u).mono K,e3,λw b p c P M p3=>?_⟩;cases B:d9 d V with
 |none=>rw[B]at q;cases q
 |some f=>
  obtain⟨j,ds⟩:=f;rw[B]at q;cases z with
  |int n=>
   dsimp only at q;cases A:Cy ds.length n with
   |none=>rw[A]at q;cases q
   |some I=>
    rw[A]at q;cases q;obtain⟨rfl,es⟩:=lx B;obtain⟨a,rfl,E⟩:=RD.mono P p2;obtain⟨xs,W,rs⟩:=M.obj j a _ E es;have pv:RD X.K b c p (.p y) v:=RD.mono P (RD.mono K (show RD X.K Q H1 Z (.p y) v from p1));cases (show w=.int n from p3);have nt:∀zs,c a≠some (.tup zs):=λzs z=>by rw[W]at z;cases z
    have st:Stp b p c b p (upd c a (.lst (xs.set I v))):=gw M E es trivial nt;refine⟨a,xs,n,I,rfl,rfl,W,by rw[<- rs.length];exact A,?_⟩;exact s G b p _ (u.trans (K.trans (P.trans st))) (M.set E es trivial nt ⟨_,aJ,dA.mono st (dA.setAt pv I rs)⟩) (((l.mono u).mono K).mono (P.trans st))
  |_=>cases q
def ju(o:EE)(k v:EV):ES:=λL S=>match y4 o k v L S with
 |some r=>some r
 |none=>Fy o k v L S
theorem Oa(y:X.A.units+1 < cLine)(w:PE X o (tE X.K t))(d:PE X i (tV X.K L))(j:PE X g (tV X.K k))(u:swapsWith g (some (.Subscript o i h)) N.line X.e=pure false)(hw:swappedStores [.Subscript o i h] g X.e=pure none)(p:sU i) :
  PS X (.Assign [.Subscript o i h] g N) (jJ X.K (ju t L k)):=λB s G H D I x=>by
 obtain⟨F,m,a,S,b,n,f,r,l,q,e⟩:=x;cases c:y4 t L k a S with
 |some z=>
  have v:some z=some (b,n,f):=by have:=q;unfold ju at this;rw[c]at this;exact this
  cases v;exact Rg y w d j u B s G H D I ⟨F,m,a,S,b,n,f,r,l,c,e⟩
 |none=>
  have v:Fy t L k a S=some (b,n,f):=by have:=q;unfold ju at this;rw[c]at this;exact this
  exact N_ w d j u hw p B s G H D I ⟨F,m,a,S,b,n,f,r,l,v,e⟩
@[simp] def nZ(g n:P->P->Option P)(a b c:EV)(L:Lc)(S:aB):tyV:=bL (a L S) λx e=>bL (b L e) λy h=>match g x y with
 |some (.bl true)=>bL (c L h) λz s=>(n y z).map λv=>(v,s)
 |some (.bl false)=>some (.bl false,h)
 |_=>none
theorem yg{g b:P->P->Option P}{G:L2.St}{H:Hp}{Q:VK}(h:tV X.K (nZ g b C z fc) G H Q):yX (rP X.K g) (rP X.K b) (tV X.K C) (tV X.K z) (tV X.K fc) G H Q:=by
 obtain⟨F,m,L,S,d,S',r,l,q,k⟩:=h;obtain⟨x,j,e1,q⟩:=ah q;obtain⟨y,o,e2,q⟩:=ah q;refine⟨F,m,L,S,x,j,r,l,e1,λv N m1 H1 E r1 p1=>?_⟩;refine⟨N,m1,L,j,y,o,r1,l.mono E,e2,λu R p H2 I A K=>?_⟩;cases f:g x y with
 |none=>rw[f]at q;cases q
 |some a=>
  rw[f]at q;cases a with
  |bl t=>
   refine⟨R,x,y,_,A.ft,RP.mono I p1,K,f,λw n i c p3=>⟨t,p3,?_⟩⟩;have xt:Stp F m H n p i:=E.trans (I.trans c.stp);have B:=A.grow c;cases t with
   |false=>rw[au bt];cases q;exact k _ n p i xt B rfl
   |true=>
    rw[am rfl];dsimp only at q;obtain⟨a,Z,e3,q⟩:=ah q;refine⟨n,p,L,o,a,Z,B,l.mono xt,e3,λw' T m4 H4 M D p4=>?_⟩;cases e:b y a with
    |none=>rw[e]at q;cases q
    |some z2=>rw[e]at q;cases q;exact⟨T,y,a,_,D.ft,RP.mono M (RP.grow c K),p4,e,λw2 V W s p5=>k w2 V m4 W (xt.trans (M.trans s.stp)) (D.grow s) p5⟩
  |_=>cases q
theorem LB(n:pJ X (compareOp u) r)(o:pJ X (compareOp v) g')(x:PE X a (tV X.K C))(e:PE X b (tV X.K z))(s:PE X c (tV X.K fc))(m:lastMarks [u,v] [b,c]=false) :
  PE X (.Compare a [u,v] [b,c] N) (tV X.K (nZ r g' C z fc)):=(F7 n o x e s m).imp' λ_ _ _ h=>yg h
theorem Lm(j:pJ X (compareOp op) u)(o:pJ X (compareOp op') g')(t:PE X a (tV X.K C))(w:PE X b (tV X.K z))(g:PE X c (tV X.K fc))(i:lastMarks [op,op'] [b,c]=false) :
  PT X (.Compare a [op,op'] [b,c] N) (tQ X.K (bV (nZ u g' C z fc))):=(FJ j o t w g i).imp' λG H Q h=>by
 refine yg ?_;obtain⟨F,m,L,S,d,P,r,l,q,k⟩:=h;obtain⟨x,A,f,q⟩:=ah q;cases x with
 |bl b=>cases q;exact⟨F,m,L,S,_,_,r,l,f,λv e y n s K p=>⟨_,p,k e y n s K⟩⟩
 |_=>cases q
def yV:P->Option Bool
 | .non=>some false
 | .bl b=>some b
 | .int i=>some (i != 0)
 | .str x=>if hV x.length=true then some ((x.length:Int) != 0) else none
 | .tup s=>some (!s.isEmpty)
 | .lst s=>some (!s.isEmpty)
 | .ro s=>some (!s.isEmpty)
 | .dct k _=>some (!k.isEmpty)
def I0:D->aB->Option Bool
 | .p v,_=>yV v
 | .ref i,S=>match S[i]? with
  |some (.lst d)=>some (!d.isEmpty)
  |some (.dct k _)=>some (!k.isEmpty)
  |some (.fz v)=>yV v
  |_=>none
@[simp] def bT(f:EE)(L:Lc)(S:aB):NM:=bL (f L S) λd h=>(I0 d h).map λb=>(b,h)
theorem i4{x:List l}{y:List β}(h:x.length=y.length):x.isEmpty=y.isEmpty:=by cases x<;>cases y<;>first|rfl|simp at h
set_option tactic.hygienic true in
theorem B0(p:RP X.K F H w v)(h:yV w=some r):NG X.K v H r:=by
 cases w with
 |non=>cases (show v=.non from p);cases h;rfl
 |bl b=>cases (show v=.bl b from p);cases h;rfl
 |int b=>cases (show v=.int b from p);cases h;rfl
 |str x=>
  cases (show v=.str x from p);simp only[yV]at h;split at h
  .rename_i c;cases h;exact⟨i9 c,rfl⟩
  .cases h
 |tup d=>obtain⟨a,s,rfl,t,e⟩:=p;cases h;exact .inr (.inl ⟨s,t.sq,by rw[i4 e.length]⟩)
 |lst d=>obtain⟨a,s,rfl,t,e⟩:=p;cases h;exact .inl ⟨s,t.sq,by rw[i4 e.length]⟩
 |ro d=>obtain⟨a,s,rfl,t,e⟩:=p;cases h;exact .inl ⟨s,t.sq,by rw[i4 e.length]⟩
 |dct m d=>obtain⟨a,k,rfl,_,f,n,e⟩:=p;cases h;exact .inr (.inr ⟨k,f,by rw[<- n];cases k<;>rfl⟩)
set_option tactic.hygienic true in
theorem yT(h:PE X e (tE X.K q))(D:∀o,isTrue e X.e o=(do let v <- o;standAt e.pos;holding [v] (truthy v))):PT X e (tQ X.K (bT q)):=
 (FI h D).imp' λG H Q E=>by
  obtain⟨F,m,L,S,d,R,r,l,s,k⟩:=E;obtain⟨x,P,B,s⟩:=ah s;cases n:I0 x P with
  |none=>rw[n]at s;cases s
  |some t=>
   rw[n]at s;cases s;refine⟨F,m,L,S,x,_,r,l,B,λv z I K M c i=>⟨_,?_,k z I K M c⟩⟩;cases x with
   |p w=>exact B0 i n
   |ref j=>
    obtain⟨a,rfl,g⟩:=i;simp only[I0]at n;split at n
    .rename_i A f;cases n;obtain⟨N,u,y⟩:=c.obj j a _ g f;exact .inl ⟨N,iO.of u,by rw[i4 y.length]⟩
    .rename_i T A f;cases n;obtain⟨b,u,C,y⟩:=c.obj j a _ g f;exact .inr (.inr ⟨b,u,by rw[<- C];cases b<;>rfl⟩)
    .rename_i w f;exact B0 (c.obj j a _ g f) n
    .cases n
@[simp] def vW(g:jK)(f:EV)(L:Lc)(S:aB):Fd:=bL (f L S) λv x=>match g v L with
 |some h=>some (.nx,h,x)
 |none=>none
theorem Rf(p:PE X e (tV X.K C))(d:PG X tg (gT X.K u))(w:swapsWithSole [tg] e N.line X.e=pure false)(hw:swappedStores [tg] e X.e=pure none)(t:(assignEach [tg] X.e).map (·.2)=[assign tg X.e]) :
  PS X (.Assign [tg] e N) (jJ X.K (vW u C)):=(FQ p d w hw t).imp' λD G H z=>by
 obtain⟨F,m,L,S,P,o,K,r,l,q,k⟩:=z;obtain⟨v,b,c,q⟩:=ah q;refine⟨F,m,L,S,v,b,r,l,c,λx a s f n y j=>?_⟩;cases g:u v L with
 |none=>rw[g]at q;cases q
 |some L2=>rw[g]at q;cases q;exact⟨a,s,L,v,_,l.mono n,j,g,λh i=>k h a s f n y i⟩
def kX:P->P->Option P
 | .tup [],.tup s=>some (.tup s)
 |x,y=>wT x y
theorem Nw{M:Program}{w:World}{A:Around}{E:VP}{s:Shared}{t b:Addr}{a:LV}{Q:VP}(n:IsTup s.heap t #[])(e:IsTup s.heap b a.toArray)(h:Q (.ref b) s):wpAny (model M w) A (binaryOp .Add (.ref t) (.ref b)) Q E s:=by obtain⟨o,g,k,m,l⟩:=id n;obtain⟨p,x,f,r,c⟩:=id e;cases o;cases p;cases k;cases l;cases f;cases c;exact yD ⟨_,g,rfl⟩ ⟨_,x,rfl⟩ yL yF uN uO (uR _ _) (tuple_addW0 t b #[] a.toArray m r _ _ _ _ rfl) ⟨g,x,h⟩
theorem MK:pJ X (binaryOp .Add) kX:=by
 intro B s G H x y v u Q I r m h;obtain⟨F,e,n,d,t,c,p,q,k⟩:=h;have o:wT e n=some d->wx X (binaryOp .Add v u) (EP X B G Q) X.xe s:=λq=>Py B s G H x y v u Q I r m ⟨F,e,n,d,t,c,p,q,k⟩
 cases e with
 |tup f=>
  cases n with
  |tup es=>
   cases f with
   |nil=>cases q;obtain⟨a,P,rfl,S,z⟩:=c;obtain⟨b,D,rfl,K,C⟩:=id p;cases (show P=[] from z);cases r;cases m;obtain⟨w,l,g,_⟩:=I.tuple S.sq;obtain⟨i,A,j,_⟩:=I.tuple K.sq;cases l;exact Nw g j ⟨.ref b,H,I,rfl,k _ F H .refl p⟩
   |cons _ _=>exact o q
  |_=>cases f<;>exact o q
 |_=>exact o q
def zQ(K:FG)(m:SV)(x:Str)(v:P):Prop:=∃u w,m x=some u/\RelV w u/\∀F H,RP K F H v w
theorem Ot(g:Gl X x)(h:zQ X.K X.g x v)(hd:(x == ("__debug__":Str))=false):PE X (.Name x N) (tV X.K (vC v)):=by obtain⟨u,w,m,r,p⟩:=h;exact xC (Cg g m r hd) p
end
section
variable{X:Cx}{a:Expr}{C:EE}{p N:Pos}
noncomputable def PM(T:String):D->Option Bool
 | .p (.int _)=>some (T == "int")
 |_=>none
@[simp] def E_(T:String)(f:EE)(L:Lc)(S:aB):tyV:=bL (f L S) λd h=>(PM T d).map λb=>(.bl b,h)
theorem D4(h:∀K:FG,bD K (.type "int") (.type v)=some (v == "int")) :
  dW X (.builtin "isinstance") (λx H Q=>∃i,x=[.int i,.ty v]/\Q (.bl (v == "int")) H):=by
 intro B s G H x f Q I r ⟨i,e,q⟩;subst e;obtain⟨u,n,rfl,a,w⟩:=vals2 r;cases (show n=Value.type v from w);obtain⟨t,rfl⟩:=(show ∃t,u=Value.int i t from a);exact vF PySem.W.kitx_int I.kIn True.intro (h X.K) (λz=>nomatch z) λk=>⟨.bl _,H,I.tok _,rfl,q⟩
theorem Og(T:∀K:FG,bD K (.type "int") (.type u)=some (u == "int"))(j:Gl X "isinstance")(y:X.g "isinstance"=none)(h:Gl X tn)(e:X.g tn=none)(g:bootBuiltins tn=some (.type u))(t:PE X a (tE X.K C))
  (z:tn≠"__name__") (hd:(tn == ("__debug__":Str))=false) (n:starEach [a,.Name tn p2] X.e=[(false,eval a X.e),(false,eval (.Name tn p2) X.e)]):PE X (.Call (.Name "isinstance" p) [a,.Name tn p2] [] N) (tV X.K (E_ u C)):=
 (kM (D4 T) j y AU (d7 t (d7 (Ci (v:=.ty u) h e g rfl z hd) gM rfl) (by rw[n];rfl)) (by decide) (by decide) (by rw[n];rfl) rfl).imp' λG H Q o=>by
  obtain⟨F,m,L,S,d,D,r,l,q,k⟩:=o;obtain⟨x,E,c,q⟩:=ah q;cases x with
  |ref _=>cases q
  |p w=>cases w with
   |int i=>cases q;exact⟨F,m,L,S,_,_,r,l,c,λv f P b s B A=>⟨i,by rw[show v=V.int i from A],k _ f P b s B rfl⟩⟩
   |_=>cases q
end
noncomputable def i3(f:Str):LS->List D->Option D
 |k::h,d::s=>if k=f then some d else i3 f h s
 |_,_=>none
noncomputable def putK(f:Str):LS->LS
 | []=>[f]
 |k::s=>if k=f then k::s else k::putK f s
noncomputable def tf(f:Str)(y:D):LS->List D->List D
 | [],_=>[y]
 |k::h,d::s=>if k=f then y::s else d::tf f y h s
 |_::_,[]=>[]
def kA(K:FG)(c:Str)(C:Addr):Prop:=a_ K mainGlobals c=some (some (.ref C))
variable{K:FG}
theorem kA.inj(h:kA K c r)(x:kA K c v):r=v:=by have:=h.symm.trans x;cases this;rfl
def Rc(K:FG)(A:Str->Str->Bool):Prop:=∀c f,A c f=true->∃C,kA K c C/\Cls K C/\mB K C f
section
variable{K:FG}{F:Aa}{H:Hp}{m:List Addr}
set_option tactic.hygienic true in
theorem Cr:∀{a:List (Str×V)}{s:List D}{d:D},dA K F H m s (a.map (·.2))->i3 f (a.map (·.1)) s=some d->∃v,a.lookup f=some v/\RD K F H m d v
 | [],s,d,_,h=>by cases s<;>cases h
 |(k,x)::r,s,d,q,h=>by
  cases s with
  |nil=>cases h
  |cons w s=>
   obtain⟨y,u,e,t,p⟩:=q;simp only[aE,cy]at e;obtain⟨rfl,rfl⟩:=e;simp only[aE,i3]at h;split at h
   .rename_i n;cases h;subst n;exact⟨x,by simp[eD],t⟩
   .rename_i n;obtain⟨v,b,c⟩:=Cr p h;exact⟨v,by rw[qh,show(f == k)=false by simpa using λz=>n z.symm];exact b,c⟩
theorem Cq:∀{v:List (Str×V)},(v.map (·.1)).contains f=false->v.lookup f=none
 | [],_=>rfl
 |(k,x)::r,h=>by simp only[aE,vf,AE]at h;rw[qh,h.1];exact Cq h.2
theorem FH(h:RD K F H m u v):∀{s:List (Str×V)}{d:List D},dA K F H m d (s.map (·.2))->(jb f v s).map (·.1)=putK f (s.map (·.1))/\dA K F H m (tf f u (s.map (·.1)) d) ((jb f v s).map (·.2))
 | [],d,n=>⟨rfl,v,[],rfl,h,rfl⟩
 |(k,x)::r,d,n=>by
  cases d with
  |nil=>cases (show _=([]:List V) from n)
  |cons p d=>
   obtain⟨z,q,e,c,a⟩:=n;simp only[aE,cy]at e;obtain⟨rfl,rfl⟩:=e;by_cases b:k=f
   .simp only[jb,b,kJ,aE,putK,tf];first|exact⟨rfl,v,_,rfl,h,a⟩|exact⟨trivial,v,_,rfl,h,a⟩
   .obtain⟨i,t⟩:=FH h a;simp only[jb,b,ik,aE,putK,tf];exact⟨by rw[i],x,_,rfl,c,t⟩
end
section
variable{X:Cx}{o e g:Expr}{f:Str}{N h j:Pos}{t k:EE}{A:Str->Str->Bool}{es:Ab}{fs:nP}
@[simp] def eB(A:Str->Str->Bool)(o:EE)(f:Str)(L:Lc)(S:aB):xb:=bL (o L S) λd h=>match d with
 | .ref i=>match h[i]? with
  |some (.ins c k s)=>if A c f=true then (i3 f k s).map λz=>(z,h) else none
  |_=>none
 |_=>none
set_option tactic.hygienic true in
theorem RC(D:Rc X.K A)(W:PE X o (tE X.K t))(M:attributeBase o f X.e (eval o X.e)=eval o X.e):PE X (.Attribute o f N) (tE X.K (eB A t f)):=(Mz W M).imp' λG H Q hz=>by
 obtain⟨F,m,L,S,d,S',r,l,q,k⟩:=hz;obtain⟨x,g,K,q⟩:=ah q;refine⟨F,m,L,S,x,g,r,l,K,λv b m1 u s1 n p1=>?_⟩;cases x with
 |p w=>cases q
 |ref i=>
  obtain⟨a,rfl,T⟩:=p1;dsimp only at q;split at q
  .rename_i c ks j Z;split at q
   .rename_i I;cases h:i3 f ks j with
    |none=>rw[h]at q;cases q
    |some z=>rw[h]at q;cases q;obtain⟨C,y,s,B,E,rfl,rs⟩:=n.obj i a _ T Z;obtain⟨C',e,R,V⟩:=D c f I;cases kA.inj B e;obtain⟨v,P,p3⟩:=Cr rs h;exact⟨a,C,y,s,v,rfl,E,R,V,P,k v b m1 u s1 n p3⟩
   .cases q
  .cases q
@[simp] def o4(A:Str->Str->Bool)(o:EE)(f:Str)(v:EE)(L:Lc)(S:aB):Fd:=bL (v L S) λy x=>bL (o L x) λd h=>match d with
 | .ref i=>match h[i]? with
  |some (.ins c k s)=>if (A c f && decide (k.length < 900))=true then some (.nx,L,h.set i (.ins c (putK f k) (tf f y k s))) else none
  |_=>none
 |_=>none
set_option tactic.hygienic true in
theorem Ob(hA:Rc X.K A)(ho:PE X o (tE X.K t))(hv:PE X g (tE X.K k))(n:swapsWith g (some (.Attribute o f h)) N.line X.e=pure false):PS X (.Assign [.Attribute o f h] g N) (jJ X.K (o4 A t f k)):=(Mm ho hv n).imp' λD G H hz=>by
 obtain⟨F,m,L,S,fl,L',S',r,l,q,e⟩:=hz;obtain⟨y,R,e1,q⟩:=ah q;obtain⟨d,S2,e2,q⟩:=ah q;refine⟨F,m,L,S,y,R,r,l,e1,λv F1 m1 H1 M r1 p1=>?_⟩;refine⟨F1,m1,L,R,d,S2,r1,l.mono M,e2,λx b E u Q I p2=>?_⟩;cases d with
 |p w=>cases q
 |ref i=>
  obtain⟨a,rfl,B⟩:=p2;dsimp only at q;split at q
  .rename_i c ks ds n;split at q
   .rename_i P;rw[az]at P;cases q;obtain⟨C,j,s,T,V,rfl,rs⟩:=I.obj i a _ B n;obtain⟨C',K,hc,hn⟩:=hA c f P.1;cases kA.inj T K;have hl:s.length < 1000:=by have:=be P.2;rw[bn]at this;lia
    have W:∀Z,u a≠some (.tup Z):=λZ z=>by rw[V]at z;cases z
    have st:Stp b E u b E (upd u a (.ins C j (jb f v s))):=gw I B n trivial W;obtain⟨i1,i2⟩:=FH (f:=f) (RD.mono st (RD.mono Q p1)) (dA.mono st rs);exact⟨a,C,j,s,rfl,V,hc,hn,hl,e G b E _ (M.trans (Q.trans st)) (I.set B n trivial W ⟨C,j,_,T,aJ,i1,i2⟩) ((l.mono M).mono (Q.trans st))⟩
   .cases q
  .cases q
@[simp] def eA(M:Str->Str->Option GF)(o:EE)(y:Str)(a:nP)(L:Lc)(S:aB):xb:=bL (o L S) λd h=>match d with
 | .ref i=>match h[i]? with
  |some (.ins c k _)=>match M c y with
   |some g=>if k.contains y=true then none else bL (a L h) λT x=>g (.ref i::T) x
   |none=>none
  |_=>none
 |_=>none
def Q'(X:Cx)(M:Str->Str->Option GF):Prop:=∀c y g,M c y=some g->∃C k f d p,kA X.K c C/\Cls X.K C/\Meth X.K C y f/\FnOk X.p X.w X.K X.g X.b pL k f d p (qL X.K g)/\Room k X.A/\Binds X.K d p []
variable{M:Str->Str->Option GF}{y:Str}
set_option tactic.hygienic true in
theorem ub(hM:Q' X M){n:TE}{ta:TA}(b:∀C k f u ps g,Cls X.K C->Meth X.K C y f->FnOk X.p X.w X.K X.g X.b pL k f u ps (qL X.K g)->Room k X.A->Binds X.K u ps []->PE X e (Fp C y (qL X.K g) [] E0 (tE X.K t) (yy X.K fs))):PE X e (tE X.K (eA M t y fs)):=by
 intro B s G H Q I h;obtain⟨F,m,L,S,d,S',r,l,q,k⟩:=h;obtain⟨x,K,e1,q⟩:=ah q;cases x with
 |p w=>cases q
 |ref i=>
  dsimp only at q;split at q
  .rename_i c ks ds hs;split at q
   .rename_i g hg;split at q
    .cases q
    .rename_i hk;obtain⟨T,P,e2,q⟩:=ah q;obtain⟨C,kk,f,u,ps,ec,hc,hm,hF,hr,hb⟩:=hM c y g hg;refine b C kk f u ps g hc hm hF hr hb B s G H Q I ⟨F,m,L,S,.ref i,K,r,l,e1,λv R m1 H1 E D A=>?_⟩;obtain⟨a,rfl,z⟩:=id A;obtain⟨C',dx,o,j,hH,rfl,rs⟩:=D.obj i a _ z hs;cases kA.inj ec j;refine⟨a,dx,o,rfl,hH,Cq (by simpa using hk),R,m1,L,K,T,P,D,l.mono E,e2,λxs W m2 H2 N r2 p2=>?_⟩;show qL X.K g (V.ref a::(xs++[])) H2 Q E0;rw[dB];exact⟨W,m2,.ref i::T,P,d,S',r2,⟨_,_,rfl,RD.mono N A,p2⟩,q,λv Z m3 H3 s3 r3 p3=>k v Z m3 H3 (E.trans (N.trans s3)) r3 p3⟩
   .cases q
  .cases q
theorem Op(x:Q' X M)(n:PE X o (tE X.K t))(a:PA X (e::es) (yy X.K fs))(s:starEach (e::es) X.e=(false,eval e X.e)::starEach es X.e)(h:(backTo N (starEach es X.e)).any (·.1)=false)
  (p:eval (.Call (.Attribute o y j) (e::es) [] N) X.e=(do
   let v <- eval o X.e
   standAt j.atName
   let (f,first) <- holding [v] (getMethod v y u)
   callWith N f first (backTo N (starEach (e::es) X.e)) (backToKw N (keywordEach [] X.e)))) :
  PE X (.Call (.Attribute o y j) (e::es) [] N) (tE X.K (eA M t y fs)):=
 ub (n:=tE X.K t) (ta:=yy X.K fs) x λC k f d q g c m F r b=>JD n c m F r b .nil rW a s h p
theorem Lv(i:Q' X M)(B:PE X o (tE X.K t))
  (E:eval (.Call (.Attribute o y j) [] [] N) X.e=(do
   let u <- eval o X.e
   standAt j.atName
   let (f,first) <- holding [u] (getMethod u y pl)
   callWith N f first (backTo N (starEach [] X.e)) (backToKw N (keywordEach [] X.e)))) :
  PE X (.Call (.Attribute o y j) [] [] N) (tE X.K (eA M t y jD)):=
 ub (n:=tE X.K t) (ta:=yy X.K jD) i λC k f fd ps g K A p D z=>(FV B K A p D z .nil rW E).imp' λG H Q h=>by obtain⟨F,m,L,S,d,n,r,l,q,k⟩:=h;refine⟨F,m,L,S,d,n,r,l,q,λv e R x s' Z V=>?_⟩;obtain⟨a,c,fs,rfl,w,P,s,T,L2,S2,ds,b,r2,l2,W,I⟩:=k v e R x s' Z V;cases W;exact⟨a,c,fs,rfl,w,P,I [] s T x .refl r2 rfl⟩
@[simp] def sJ(g:GF)(c:Str)(a:nP)(L:Lc)(S:aB):xb:=bL (a L S) λT h=>match g (.ref h.length::T) (h++[.ins c [] []]) with
 |some (.p .non,x)=>some (.ref h.length,x)
 |_=>none
set_option tactic.hygienic true in
theorem Oq{C f:Addr}{K:FuncData}{ps:LS}{k:Nat}{x:Str}{p:Pos}{g:GF}(M:Mk X.K C f)(h:FnOk X.p X.w X.K X.g X.b pL k f K ps (qL X.K g))(hr:Room (k+1) X.A)(hg:Gl X x)(hm:X.g x=some (.ref C))(Z:kA X.K x C)(hb:Binds X.K K ps [])
  (ha:PA X (e::es) (yy X.K fs)) (j:(x == ("__debug__":Str))=false) (he:starEach (e::es) X.e=(false,eval e X.e)::starEach es X.e) (o:(backTo N (starEach es X.e)).any (·.1)=false) :
  PE X (.Call (.Name x p) (e::es) [] N) (tE X.K (sJ g x fs)):=
 (JE M h hr hg hm hb .nil rW ha j he o).imp' λG H Q hz=>by
  obtain⟨F,m,L,S,d,S',r,l,q,k⟩:=hz;obtain⟨T,w,R,q⟩:=ah q;refine⟨F,m,L,S,T,w,r,l,R,λxs b s c s1 P p1=>λy a hy u z=>?_⟩;split at q
  .rename_i _ S2 V;cases q;have A:Stp b s c b s (upd c a (.own y)):=j4 u;have r2:Rel X.K b (upd c a (.own y)) s w:=P.new u;have i:upd c a (.own y) y=none:=by rw[aq (aC z)];exact hy
   have B:Stp b s (upd c a (.own y)) b (s++[y]) (upd (upd c a (.own y)) y (.ins C a [])):=fJ i;have r3:Rel X.K b (upd (upd c a (.own y)) y (.ins C a [])) (s++[y]) (w++[.ins x [] []]):=r2.own i ⟨C,a,[],Z,aJ,rfl,rfl⟩;rw[dB];have t:(s++[y])[w.length]? = some y:=by rw[<- P.len,cB (al _)];simp
   refine⟨b,s++[y],.ref w.length::T,_,.p .non,_,r3,⟨_,_,rfl,⟨y,rfl,t⟩,dA.mono B (dA.mono A p1)⟩,V,λv E m4 I D r4 p4=>⟨p4,?_⟩⟩;refine k (.ref y) E m4 I (s1.trans (A.trans (B.trans D))) r4 ⟨y,rfl,?_⟩;obtain⟨n,W⟩:=D.pre;rw[W,cA (bz.mp t).1];exact t
  .cases q
end
theorem MR(h:attributeBase o y v (eval o v)=eval o v)(e:methodCallForm (r.length+([]:List Keyword).length) (backTo N (starEach r v)) (backToKw N (keywordEach [] v))=true)(l:(j.endLine == N.line)=true) :
  eval (.Call (.Attribute o y j) r [] N) v=(do
   let u <- eval o v
   standAt j.atName
   let (f,first) <- holding [u] (getMethod u y (do return (<- importBound o v).getD true))
   callWith N f first (backTo N (starEach r v)) (backToKw N (keywordEach [] v))):=by
 have x:methodCallPos true o v j N=pure N:=by unfold methodCallPos;rw[l];rfl
 have a:∀u,methodCall o y j N v u (r.length+([]:List Keyword).length) (backTo N (starEach r v)) (backToKw N (keywordEach [] v))=(do
   let (f,first) <- holding [u] (getMethod u y (do return (<- importBound o v).getD true))
   callWith N f first (backTo N (starEach r v)) (backToKw N (keywordEach [] v))):=λu=>by
  unfold methodCall;rw[e,x];rfl
 have s:eval (.Call (.Attribute o y j) r [] N) v=(do
  let u <- attributeBase o y v (eval o v)
  standAt j.atName
  methodCall o y j N v u (r.length+([]:List Keyword).length) (backTo N (starEach r v)) (backToKw N (keywordEach [] v))):=by rfl
 rw[s,h];simp only[a]
open PySem.W (KasT kas_sort kas_ask kas_item kat_run kat_snds kat_lt kat_kind KatTups KatLex kat_nil kat_cons kat_yes kat_no kat_one)
noncomputable def Kb(lt:Nat->Nat->Option Bool):KasT l->Option l
 | .ret a=>some a
 | .ask i j k=>match lt i j with
  |some b=>Kb lt (k b)
  |none=>none
set_option tactic.hygienic true in
theorem G'(c:∀i j b C,lt i j=some b->C b s->r i j C s)(q:Q a s) :
  ∀(t:KasT l),Kb lt t=some a->t.kasWp r Q s
 | .ret _,h=>by cases h;exact q
 | .ask i j k,h=>by
  simp only[Kb]at h;split at h
  .rename_i b x;exact c i j b _ x (G' c q (k b) h)
  .cases h
section
variable{I:Program}{w:World}{A:Around}{E:VP}{s:Shared}{D:Addr}{T:LV}
theorem xZ(few:T.length < 2):((arrOf (SortSt.mk' general' (T.toArray.zip T.toArray) #[] 7 none)).map (·.2))=T.toArray:=by
 have same:(T.toArray.zip T.toArray).map (·.2)=T.toArray:=by
  rcases T with _|⟨v,_|⟨u,r⟩⟩
  .simp
  .simp
  .exact absurd few (by simp)
 exact same
theorem G6(few:T.length < 2)(a:s.heap.get? D=some (seqObj "list" T.toArray r))
  (g:∀x c,(∀b o,b≠D->s.heap.get? b=some o->x.get? b=some o)->x.get? D=some (seqObj "list" T.toArray c)->v (.done (.ret .none)) { s with heap:=x }) :
  wpAny (model I w) A (Builtin.«list.sort» ⟨[.ref D],[]⟩) v E s:=by
 have m:T.length+1≤sizeLine:=by rw[lX];lia
 have cond:T.toArray.size < 2:=by simpa using few
 have h:=AM a λ_=>(#[]:Array Value);rw[list_sort_plain];refine aa <|listItems_at a rfl <|aa <|AI a rfl (aa <|seqEpoch_at h rfl <|aa <|yH (aa <|Ee (db ?_) (ck _)) (by simpa using vr m)) (by simpa using vr m) (ck _);simp only[cond,kJ];have k:∀b o,(s.heap.update D (jO λ_=>(#[]:Array Value))).get? b=some o->((((s.heap.update D (jO λ_=>(#[]:Array Value))).push { cls:=.type "tuple",data:=.seq T.toArray }).push { cls:=.type "list",data:=.seq ([]:LV).toArray })).get? b=some o:=
  λ_ _ q=>bg _ (bg _ q)
 have t:=k D _ h;refine aa <|aj <|aa <|aj ?_;refine aa <|seqEpoch_at t rfl <|aa <|AI t rfl ?_ (ck _) (by rw[xZ few];simpa using Bt (vr m));rw[xZ few];have N5:=AM t λ_=>T.toArray;simp only[bne_self_eq_false,jQ,ik,failedOf];refine aj (g _ _ (λb o n e=>?_) N5);exact((pN _ D _).2 b n).trans (k b o (((pN s.heap D _).2 b n).trans e))
theorem yu(q:∀a u,Q a u->r a u):∀(t:KasT l)(u:Shared),t.kasWp (kas_ask I w A v T) Q u->t.kasWp (kas_ask I w A v T) r u
 | .ret a,u,h=>q a u h
 | .ask _ _ k,_,h=>aU h (λb u e=>yu q (k b) u e) λ_ _ x=>x
theorem Jh{f:Heap}{L l:Addr}{m:SV}{d:PN}{a:String}{o:Obj}{n:Nat}{G:VP}(F:Fr f L s.heap m)(N:News f L s.heap d)(hT:a="list"\/a="tuple")(ho:s.heap.get? l=some o)(hc:o.cls=.type a)(hd:o.data=.seq T.toArray n)(C:T.length < 64)
  (h1:T.length < 2->∀D g c,s.heap.get? D=none->Fr f L g m->News f L g ((D,seqObj "list" T.toArray c)::d)->G (.ref D) { s with heap:=g })
  (h2:2≤T.length->∀D e g,s.heap.get? D=none->(∀q ∈ d,q.1≠D)->Fr f L g m->News f L g ((D,seqObj "list" #[] e)::d) ->
   wpAny (model I w) A.in1.in1 (keyKind' T.toArray) (λV u=>(kas_sort T.length).kasWp (kas_ask I w A.in1.in1 V T) (λp u=>BA f L m D e (p.toList.map λi=>T.getD i Value.none) (λu=>G (.ref D) u) u) u) (λ_ _=>False) { s with heap:=g }) :
  wpAny (model I w) A (call (.builtin "sorted") [.ref l]) G E s:=by
 have y:T.length≤sizeLine:=by rw[lX];lia
 refine Calls.call_function_entry (b:=Builtin.«sorted») kind_sorted plain_sorted entry_sorted (args_sorted1 (.ref l)) (aa (m:=checkCount "sorted" 1 1 1) <|aj <|aa <|wpAny_collect_seq l hT ho hc hd (λh k=>aa <|Ee ?_ y) y);have t:∀b,b=h.objs.size->s.heap.get? b=none:=λb hb=>by
  cases q:s.heap.get? b with
  |none=>rfl
  |some u=>exact absurd (aM (k b u q)) (by rw[hb];exact gn _)
 have R:∀b u,s.heap.get? b=some u->(h.push { cls:=.type "list",data:=.seq T.toArray }).get? b=some u:=λb u e=>bg _ (k b u e);have H:(h.push { cls:=.type "list",data:=.seq T.toArray }).get? h.objs.size=some (seqObj "list" T.toArray 0):=dD _ rfl;have S:h.objs.size≠L:=λz=>by obtain⟨u,_,_,e,_⟩:=F.ns;rw[t L z.symm]at e;cases e
 have K:f.get? h.objs.size=none:=by
  rcases q:f.get? h.objs.size with _|u
  .rfl
  .have:=F.keep _ _ q;rw[t _ rfl]at this;cases this
 have neN:∀q ∈ d,q.1≠h.objs.size:=λq hq z=>by have:=(N q hq).1;rw[t _ z]at this;cases this
 have P:=F.keeps R;have B:=N.keeps R;refine aa (db (qZ (b:=Builtin.«list.sort») slot_list_sort ⟨_,H,rfl⟩ entry_list_sort ?_ (args_list_sort _)));by_cases few:T.length < 2
 .refine G6 (s:={ s with heap:=h.push { cls:=.type "list",data:=.seq T.toArray } }) few H λg c Q e=>⟨_,rfl,aj ⟨_,rfl,h1 few _ g c (t _ rfl) ⟨?_,λb u q=>?_,F.above⟩ λq j=>?_⟩⟩
  .obtain⟨u,es,ep,Z,r⟩:=P.ns;exact⟨u,es,ep,Q L u S.symm Z,r⟩
  .exact Q b u (λz=>by rw[z,K]at q;cases q) (P.keep b u q)
  .rcases aP.mp j with rfl|j
   .exact⟨e,S,K⟩
   .exact⟨Q _ _ (neN q j) (B q j).1,(B q j).2⟩
 .refine PySem.W.kat_list_sort (s:={ s with heap:=h.push { cls:=.type "list",data:=.seq T.toArray } }) P B H S K neN (by lia) C λe g W X=>?_;refine aU (h2 (by lia) _ e g (t _ rfl) neN W X) (λV u hu=>?_) λ_ _ x=>x;exact yu (λp v M=>M.mono λv M=>⟨_,rfl,aj ⟨_,rfl,M⟩⟩) _ _ hu
end
noncomputable def Sf:P->P->Option Bool
 | .tup [.str a,.int i],.tup [.str b,.int j]=>some (if a=b then decide (i < j) else decide (a.cps.toList < b.cps.toList))
 |_,_=>none
noncomputable def J1:P->Bool
 | .tup [.str _,.int _]=>true
 |_=>false
theorem J0(h:J1 r=true):∃a i,r=.tup [.str a,.int i]:=by
 unfold J1 at h;split at h
 .exact⟨_,_,rfl⟩
 .cases h
def ng(d:List P)(i j:Nat):Option Bool:=match d[i]?,d[j]? with
 |some x,some y=>Sf x y
 |_,_=>none
def oZ(d:List P):Option (List P):=if d.length < 2 then some d else if d.length < 64 then (Kb (ng d) (kas_sort d.length)).bind λp=>if p.size < 64 then some (p.toList.map λi=>d.getD i .non) else none else none
def sortable(d:List P):Bool:=d.all J1
def nC(d:List P):Option P:=if sortable d=true then (oZ d).map .lst else none
def KV(h:Heap)(d:P)(v:Value):Prop:=∃x i a o n t u,d=.tup [.str x,.int i]/\v=.ref a/\h.get? a=some o/\o.cls=.type "tuple"/\o.data=.seq #[.str x t,.int i u] n
variable{β:Type}{R:l->β->Prop}
theorem j6:∀{s:List l}{a:List β}{i:Nat}{x:l},Paired R s a->s[i]? = some x->∃y,a[i]? = some y/\R x y
 |_,_,_,_,.nil,h=>by simp at h
 |_,_,0,x,.cons (b:=b) r _,h=>⟨b,rfl,by simp at h;subst h;exact r⟩
 |_,_,i+1,x,.cons _ n,h=>by obtain⟨y,e,r⟩:=j6 (i:=i) n (by simpa using h);exact⟨y,by simpa using e,r⟩
theorem iq:∀{x:List l}{y:List β},Paired R x y->x.length=y.length
 |_,_,.nil=>rfl
 |_,_,.cons _ r=>by rw[aQ,aQ,iq r]
section
variable{I:Program}{w:World}{A:Around}{E:VP}{s:Shared}
set_option tactic.hygienic true in
theorem Kw{d:List P}{T:LV}{i j:Nat}{b:Bool}{C:Bool->Shared->Prop}(r:Paired (KV s.heap) d T)(h:ng d i j=some b)(c:C b s):kas_ask I w A (tuples' true) T i j C s:=by
 unfold ng at h;split at h
 .rename_i x y m t;obtain⟨_,u,l,p,o,D,K,G,M,rfl,rfl,g,S,n⟩:=j6 r m;obtain⟨_,v,z,q,H,E,B,L,N,rfl,rfl,f,F,k⟩:=j6 r t;cases h;unfold kas_ask;rw[jW,jW,u,v];refine kat_lt g n f k (kat_cons (Em ?_));by_cases e:l=z
  .rw [am e]at c;rw[mF e];refine kat_yes (kat_cons (El ?_));by_cases a:(p == q)=true
   .rw [a];rw[cT (by rw[eq_of_beq a];exact z_ _)]at c;exact kat_yes (kat_nil c)
   .rw [Bool.not_eq_true]at a;rw[a];exact kat_no (kat_one _ _ (AQ (show PySem.W.BoolBack C (.bool _) s from c)))
  .rw [au e]at c;rw[cT e];exact kat_no (oneLt_str c)
 .cases h
theorem xL:∀{s:List P}{T:LV},Paired (KV a0) s T->∃fs,KatTups a0 T fs/\fs.length=s.length/\∀v ∈ fs,∃x t,v=Value.str x t
 |_,_,.nil=>⟨[],.nil,rfl,λ_ z=>nomatch z⟩
 |d::s,_,.cons k r=>by
  obtain⟨fs,f,h,e⟩:=xL r;obtain⟨x,i,a,o,n,t,u,rfl,rfl,b,c,hd⟩:=k;refine⟨.str x t::fs,.cons (xs:=#[.str x t,.int i u]) b c hd rfl f,by rw[aQ,aQ,h],λv m=>?_⟩;rcases aP.mp m with rfl|m
  .exact⟨x,t,rfl⟩
  .exact e v m
theorem JU{d:List P}{T:LV}(r:Paired (KV s.heap) d T)(m:2≤T.length) :
  wpAny (model I w) A (keyKind' T.toArray) (λk h=>h=s/\∀i j b C,ng d i j=some b->C b h->kas_ask I w A k T i j C h) (λ_ _=>False) s:=by
 obtain⟨fs,f,x,a⟩:=xL r;refine kat_kind (T:=.type "str") f (by rw[x,iq r];lia) (λv n=>?_) rfl ⟨rfl,λi j b C e c=>Kw r e c⟩;obtain⟨i,t,rfl⟩:=a v n;exact HX (K:=[]) (λ_ _ z=>nomatch z) rfl
end
section
variable{X:Cx}
theorem Gz(I:Inv X B G H s):∀{e:List P}{f:List V}{k:LV},dt X.K F H e f->aZ f k->sortable e=true->Paired (KV s.heap) e k
 | [],_,_,h,r,_=>by cases (show _=([]:List V) from h);cases r;exact .nil
 |d::e,_,_,h,r,q=>by
  obtain⟨x,D,rfl,w,g⟩:=h;obtain⟨l,z⟩:=p9.mp (show(J1 d && sortable e)=true from q);cases r with
  |cons S K=>refine .cons ?_ (Gz I g K z);obtain⟨y,i,rfl⟩:=J0 l;obtain⟨a,E,rfl,C,_,_,rfl,b,_,_,rfl,c,m⟩:=w;cases S;cases b;cases c;cases m;obtain⟨j,A,⟨o,v,p,n,hd⟩,_⟩:=I.tuple C.sq;obtain⟨_,_,rfl,⟨t,rfl⟩,u,rfl⟩:=vals2 A;exact⟨y,i,a,o,n,t,u,rfl,rfl,v,p,hd⟩
theorem OD(r:aZ u v)(i:Nat):RelV (u.getD i .non) (v.getD i Value.none):=by
 rw[jW,jW];cases e:u[i]? with
 |none=>
  have l:=iq r;have:v[i]? = none:=by rw[Bi]at e ⊢;lia
  rw[this];rfl
 |some x=>obtain⟨y,h,a⟩:=j6 r e;rw[h];exact a
theorem BW(r:aZ u v):∀p:List Nat,aZ (p.map λi=>u.getD i .non) (p.map λi=>v.getD i Value.none)
 | []=>.nil
 |i::p=>.cons (OD r i) (BW r p)
theorem FA(r:dt K F H v u):∀p:List Nat,dt K F H (p.map λi=>v.getD i .non) (p.map λi=>u.getD i .non)
 | []=>rfl
 |i::p=>by
  refine⟨_,_,rfl,?_,FA r p⟩;show RP K F H (v.getD i P.non) (u.getD i V.non);rw[jW,jW];cases e:v[i]? with
  |none=>
   have l:=r.length;have:u[i]? = none:=by rw[Bi]at e ⊢;lia
   rw[this];rfl
  |some d=>obtain⟨x,h,a⟩:=r.get e;rw[h];exact a
theorem oE{r:Heap}{A:Nat}(I:Inv X B G H s)(y:s.heap.Ns X.e.locals m)(a:r.Ns X.e.locals m)(k:∀b o,b≠X.e.locals->s.heap.get? b=some o->r.get? b=some o):Inv X B G H { s with heap:=r,toks:=A }:=by
 have L:∀b u,H b=some u->b≠X.e.locals:=λb u e z=>by rw[z,I.free]at e;cases e
 refine I.step (g':=s.gens) (d':=s.drawn) (ch:=[]) (λ_ z=>nomatch z) (λb o h _ _ e _=>k b o h e) (λb o h _ _ e _=>⟨o.slots,k b o h e⟩) (λ_ _ _ _ n=>n) (λb o _ e=>?_) (λ_ _ e=>e) (λ_ _ _ e=>e) (λb M e=>⟨#[],by rw[e];simp⟩) (λK l=>?_) (λb u e=>?_) I.bare
 .by_cases h:b=X.e.locals
  .subst h;obtain⟨P,_,_,w,_⟩:=a;exact⟨P,w⟩
  .exact⟨o,k b o h e⟩
 .obtain⟨o,es,C,S,hd,D,t⟩:=y;obtain⟨E,i,g,f,d,F,p⟩:=l;rw[S]at f;cases f;rw[hd]at d;cases d;have:m=K:=funext λx=>(t x).symm.trans (p x);rw[<- this];exact a
 .refine (I.h b u e).stay (λc v j q=>k c v ?_ q) (λ_ q=>q) λ_ _ q=>q;rcases j with z|z
  .rw [z];exact L b u e
  .exact L c _ z
theorem se(k:∀b o,r.get? b=some o->v.get? b=some o)(F:Fr r a0 h' m)(N:News r a0 h' (lE r v a0)):∀b o,b≠a0->v.get? b=some o->h'.get? b=some o:=λb o h e=>by
 cases q:r.get? b with
 |some u=>have:=k b u q;rw[e]at this;cases this;exact F.keep b _ q
 |none=>exact(N (b,o) (xK h q e)).1
theorem Gg{P:Program}{w:World}{H:Hp}{h:Heap}{a:Addr}{o:HO}(x:cM P w H h a o):∃u,h.get? a=some u:=by
 cases o with
 |lst s=>obtain⟨_,_,_,_,e⟩:=x;exact⟨_,e⟩
 |tup s=>obtain⟨_,_,_,_,e,_⟩:=x;exact⟨_,e⟩
 |dK k=>obtain⟨_,_,_,_,_,_,_,e,_⟩:=x;exact⟨_,e⟩
 |dT k=>obtain⟨_,_,_,_,_,_,_,e,_⟩:=x;exact⟨_,e⟩
 |set S n=>obtain⟨_,_,_,_,e,_⟩:=x;exact⟨_,e⟩
 |ins C d fs=>obtain⟨_,_,_,e,_⟩:=x;exact⟨_,e⟩
 |own y=>exact x
 |xd fs=>obtain⟨_,⟨_,_,_,e,_⟩,_⟩:=x;exact⟨_,e⟩
 |rng lo i=>obtain⟨_,_,_,e⟩:=x;exact⟨_,e⟩
 |frz b u=>exact⟨_,x.1⟩
 |tbl p=>exact⟨_,(show h.get? a=some _ from x)⟩
 |met f y=>exact⟨_,(show h.get? a=some _ from x)⟩
 |ext c=>exact x.2.1
theorem wg{B:PN}{G:L2.St}{H:Hp}{s:Shared}{D:Addr}(I:Inv X B G H s)(h:s.heap.get? D=none):H D=none:=by
 cases q:H D with
 |none=>rfl
 |some v=>obtain⟨u,e⟩:=Gg (I.h D v q);rw[h]at e;cases e
theorem DD{B:PN}{G:L2.St}{H:Hp}{s:Shared}{t:Heap}{S:Nat}{m:SV}{D:Addr}{u:HO}(I:Inv X B G H s)(y:s.heap.Ns X.e.locals m)(h:t.Ns X.e.locals m)(k:∀b o,b≠X.e.locals->s.heap.get? b=some o->t.get? b=some o)(j:s.heap.get? D=none)(i:cM X.p X.w (upd H D u) t D u):Inv X B G (upd H D u) { s with heap:=t,toks:=S }:=by
 have f:=wg I j;have N:∀b o,s.heap.get? b=some o->b≠D:=λb o e z=>by rw[z,j]at e;cases e
 have r:∀b v,H b=some v->b≠D:=λb v e z=>by rw[z,f]at e;cases e
 have F:=oE (A:=S) I y h k;refine I.step (g':=s.gens) (d':=s.drawn) (ch:=[]) (λ_ z=>nomatch z) (λb o L _ _ e _=>k b o L e) (λb o L _ _ e _=>⟨o.slots,k b o L e⟩) (λb o _ e n=>(aq (N b o e)).trans n) (λb o _ e=>?_) (λb R e=>(aq (r b _ e)).trans e) (λb o v e=>(aq (r b _ e)).trans e) (λb Z e=>⟨#[],by rw[aq (r b _ e),e];simp⟩) (λM A=>?_) (λb v e=>?_) I.bare
 .by_cases L:b=X.e.locals
  .subst L;obtain⟨Q,_,_,g,_⟩:=h;exact⟨Q,g⟩
  .exact⟨o,k b o L e⟩
 .obtain⟨o,es,T,C,hd,V,p⟩:=y;obtain⟨W,P,K,a,d,E,w⟩:=A;rw[C]at a;cases a;rw[hd]at d;cases d;have:m=M:=funext λx=>(p x).symm.trans (w x);rw[<- this];exact h
 .by_cases l:b=D
  .subst l;rw[aJ]at e;cases e;exact i
  .rw [aq l]at e;exact(F.h b v e).stay (λ_ _ _ q=>q) (λc q=>(aq (r c _ q)).trans q) λc R q=>(aq (r c _ q)).trans q
set_option tactic.hygienic true in
theorem wV:dW X (.builtin "sorted") (λxs H Q=>∃F a P S b,xs=[.ref a]/\(iO X.K H a P\/w5 X.K H a P)/\dt X.K F H S P/\sortable S=true/\oZ S=some b/\∀l z,H l=none->dt X.K F H b z->Q (.ref l) (upd H l (.lst z))):=by
 intro B s G H xs us Q I r h;obtain⟨F,a,P,S,b,rfl,L,M,hs,k,q⟩:=h;obtain⟨u,rfl,rx⟩:=vals1 r;cases rx;obtain⟨m,W⟩:=I.fr;have w:∀(T:String)(hT:T="list"\/T="tuple")(t:LV)(o:Obj)(n:Nat),aZ P t->s.heap.get? a=some o->o.cls=.type T->o.data=.seq t.toArray n->wx X (call (.builtin "sorted") [.ref a]) (EP X B G Q) X.xe s:=by
  intro T hT t o n R E C hd;have hl1:=M.length;have hl2:=iq R;have y:S.length < 64:=by
   unfold oZ at k;split at k
   .lia
   .split at k
    .lia
    .cases k
  have A:∀(z:List V)(j:LV)(D:Addr)(f:Heap)(c:Nat),aZ z j->dt X.K F H b z->j.length≤64->s.heap.get? D=none->Fr X.b X.e.locals f m->News X.b X.e.locals f ((D,seqObj "list" j.toArray c)::lE X.b s.heap X.e.locals)->EP X B G Q (.ref D) { s with heap:=f }:=
   λz j D f c vz rz hz K d N=>⟨.ref D,_,DD (S:=s.toks) I W.ns d.ns (se I.bk d λp hp=>N p (.tail _ hp)) K (show cM X.p X.w _ f _ (.lst z) from ⟨by rw[iq vz,lX];lia,j,c,vz,(N _ (.head _)).1⟩),rfl,q _ z (wg I K) rz⟩
  refine Jh W (xF (g:=X.b)) hT E C hd (by lia) (λfew D f c K d N=>?_) λtwo D e f K ne d N=>?_
  .unfold oZ at k;rw[am (by lia)]at k;cases k;exact A P t D f c R M (by lia) K d N
  .unfold oZ at k;rw[au (by lia),am y]at k;obtain⟨p,ep,k⟩:=Ax.mp k;split at k;case isFalse=>cases k
   rename_i ps;cases k;have I1:Inv X B G H { s with heap:=f }:=oE (A:=s.toks) I W.ns d.ns (se I.bk d λp hp=>N p (.tail _ hp));have ep2:Kb (ng S) (kas_sort t.length)=some p:=by rw[<- hl2,<- hl1];exact ep
   refine aU (JU (s:={ s with heap:=f }) (Gz I1 M R hs) two) (λκ v hv=>?_) λ_ _ x=>x;obtain⟨rfl,Z⟩:=hv;exact G' (a:=p) (Q:=λp u=>BA X.b X.e.locals m D e (p.toList.map λi=>t.getD i Value.none) (λu=>EP X B G Q (.ref D) u) u) Z (PySem.W.KasFin.intro d N (.head ne) λh2 c F2 N2=>A _ _ D h2 c (BW R p.toList) (FA M p.toList) (by rw[bn,mK];lia) K F2 N2) _ ep2
 rcases L with L|L
 .obtain⟨t,r',pl,hz⟩:=I.list L;obtain⟨o,E,C,n,hd⟩:=pl.isList;exact w "list" (.inl rfl) t o n r' E C hd
 .obtain⟨t,r',⟨o,E,C,n,hd⟩,hz⟩:=I.tuple L;exact w "tuple" (.inr rfl) t o n r' E C hd
noncomputable def NL:List D->Option (List P)
 | []=>some []
 | .p v::r=>(NL r).map (v::·)
 | .ref _::_=>none
theorem Fc:∀{d:List D}{T:List P},NL d=some T->d=T.map .p
 | [],T,h=>by cases h;rfl
 | .p v::r,T,h=>by
  cases e:NL r with
  |none=>simp only[NL,e]at h;cases h
  |some w=>simp only[NL,e]at h;cases h;rw[Fc e];rfl
 | .ref _::_,T,h=>by cases h
theorem KS:∀{T:List P}{s:List V},dA K F H m (T.map .p) s->dt K F H T s
 | [],_,h=>h
 |_::_,_,h=>by obtain⟨x,r,e,a,n⟩:=h;exact⟨x,r,e,a,KS n⟩
noncomputable def Jl:P->Option (List P)
 | .lst x=>some x
 | .ro x=>some x
 | .tup x=>some x
 |_=>none
def Jn:D->aB->Option (List P)
 | .p v,_=>Jl v
 | .ref i,S=>match S[i]? with
  |some (.lst d)=>NL d
  |some (.fz v)=>Jl v
  |_=>none
@[simp] def E9(r:EE)(L:Lc)(S:aB):tyV:=bL (r L S) λd h=>match Jn d h with
 |some x=>(nC x).map λv=>(v,h)
 |none=>none
theorem B8(p:RP K F H w v)(h:Jl w=some u):∃a y,v=.ref a/\(iO K H a y\/w5 K H a y)/\dt K F H u y:=by
 cases w with
 |tup d=>obtain⟨a,y,rfl,t,r⟩:=p;cases h;exact⟨a,y,rfl,.inr t.sq,r⟩
 |lst d=>obtain⟨a,y,rfl,t,r⟩:=p;cases h;exact⟨a,y,rfl,.inl t.sq,r⟩
 |ro d=>obtain⟨a,y,rfl,t,r⟩:=p;cases h;exact⟨a,y,rfl,.inl t.sq,r⟩
 |_=>cases h
set_option tactic.hygienic true in
theorem Jm(r:Rel K F H m S)(p:RD K F H m u v)(h:Jn u S=some xs):∃a y,v=.ref a/\(iO K H a y\/w5 K H a y)/\dt K F H xs y:=by
 cases u with
 |p w=>exact B8 p h
 |ref i=>
  obtain⟨a,rfl,x⟩:=p;simp only[Jn]at h;split at h
  .rename_i d es;obtain⟨y,e,s⟩:=r.obj i a _ x es;rw[Fc h]at s;exact⟨a,y,rfl,.inl (iO.of e),KS s⟩
  .rename_i w es;exact B8 (r.obj i a _ x es) h
  .cases h
set_option tactic.hygienic true in
theorem E5(j:Gl X "sorted")(y:X.g "sorted"=none)(i:PE X e (tE X.K q))(n:starEach [e] X.e=[(false,eval e X.e)]:=by rfl):PE X (.Call (.Name "sorted" p) [e] [] N) (tV X.K (E9 q)):=
 (kM wV j y IA (d7 i gM (by rw[n];rfl)) (by decide) (by decide) (by rw[n];rfl) rfl).imp' λG H Q s=>by
  obtain⟨F,m,L,S,d,M,r,l,h,k⟩:=s;obtain⟨x,t,w,h⟩:=ah h;refine⟨F,m,L,S,x,t,r,l,w,λv c P I D f A=>?_⟩;split at h
  .rename_i b g;unfold nC at h;split at h
   .rename_i n;cases o:oZ b with
    |none=>rw[o]at h;cases h
    |some u=>rw[o]at h;cases h;obtain⟨a,E,rfl,K,B⟩:=Jm f A g;exact⟨c,a,E,b,u,rfl,K,B,n,o,λz R s C=>k _ _ P _ (D.trans (cL s).stp) (f.grow (cL s)) (.newLst s C)⟩
   .cases h
  .cases h
end
noncomputable def Ud(K:FG)(e:Bool)(a:Addr):It:=if e=true then KC K a else Rb K a
inductive tIOI(K:FG)(en:Bool)(fe:EE)(σ:L2.St)(H:Hp)(R:It->Hp->Prop):Prop
 |mk (F:Aa) (m:List Addr) (L:Lc) (S:aB) (j:Nat) (S':aB) (ds:List D) (h0_:Rel K F H m S) (h1_:RL K F H m σ L) (h2_:fe L S=some (.ref j,S')) (h3_:S'[j]? = some (.lst ds)) (h4_:∀a F' m' H',Stp F m H F' m' H'->Rel K F' H' m' S'->m'[j]? = some a->R (Ud K en a) H'):tIOI K en fe σ H R
section
variable{X:Cx}{N:Pos}
theorem zJ:dW X (.type "range") (λx H Q=>∃j:Int,x=[.int j]/\∀r,H r=none->Q (.ref r) (upd H r (.rng 0 j))):=by intro B s G H x n Q I r h;obtain⟨j,rfl,q⟩:=h;obtain⟨u,rfl,a⟩:=vals1 r;obtain⟨t,rfl⟩:=a;refine call_range_1 ?_;exact⟨.ref s.heap.objs.size,_,I.laid (o:=.rng 0 j) (λb o e=>bg _ e) (al _) ⟨_,_,_,dD _ rfl⟩,rfl,q _ (I.h.fresh (al _))⟩
theorem t_:∀{s:List l}{e:List β},s.length=e.length->(∀(i:Nat) x y,s[i]? = some x->e[i]? = some y->R x y)->Paired R s e
 | [],[],_,_=>.nil
 | [],_::_,h,_=>by simp at h
 |_::_,[],h,_=>by simp at h
 |x::s,y::e,h,k=>.cons (k 0 x y rfl rfl) (t_ (by simpa using h) λi a b n f=>k (i+1) a b (by simpa using n) (by simpa using f))
theorem zi(h:ItemsOf (λi v=>∃t,v=Value.int (0+i * 1) t) r n):aZ ((List.range n).map λ(i:Nat)=>V.int (i:Int)) r.toList:=by
 obtain⟨z,f⟩:=h;refine t_ (by simp[z]) λi x y a c=>?_;rw[dC]at a;cases e:(List.range n)[i]? with
 |none=>rw[e]at a;cases a
 |some k=>
  rw[e]at a;cases a;have b:k=i:=by have:=bz.mp e;obtain⟨m,s⟩:=this;simpa using s.symm
  subst b;obtain⟨t,rfl⟩:=f k y (by simpa using c);exact⟨t,by simp⟩
theorem yq(a:X.c=true):dW X (.type "list") (λk H Q=>∃r j,k=[.ref r]/\H r=some (.rng 0 j)/\j.natAbs < 1000000/\∀l,H l=none->Q (.ref l) (upd H l (.lst ((List.range j.toNat).map λ(i:Nat)=>V.int (i:Int))))):=by
 intro B s G H k z Q I r h;obtain⟨d,j,rfl,p,y,q⟩:=h;obtain⟨u,rfl,w⟩:=vals1 r;cases w;obtain⟨t,u,v,o⟩:=I.h d _ p;refine call_list_range (n:=j.toNat) (I.o.hd a) o (small_one (by lia) (by lia) (by lia) (by lia)) (by rw[Ed];split<;>lia) (by lia) λf g x c m e b=>?_
 exact⟨.ref s.heap.objs.size,_,I.laid (t':=g) m (al _) (show cM X.p X.w _ f _ (.lst _) from ⟨by rw[bn,List.length_range];exact aF (by lia:j.toNat≤1000000) (by decide),x.toList,c,zi b,by simpa using e⟩),rfl,q _ (I.h.fresh (al _))⟩
@[simp] def OE(a:EV)(L:Lc)(S:aB):tyV:=bL (a L S) λv h=>match v with
 | .int j=>if decide (j.natAbs < 1000000)=true then some (.lst (intsFrom 0 j.toNat),h) else none
 |_=>none
theorem xy:∀s:List Nat,dt K F H (s.map λ(i:Nat)=>P.int (0+(i:Int))) (s.map λ(i:Nat)=>V.int (i:Int))
 | []=>rfl
 |i::s=>⟨_,_,rfl,by show V.int _=V.int _;rw[df],xy s⟩
set_option tactic.hygienic true in
theorem IH(h:X.c=true)(K:Gl X "list")(A:X.g "list"=none)(g:Gl X "range")(s:X.g "range"=none)(y:PE X a (tV X.K C))(t:starEach [a] X.e=[(false,eval a X.e)])
  : PE X (.Call (.Name "list" u) [.Call (.Name "range" p2) [a] [] c2] [] c1) (tV X.K (OE C)):=
 (oo (yq h) K A AT (d7 (oo zJ g s boot_range (d7 y gM (by rw[t];rfl)) (by decide) (by decide) (by rw[t];rfl) rfl) gM rfl) (by decide) (by decide) rfl rfl).imp' λG H Q e=>by
  obtain⟨F,m,L,S,d,I,r,l,q,k⟩:=e;obtain⟨x,w,i,q⟩:=ah q;refine⟨F,m,L,S,x,w,r,l,i,λv f B b E D u=>?_⟩;cases x with
  |int j=>
   dsimp only at q;split at q
   .rename_i o;have P:j.natAbs < 1000000:=be o;cases q;cases (show v=.int j from u);refine⟨j,rfl,λp n=>⟨p,j,rfl,aJ,P,λz e=>?_⟩⟩;have c:Grow f b f (upd b p (.rng 0 j)):=cu n;exact k _ _ B _ (E.trans (c.stp.trans (cL e).stp)) ((D.grow c).grow (cL e)) (.newLst e (xy _))
   .cases q
  |_=>cases q
end
section
variable{X:Cx}{N:Pos}
theorem De{I:Program}{w:World}{A:Around}{E:VP}{s:Shared}{t l:Addr}{i:Array Value}{v u:Value}{lo x:Option Int}{Q:VP}(h:IsTup s.heap t i)(a:s.heap.IsSliceOf l v u .none)(p:IsPart v lo)(b:IsPart u x)
  (k:HT.eW i.size 0 lo=0) (f:HT.eW i.size i.size x=i.size) (q:Q (.ref t) s):wpAny (model I w) A (getItem (.ref t) (.ref l)) Q E s:=by
 have T:s.TypeIs (.ref l) "slice":=by obtain⟨o,e,n,_⟩:=a;exact⟨o,e,n⟩
 unfold getItem;try with_reducible refine db ?_
 first|refine aa (aj ?_)|skip
 refine aa (Ew h.typeIs (by decide) ?_);refine aa (u3 (name:=Str.ofString "__getitem__") h.typeIs jR (qZ jR h.typeIs AO ?_ (AN _ _)));show wpAny _ _ (zY (.ref t) >>= _) _ _ s;refine aa (AJ h (aa (nQ T ?_)));rw[am (by decide)];refine aa (HT.jt a p b ?_);rw[k,f];have y:((((0:Nat):Int) == 0 && (1:Int) == 1 && (i.size-0) == i.size)=true):=by simp
 show wpAny _ _ (if ((((0:Nat):Int) == 0 && (1:Int) == 1 && (i.size-0) == i.size)=true) then _ else _) _ _ s;rw[am y];refine aa (aa (nQ h.typeIs ?_));refine aj ?_;rw[am (by rfl)];first
  |exact aa (aj (aj ⟨_,rfl,aj q⟩))
  |exact aa (uG (aj ⟨_,rfl,aj q⟩))
  |exact aj ⟨_,rfl,aj q⟩
theorem Fs:Le X (λx lo n H Q=>∃a e,x=.ref a/\w5 X.K H a e/\HT.eW e.length 0 lo=0/\HT.eW e.length e.length n=e.length/\Q (.ref a) H):=by
 intro B s G H x v w g lo n d Q I m b p u h;obtain⟨a,e,rfl,c,k,f,q⟩:=h;cases m;obtain⟨i,r,t,_⟩:=I.tuple c;have l:i.toArray.size=e.length:=by rw[a7];exact r.length.symm
 exact⟨"tuple",_,jR.lookup,t.typeIs,De t b p u (by rw[l];exact k) (by rw[l];exact f) ⟨.ref a,H,I,rfl,q⟩⟩
def zB:P->Option Int->Option Int->Option P
 | .tup s,lo,h=>some (.tup (cut s lo h))
 |x,lo,h=>Uw x lo h
@[simp] def eF(a:EV)(lo n:EO)(L:Lc)(S:aB):tyV:=bL (a L S) λx h=>bL (lo L h) λi e=>bL (n L e) λj s=>(zB x i j).map λv=>(v,s)
theorem Rt{e:Expr}{lo A:Option Expr}{C:EV}{P K:EO}{N p2:Pos}(he:PE X e (tV X.K C))(hl:PO X lo (tO X.K P))(hh:PO X A (tO X.K K)):PE X (.Subscript e (.Slice lo A none p2) N) (tV X.K (eF C P K)):=
 (FU (Ji.or (L9.or Fs)) he hl hh).imp' λG H Q hz=>by
  obtain⟨F,m,L,S,d,S',r,l,q,k⟩:=hz;obtain⟨x,z,T,q⟩:=ah q;obtain⟨i,o,V,q⟩:=ah q;obtain⟨j,R,W,q⟩:=ah q;refine⟨F,m,L,S,x,z,r,l,T,λv D m1 H1 g r1 p1=>?_⟩;refine⟨D,m1,L,z,i,o,r1,l.mono g,V,λE m2 H2 y r2=>?_⟩;refine⟨E,m2,L,o,j,R,r2,(l.mono g).mono y,W,λI b M B c=>?_⟩;have u:=RP.mono B (RP.mono y p1);have w:=g.trans (y.trans B);cases x with
  |lst f=>cases q;obtain⟨a,s,rfl,t,n⟩:=u;exact .inl ⟨a,s,rfl,t.sq,λp h=>k _ _ b _ (w.trans (cL h).stp) (c.grow (cL h)) (.newLst h (n.cut i j))⟩
  |ro f=>cases q;obtain⟨a,s,rfl,t,n⟩:=u;exact .inl ⟨a,s,rfl,t.sq,λp h=>k _ _ b _ (w.trans (cL h).stp) (c.grow (cL h)) (.newLst h (n.cut i j))⟩
  |tup f=>
   obtain⟨a,s,rfl,t,n⟩:=u;cases q;by_cases hw:HT.eW s.length 0 i=0/\HT.eW s.length s.length j=s.length
   .have Z:cut f i j=f:=by
     unfold cut;rw[n.length,hw.1,hw.2,mM,Bp,<- n.length,qm]
    rw[Z]at k;exact .inr (.inr ⟨a,s,rfl,t.sq,hw.1,hw.2,k _ I b M w c ⟨a,s,rfl,t,n⟩⟩)
   .exact .inr (.inl ⟨a,s,rfl,t.sq,hw,λp h=>k _ _ b _ (w.trans (cu h).stp) (c.grow (cu h)) (.newTup h (n.cut i j))⟩)
  |_=>cases q
abbrev cv:List P->Option P:=kZ
variable{e:Expr}{es:Ab}{fs:iQ}{p:Pos}
theorem Ls(g:Gl X "int")(m:X.g "int"=none)(a:PA X (e::es) (sW X.K fs))(x:starEach (e::es) X.e=(false,eval e X.e)::starEach es X.e)(h:(backTo N (starEach es X.e)).any (·.1)=false) :
  PE X (.Call (.Name "int" p) (e::es) [] N) (tV X.K (cP cv fs)):=yQ Kq g m AS a (by decide) (by decide) x h
inductive PEs(X:Cx):Ab->List EV->Prop
 |nil:PEs X [] []
 |cons {e es f fs}:PE X e (tV X.K f)->PEs X es fs->PEs X (e::es) (f::fs)
@[simp] def Fa(a b c:EV)(L:Lc)(S:aB):tyV:=bL (a L S) λd h=>bL (b L h) λy x=>bL (c L x) λz e=>match d with
 | .dct s T=>match dj y with
  |some k=>some ((cF k s T).getD z,e)
  |none=>none
 |_=>none
theorem tZ:∀{k:List (cj×V)}{d:List P},dt K F H d (k.map (·.2))->cF u (k.map (·.1)) d=none->gF k u=none
 | [],d,r,h=>rfl
 |(s,v)::k,[],r,h=>by have:=r.length;simp at this
 |(s,v)::k,b::d,r,h=>by
  obtain⟨x,m,e,p,n⟩:=r;rw[aE]at e;injection e with c f;simp only[aE,cF]at h;by_cases a:s=u
  .rw [am a]at h;cases h
  .rw [au a]at h;rw[<- f]at n;rw[gE (p:=(s,v)) a];exact tZ n h
set_option tactic.hygienic true in
theorem Lu(hu:X.A.units+1 < cLine)(ho:PE X o (tV X.K t))(ha:PE X a (tV X.K C))(hb:PE X b (tV X.K z))(m:M2 X o "get" ap a b cp):PE X (.Call (.Attribute o "get" ap) [a,b] [] cp) (tV X.K (Fa t C z)):=
 (F5 hu ho ha hb m).imp' λG H Q hz=>by
  obtain⟨F,m,L,S,d,S',r,l,q,k⟩:=hz;obtain⟨x,B,Z,q⟩:=ah q;obtain⟨y,D,e2,q⟩:=ah q;obtain⟨h,V,e3,q⟩:=ah q;refine⟨F,m,L,S,x,B,r,l,Z,λv R m1 H1 P r1 p1=>?_⟩;cases x with
  |dct ks W=>
   obtain⟨a,s,rfl,j,E,ek,ra⟩:=id p1;refine⟨a,rfl,.inl ⟨s,.inl E⟩,?_⟩;refine⟨R,m1,L,B,y,D,r1,l.mono P,e2,λvy T m2 H2 c r2 p2=>?_⟩;refine⟨T,m2,L,D,h,V,r2,(l.mono P).mono c,e3,λvz A I u p M p3=>?_⟩;have e:u a=some (.dK s):=(c.trans p).frk _ _ j E;have n:=dt.mono p (dt.mono c ra);have py:=RP.mono p p2;dsimp only at q;split at q
   .rename_i K g;cases q;have i:=iA g py;subst i ek;have N:=P.trans (c.trans p);cases f:cF K (s.map (·.1)) W with
    |none=>have hm:=tZ n f;refine⟨none,by rw[<- hm];exact kr.k e,?_⟩;rw[f]at k;exact k vz A I u N M p3
    |some w=>obtain⟨v,h1,h2⟩:=nX n f;refine⟨some v,by rw[<- h1];exact kr.k e,?_⟩;rw[f]at k;exact k v A I u N M h2
   .cases q
  |_=>cases q
def QB(w:World):List DictEntry->List (Str×P)->Prop
 | [],[]=>True
 |e::es,(k,p)::r=>(∃t,e.key=.str k t)/\e.hash=hashStr w k/\(∃v,RelV v e.val/\∀K F H,RP K F H p v)/\QB w es r
 |_,_=>False
def SU(w:World)(K:FG)(m:SV)(x:Str)(k:List (Str×P)):Prop:=
 ∃a o es e,m x=some (.ref a)/\K.lookup a=some o/\o.ExactDict/\o.data=.dict es e/\QB w es.toList k/\(k.map (·.1)).Nodup
end
noncomputable def OL:List cj->List P->Option (List (Str×P))
 | [],[]=>some []
 | .inr k::s,v::T=>(OL s T).map λr=>(k,v)::r
 |_,_=>none
noncomputable def GP:P->Bool
 | .dct _ _=>true
 |_=>false
def nL(w:World)(K:FG)(m:SV)(x:Str)(v:P):Prop:=(GP v=false->zQ K m x v)/\∀s T,v=.dct s T->∃k,OL s T=some k/\SU w K m x k
variable{x:Str}
theorem nL.plain(h:zQ K r x v)(a:GP v=false):nL w K r x v:=⟨λ_=>h,λk T e=>by subst e;cases a⟩
section
variable{X:Cx}
theorem ux:∀{s:List Bool}{u:LV},aZ (s.map V.bl) u->LSm.BoolsAre u s
 | [],u,r=>by obtain rfl:u=[]:=g8 (by simpa using r.length.symm);exact .nil
 |b::s,u,r=>by
  cases r with
  |cons q t=>cases (show _=Value.bool b from q);exact .cons b (ux t)
theorem Hu(c:X.c=true):dW X (.builtin "any") (λa H Q=>∃(p:Addr)(b:List Bool),a=[.ref p]/\iO X.K H p (b.map V.bl)/\Q (.bl (b.any id)) H):=by intro B s G H a v Q I r h;obtain⟨p,b,rfl,e,q⟩:=h;obtain⟨u,rfl,k⟩:=vals1 r;cases k;obtain⟨i,n,l,z⟩:=I.list e;obtain⟨m,F⟩:=I.fr;exact LSm.any_bools F (xF (g:=X.b)) (I.o.hd c) l.isList (ux n) λf t x N=>⟨.bl (b.any id),H,oE I F.ns x.ns (se I.bk x N),rfl,q⟩
noncomputable def CT:List P->Option (List Bool)
 | []=>some []
 | .bl b::r=>(CT r).map (b::·)
 |_=>none
def La:List P->Option P
 | [.lst x]=>(CT x).map λb=>.bl (b.any id)
 |_=>none
theorem CS:∀{a:List P}{s:List Bool}{x:List V},CT a=some s->dt K F H a x->x=s.map V.bl
 | [],s,x,h,r=>by cases h;exact g8 r.length.symm
 | .bl b::a,s,x,h,r=>by simp only[CT]at h;obtain⟨n,e,rfl⟩:=eQ.mp h;obtain⟨y,f,rfl,p,k⟩:=r;cases (show y=.bl b from p);rw[CS e k];rfl
theorem callAny(c:X.c=true):dW X (.builtin "any") (rC X.K La):=by
 intro B s G H w u Q I r h;obtain⟨F,m,d,v,f,q,k⟩:=h;unfold La at q;split at q
 .obtain⟨b,e,rfl⟩:=eQ.mp q;obtain⟨x,rfl,p⟩:=y7 f;obtain⟨a,y,rfl,t,n⟩:=p;exact Hu c B s G H _ u Q I r ⟨a,b,rfl,by rw[<- CS e n];exact t.sq,k _ F H .refl rfl⟩
 .cases q
variable{e:Expr}{es:Ab}{fs:iQ}{p N:Pos}
end
end Ev
namespace Ev
open PySem PySem.Spec PyProof.Rows L2
theorem xX(f:Nat->β->Sem (ForInStep β))(I:Nat->β->Shared->Prop)(Q:β->Shared->Prop)(k:Nat)
  (turn:∀i b s,i < k->I i b s->wpAny M A (f i b) (λr s'=>match r with | .yield b'=>I (i+1) b' s' | .done b'=>Q b' s') E s)
  (fin:∀b s,I k b s->Q b s) (b:β) (h:I 0 b s):wpAny M A (forIn [0:k] b f) Q E s:=by
 rw[Std.Legacy.Range.forIn_eq_forIn_range'];refine wpAny_forIn_list f (λbS b s=>∃i,bS=A2 i (k-i)/\i≤k/\I i b s) Q (λx bS b s ⟨i,e,hi,hI⟩=>?_) (λb s ⟨i,e,hi,hI⟩=>?_) _ b ⟨0,by simp[Std.Legacy.Range.size],ck _,h⟩
 .obtain⟨m,hm⟩:∃m,k-i=m+1:=by
   cases q:k-i with
   |zero=>rw[q]at e;simp at e
   |succ m=>exact⟨m,rfl⟩
  rw[hm,vc]at e;injection e with e1 e2;subst e1;refine aU (turn x b s (by lia) hI) (λr s' hr=>?_) λ_ _ z=>z;cases r with
  |done b'=>exact hr
  |yield b'=>exact⟨x+1,by rw[e2];congr 1;lia,by lia,hr⟩
 .have:k-i=0:=by
   cases q:k-i with
   |zero=>rfl
   |succ m=>rw[q,vc]at e;cases e
  have:i=k:=by lia
  subst this;exact fin b s hI
section
open PySem.SeqAt PySem.MeetsSeq
open PySem.AutoSeq1 (wpAny_loadPart')
set_option tactic.hygienic true in
theorem Dg(l:Addr)(items:Array Value)(n:Nat)(dd:Option Addr)(sl:Array (OV))(x:Value)(e:Value->Bool)(j:Nat)(hj:j < items.size)
  (hit:e items[j]=true) (hno:∀m (hm:m < items.size),m < j->e items[m]=false) :
  Meets (Builtin.«tuple.index» ⟨[.ref l,x],[]⟩)
   (λA R s=>s.heap.get? l=some { cls:=.type "tuple",dict:=dd,data:=.seq items n,slots:=sl }/\(∀y,y ∈ items->EqAt A.in1 s y x (e y))/\R (.ok (.ret (.int j s.toks))) { s with toks:=s.toks+1 }):=
 .of_wp λprog w A R s h=>by
  obtain⟨hp,g,d,tk,os⟩:=s;obtain⟨hl,he,h⟩:=h
  wp_walk using lZ hl,xX _ (λi b s'=>i≤j/\b.1=none/\s'=⟨hp,g,d,tk,os⟩) _
  case turn=>
   rintro i b s' hi ⟨hij,hb,rfl⟩;have hi':i < items.size:=by lia
   rw[A0 hi'];refine aa (he _ (Array.getElem_mem hi') prog w _ _ ?_);by_cases hc:i=j
   .subst hc;rw[hit]
    wp_walk
    exact⟨_,rfl,h⟩
   .rw [hno i hi' (by lia)]
    wp_walk
    exact⟨by lia,rfl,rfl⟩
  case fin=>rintro b s' ⟨hij,_,_⟩;exact absurd hij (by lia)
  case h=>exact⟨ck _,rfl,rfl⟩
end
def mj(ps:List P)(y:P):Option Nat:=if (ps.all (dh 19) && dh 19 y)=true then (m9 ps).findIdx? λz=>cb z (pd y) else none
@[simp] def yS(fa fb:EV)(L:Lc)(S:aB):tyV:=bL (fa L S) λv x=>match v with
 | .lst ps=>bL (fb L x) λy h=>(mj ps y).map λ(i:Nat)=>(.int (i:Int),h)
 | .tup ps=>bL (fb L x) λy h=>(mj ps y).map λ(i:Nat)=>(.int (i:Int),h)
 |_=>none
section
variable{X:Cx}{pins:PN}{σ:L2.St}{H:Hp}{s:Shared}{F:Aa}{ps:List P}{y:P}{vy:V}{u:Value}{i:Nat}{Q:VK}{a:Addr}
theorem v9:∀qs:List P,(m9 qs).length=qs.length
 | []=>rfl
 |q::qs=>by simp[m9,v9 qs]
set_option tactic.hygienic true in
theorem GV(o:X.A.units+64 < cLine)(I:Inv X pins σ H s)(d:RP X.K F H y vy)(g:RelV vy u)(e:mj ps y=some i){v:Array Value}{f:List Addr}(k:ReadsAll s.heap v.toList (m9 ps) f) :
  ∃t:i < v.size,cb (mG s.heap v[i]) (pd y)=true/\(∀m (x:m < v.size),m < i->cb (mG s.heap v[m]) (pd y)=false)/\v.size=ps.length /\
   ∀z,z ∈ v->SeqAt.EqAt X.A.in1 s z u (cb (mG s.heap z) (pd y)):=by
 unfold mj at e;split at e;case isFalse=>cases e
 rename_i c;rw[az]at c;obtain⟨j,w⟩:=jv I 19 d g c.2;have l:=PB c.1;have q:=gy 19 _ c.2;obtain⟨t,b,r⟩:=Bk.mp e;have n:=SeqAt.readsAll_map _ _ _ l.1 k;have h:v.size=(m9 ps).length:=by rw[<- n];simp
 have a:∀(m:Nat)(x:m < v.size),mG s.heap v[m]=(m9 ps)[m]'(h ▸ x):=λm x=>by
  have:(v.toList.map (mG s.heap))[m]? = (m9 ps)[m]?:=by rw[n]
  rw[dC,Array.getElem?_toList,A0 x,bI (h ▸ x)]at this;simpa using this
 refine⟨by lia,?_,λm x p=>?_,by rw[h,v9],SeqAt.items_eqAt k w l.1 q.1 (by lia)⟩
 .rw [a];exact b
 .rw [a];simpa using r m p
set_option tactic.hygienic true in
theorem GU(e:mj ps y=some i):ps.all (dh 19)=true:=by
 unfold mj at e;split at e
 .rename_i h;rw[az]at h;exact h.1
 .cases e
theorem zI(P:X.A.units+64 < cLine)(I:Inv X pins σ H s)(p:RP X.K F H (.lst ps) (.ref a))(D:RP X.K F H y vy)(G:RelV vy u)(e:mj ps y=some i)(q:Q (.int i) H) :
  wx X (call (.builtin "list.index") [.ref a,u]) (EP X pins σ Q) X.xe s:=by
 have S:=GU e;obtain⟨N,b⟩:=jv I 20 p (show RelV (.ref a) (.ref a) from rfl) (by simpa[dh] using S);rw[pd]at b;cases b with
 | @list l o L n _ c x k f w=>
  obtain⟨j,t,v,V,d⟩:=GV P I D G e w;obtain⟨oc,B,C,h⟩:=o;dsimp only at k f;subst k f;have T:ps.length≤sizeLine:=by obtain⟨M,xs,m,K,E⟩:=p;cases m;obtain⟨z,A,Z,r,R,_⟩:=I.lstM K.2;have W:=E.length;lia
  have g:sizeLine < 2 ^ 63:=by decide
  exact i' Am ⟨_,x,rfl⟩ PySem.F.entry_list_index (PySem.F.args_list_index_2 _ _) (SeqAt.list_indexAt a L n B h u _ i j (by lia) t v) ⟨x,d,⟨.int i,H,I.tok _,⟨_,rfl⟩,q⟩⟩
theorem yk(hu:X.A.units+64 < cLine)(I:Inv X pins σ H s)(px:RP X.K F H (.tup ps) (.ref a))(py:RP X.K F H y vy)(ru:RelV vy u)(e:mj ps y=some i)(q:Q (.int i) H) :
  wx X (call (.builtin "tuple.index") [.ref a,u]) (EP X pins σ Q) X.xe s:=by
 have ho:=GU e;obtain⟨as,ra⟩:=jv I 20 px (show RelV (.ref a) (.ref a) from rfl) (by simpa[dh] using ho);rw[pd]at ra;cases ra with
 | @tuple l o vs n _ as' h1 h2 h3 h4=>obtain⟨hi,e1,e2,hz,eq⟩:=GV hu I py ru e h4;obtain⟨oc,od,odt,osl⟩:=o;dsimp only at h2 h3;subst h2 h3;exact i' Aq ⟨_,h1,rfl⟩ PySem.F.entry_tuple_index (PySem.F.args_tuple_index_2 _ _) (Dg a vs n od osl u _ i hi e1 e2) ⟨h1,eq,⟨.int i,H,I.tok _,⟨_,rfl⟩,q⟩⟩
theorem Lw(hu:X.A.units+64 < cLine)(ho:PE X o (tV X.K fo))(he:PE X e (tV X.K fe))(hs:starEach [e] X.e=[(false,eval e X.e)])
  (w:attributeBase o "index" X.e (eval o X.e)=eval o X.e) (j:(M.endLine == g.line)=true):PE X (.Call (.Attribute o "index" M) [e] [] g) (tV X.K (yS fo fe)):=by
 intro pins s σ H Q I ⟨F,m,L,S,d,S',r,l,q,k⟩;obtain⟨x,Z,e1,q⟩:=ah q;refine EG w (by rw[hs];rfl) j rfl (du (ho pins s σ H (λv c=>∃f K,Stp F m H f K c/\Rel X.K f c K Z/\RP X.K f c x v) I ⟨F,m,L,S,x,Z,r,l,e1,λv f K c s1 r1 B=>⟨f,K,s1,r1,B⟩⟩) λu s1 hz=>?_);obtain⟨v,c,I1,ru,f,K,T,r1,B⟩:=hz;have t:∀(id:String)(ps:List P),bL (fe L Z) (λy S2=>(mj ps y).map λ(i:Nat)=>((.int (i:Int):P),S2))=some (d,S') ->
   (∀(s:Shared)(h:Hp)(n:Aa)(y:P)(vy:V)(C:Value)(i:Nat),Inv X pins σ h s->(∀p,RP X.K f c p v->RP X.K n h p v)->RP X.K n h y vy->RelV vy C->mj ps y=some i->Q (.int i) h->wx X (call (.builtin id) [u,C]) (EP X pins σ Q) X.xe s) ->
   wx X (callWith g (.builtin id) [u] (backTo g (starEach [e] X.e)) []) (EP X pins σ Q) X.xe s1:=by
  intro id ps q hc;obtain⟨y,S2,e2,q⟩:=ah q;obtain⟨i,E,q⟩:=eQ.mp q;cases q;rw[hs];refine mI rfl (ll (fB (du (he pins s1 σ c (λvy h=>∃n A,Stp f K c n A h/\Rel X.K n h A S'/\RP X.K n h y vy) I1 ⟨f,K,L,Z,y,S',r1,l.mono T,e2,λv n A h s2 r2 G=>⟨n,A,s2,r2,G⟩⟩) λC s2 ⟨vy,h,D,ruy,n,A,W,r2,G⟩=>iT ?_)));exact hc s2 h n y vy C i D (λp R=>RP.mono W R) G ruy E (k _ n A h (T.trans W) r2 rfl)
 cases x with
 |lst ps=>obtain⟨a,xs,rfl,hq,rp⟩:=id B;cases (show u=Value.ref a from ru);obtain⟨z,its,n',rr,hl,N⟩:=I1.lstM hq.2;exact⟨"list","list.index",pW,Am,PySem.F.type_list_index,⟨_,N,rfl⟩,λb eb=>by cases eb;exact⟨_,N,rfl⟩,t _ ps q λs h n y vy C i D R py ry E q=>zI hu D (R _ B) py ry E q⟩
 |tup ps=>obtain⟨a,xs,rfl,hq,rp⟩:=id B;cases (show u=Value.ref a from ru);obtain⟨its,rr,o,N,⟨ec,n',ed⟩,en⟩:=I1.tupleN hq.sq;exact⟨"tuple","tuple.index",PySem.F.plainAttrs_tuple,Aq,PySem.F.type_tuple_index,⟨_,N,ec⟩,λb eb=>by cases eb;exact⟨_,N,en⟩,t _ ps q λs h n y vy C i D R py ry E q=>yk hu D (R _ B) py ry E q⟩
 |_=>cases q
end
variable{L:Type}
noncomputable def cR[DecidableEq L](k:L):List L->List D->Option D
 |h::s,v::x=>if h=k then some v else cR k s x
 |_,_=>none
noncomputable def dS[DecidableEq L](k:L)(v:D):List L->List D->List L×List D
 |h::s,w::x=>if h=k then (h::s,v::x) else (h::(dS k v s x).1,w::(dS k v s x).2)
 |_,_=>([k],[v])
def dM:List P->Option (List cj)
 | []=>some []
 |p::r=>(dj p).bind λk=>(dM r).map λs=>k::s
noncomputable def l_(d:D)(S:aB):Option (Nat×List (List cj)×List D):=match d with
 | .ref i=>match S[i]? with
  |some (.dtt k v)=>some (i,k,v)
  |_=>none
 |_=>none
set_option tactic.hygienic true in
theorem qN(h:l_ d S=some (i,k,n)):d=.ref i/\S[i]? = some (.dtt k n):=by
 unfold l_ at h;split at h
 .split at h
  .rename_i e;cases h;exact⟨rfl,e⟩
  .cases h
 .cases h
section
variable{K:FG}{F:Aa}{H:Hp}{m:List Addr}
theorem jx:∀{ps:List P}{s:List cj}{a:List V},dM ps=some s->dt K F H ps a->a=s.map kV
 | [],s,a,h,r=>by cases h;exact r
 |p::ps,s,a,h,r=>by
  obtain⟨x,m,rfl,b,c⟩:=r;unfold dM at h;cases e:dj p with
  |none=>rw[e]at h;cases h
  |some k=>
   rw[e]at h;cases n:dM ps with
   |none=>rw[n]at h;cases h
   |some f=>rw[n]at h;cases h;rw[aE,iA e b,jx n c]
theorem j1[DecidableEq L]:∀{C:List (L×V)}{s:List D},dA K F H m s (C.map (·.2)) ->
  match cR k (C.map (·.1)) s with|some d=>∃v,gF C k=some v/\RD K F H m d v|none=>gF C k=none
 | [],s,r=>by have:s=[]:=g8 r.length;subst this;rfl
 |(a,v)::C,[],r=>by have:=r.length;simp at this
 |(a,v)::C,d::s,r=>by
  obtain⟨x,c,e,p,n⟩:=r;rw[aE]at e;injection e with f b;rw[<- b]at n;simp only[aE,cR];by_cases h:a=k
  .rw [am h];exact⟨v,im (p:=(a,v)) h,by rw[show v=x from f];exact p⟩
  .rw [au h,gE (p:=(a,v)) h];exact j1 n
theorem og[DecidableEq L](b:RD K F H m y u):∀{C:List (L×V)}{s:List D},(C.map (·.1)).Nodup->dA K F H m s (C.map (·.2)) ->
  (L2.putK C k u).map (·.1)=(dS k y (C.map (·.1)) s).1/\dA K F H m (dS k y (C.map (·.1)) s).2 ((L2.putK C k u).map (·.2))
 | [],s,_,r=>by have:s=[]:=g8 r.length;subst this;exact⟨rfl,u,[],rfl,b,rfl⟩
 |(h,w)::C,[],_,r=>by have:=r.length;simp at this
 |(h,w)::C,d::s,g,r=>by
  obtain⟨x,E,e,B,G⟩:=r;rw[aE]at e g;injection e with i j;subst i;subst j;obtain⟨t,p⟩:=cz.mp g;simp only[aE,dS];by_cases a:h=k
  .subst a;rw[am rfl];have same:∀l:List (L×V),h ∉ l.map (·.1)->l.map (λv=>if v.1=h then (v.1,u) else v)=l:=by
    intro l;induction l with
    |nil=>intro _;rfl
    |cons q l A=>
     intro f;rw[aE]at f;have o:¬q.1=h:=λz=>f (by rw[<- z];exact aH)
     rw[aE,au o,A λz=>f (aI _ z)]
   have n:L2.putK ((h,w)::C) h u=(h,u)::C:=by unfold L2.putK;rw[am (by simp),aE,am rfl,same C t]
   rw[n];exact⟨rfl,u,_,rfl,b,G⟩
  .rw [au a];obtain⟨S,P⟩:=og (k:=k) b p G;have n:L2.putK ((h,w)::C) k u=(h,w)::L2.putK C k u:=by
    unfold L2.putK;rw[gf,cT (show ¬(h,w).1=k from a),uY];by_cases c:(C.any λv=>decide (v.1=k))=true
    .rw [am c,am c,aE,au (show ¬(h,w).1=k from a)]
    .rw [au c,au c];rfl
   rw[n,aE,aE,S];exact⟨rfl,w,_,rfl,B,P⟩
end
section
variable{X:Cx}{pos G:Pos}{o T:Expr}{c:Ab}{fo:EE}{fs:iQ}{fv:EV}
@[simp] def zv(_L:Lc)(S:aB):xb:=some (.ref S.length,S++[.dtt [] []])
theorem Lz:PE X (.Dict [] [] pos) (tE X.K zv):=FZ.imp' λσ H Q z=>by obtain⟨F,m,L,S,d,x,r,l,q,k⟩:=z;cases q;intro p h;refine k (.ref p) F (m++[p]) _ (fJ h) (r.own h ⟨[],aJ,rfl,rfl⟩) ⟨p,rfl,?_⟩;rw[<- r.len,cB (al _)];simp
@[simp] def x8(o:EE)(k:iQ)(L:Lc)(S:aB):xb:=bL (o L S) λd x=>bL (k L x) λps h=>match l_ d h,dM ps with
 |some (_,s,v),some B=>if few ps=true then (cR B s v).map λz=>(z,h) else none
 |_,_=>none
theorem JV(c:X.A.units+1 < cLine):HI X (λx y H Q=>∃a v,x=.ref a/\kr H a y (some v)/\(∃C,H a=some (.dT C))/\Q v H):=by intro T l pins s σ H x y v u Q I m t h b;obtain⟨a,w,rfl,g,⟨C,f⟩,q⟩:=h;cases m;obtain⟨_,_,_,_,o,_,_,e,k,_⟩:=I.h a _ f;exact p_ ⟨o,e,k.1⟩ Eo.lookup (ur c I g t λd p n r=>⟨w,H,n,r,q⟩) b
set_option tactic.hygienic true in
theorem Rz {N} (hu:X.A.units+1 < cLine) (ho:PE X o (tE X.K fo)) (hk:PA X c (sW X.K fs)) (hs:nK (.Tuple c N G)):PE X (.Subscript o (.Tuple c N G) pos) (tE X.K (x8 fo fs)):=
 (FX (JV hu) ho (rV hk) hs).imp' λσ H Q hz=>by
  obtain⟨F,m,L,S,d,S',r,l,q,k⟩:=hz;obtain⟨x,K,W,q⟩:=ah q;obtain⟨ps,P,Z,q⟩:=ah q;refine⟨F,m,L,S,x,K,r,l,W,λv T m1 H1 I r1 p1=>?_⟩;refine⟨T,m1,L,K,ps,P,r1,l.mono I,Z,λR y m2 V M E G=>?_⟩;cases s:l_ x P with
  |none=>rw[s]at q;cases q
  |some t=>
   obtain⟨j,ks,vs⟩:=t;rw[s]at q;cases h:dM ps with
   |none=>rw[h]at q;cases q
   |some B=>
    rw[h]at q;dsimp only at q;split at q
    .rename_i hf;obtain⟨z,eg,q⟩:=eQ.mp q;cases q;obtain⟨rfl,n⟩:=qN s;obtain⟨a,rfl,hm⟩:=RD.mono M p1;obtain⟨C,f,u,rs⟩:=E.obj j a _ hm n;subst u;have A:=j1 (k:=B) rs;rw[eg]at A;obtain⟨w,ev,i⟩:=A;refine⟨by rw[<- G.length];exact kW hf,λb D=>?_⟩;have p:a≠b:=λz=>by rw[z,D]at f;cases f
     have e:upd V b (.tup R) a=some (.dT C):=by rw[aq p];exact f
     have g:=cu (F:=y) (o:=.tup R) D;rw[jx h G]at e g ⊢;refine⟨a,w,rfl,by rw[<- ev];exact kr.t e aJ,⟨C,e⟩,?_⟩;exact k w y m2 _ (I.trans (M.trans g.stp)) (E.grow g) (RD.mono g.stp i)
    .cases q
@[simp] def um(o:EE)(k:iQ)(L:Lc)(S:aB):xb:=bL (o L S) λd h=>match l_ d h with
 |none=>none
 |some _=>bL (k L h) λps x=>match l_ d x,dM ps with
  |some (_,s,v),some B=>if few ps=true then some ((cR B s v).getD (.p .non),x) else none
  |_,_=>none
set_option tactic.hygienic true in
theorem Ou {N} (hu:X.A.units+1 < cLine) (ho:PE X o (tE X.K fo)) (hk:PA X c (sW X.K fs)) (I:M1 X o "get" ap (.Tuple c N G) cp) :
  PE X (.Call (.Attribute o "get" ap) [.Tuple c N G] [] cp) (tE X.K (um fo fs)):=
 (F6 hu ho (rV hk) I).imp' λσ H Q hz=>by
  obtain⟨F,m,L,S,d,S',r,l,q,k⟩:=hz;obtain⟨x,p,e1,q⟩:=ah q;refine⟨F,m,L,S,x,p,r,l,e1,λv F1 m1 H1 V r1 p1=>?_⟩;cases e:l_ x p with
  |none=>rw[e]at q;cases q
  |some t1=>
   obtain⟨j,ks1,vs1⟩:=t1;rw[e]at q;dsimp only at q;obtain⟨ps,Z,e2,q⟩:=ah q;obtain⟨rfl,y⟩:=qN e;obtain⟨a,rfl,hm⟩:=id p1;obtain⟨s,A,_,_⟩:=r1.obj j a _ hm y;refine⟨a,rfl,.inr ⟨s,.inl A⟩,?_⟩;refine⟨F1,m1,L,p,ps,Z,r1,l.mono V,e2,λus f m2 H2 W R G=>?_⟩;cases i:l_ (.ref j) Z with
   |none=>rw[i]at q;cases q
   |some t=>
    obtain⟨j2,ks,vs⟩:=t;rw[i]at q;cases u:dM ps with
    |none=>rw[u]at q;cases q
    |some B=>
     rw[u]at q;dsimp only at q;split at q
     .rename_i hf;cases q;obtain⟨h,K⟩:=qN i;cases h;obtain⟨a',e4,M⟩:=RD.mono W p1;cases e4;obtain⟨C,P,E,rs⟩:=R.obj j a _ M K;subst E;have n:=j1 (k:=B) rs;refine⟨by rw[<- G.length];exact kW hf,λb hb=>?_⟩;have D:a≠b:=λz=>by rw[z,hb]at P;cases P
      have h:upd H2 b (.tup us) a=some (.dT C):=by rw[aq D];exact P
      have g:=cu (F:=f) (o:=.tup us) hb;rw[jx u G]at h g ⊢;refine⟨gF C B,kr.t h aJ,?_⟩;cases eg:cR B (C.map (·.1)) vs with
      |none=>rw[eg]at n k;rw[show gF C B=none from n];exact k .non f m2 _ (V.trans (W.trans g.stp)) (R.grow g) rfl
      |some z=>rw[eg]at n k;obtain⟨w,ev,T⟩:=n;rw[ev];exact k w f m2 _ (V.trans (W.trans g.stp)) (R.grow g) (RD.mono g.stp T)
     .cases q
@[simp] def Fx(o:EE)(k:iQ)(v:EV)(L:Lc)(S:aB):Fd:=bL (v L S) λy a=>bL (o L a) λd e=>bL (k L e) λps h=>match l_ d h,dM ps with
 |some (i,s,x),some B=>if (s.Nodup/\few s=true/\few ps=true) then some (.nx,L,h.set i (.dtt (dS B (.p y) s x).1 (dS B (.p y) s x).2)) else none
 |_,_=>none
set_option tactic.hygienic true in
theorem N9 {N} (hu:X.A.units+1 < cLine) (ho:PE X o (tE X.K fo)) (g:PA X c (sW X.K fs)) (hv:PE X T (tV X.K fv)) (hs:swapsWith T (some (.Subscript o (.Tuple c N G) h)) pos.line X.e=pure false) :
  PS X (.Assign [.Subscript o (.Tuple c N G) h] T pos) (jJ X.K (Fx fo fs fv)):=(Cc hu ho (rV g) hv hs).imp' λD σ H hz=>by
 obtain⟨F,m,L,S,fl,L',S',r,l,q,k⟩:=hz;obtain⟨y,E,e1,q⟩:=ah q;obtain⟨d,I,e2,q⟩:=ah q;obtain⟨ps,M,e3,q⟩:=ah q;refine⟨F,m,L,S,y,E,r,l,e1,λv P W H1 s r1 p1=>?_⟩;refine⟨P,W,L,E,d,I,r1,l.mono s,e2,λx F2 m2 H2 e r2 G=>?_⟩;refine⟨F2,m2,L,I,ps,M,r2,(l.mono s).mono e,e3,λus A Z H3 n r3 p3=>?_⟩;cases w:l_ d M with
 |none=>rw[w]at q;cases q
 |some t=>
  obtain⟨j,ks,vs⟩:=t;rw[w]at q;cases p:dM ps with
  |none=>rw[p]at q;cases q
  |some B=>
   rw[p]at q;dsimp only at q;split at q
   .rename_i u;cases q;obtain⟨rfl,c⟩:=qN w;refine⟨by rw[<- p3.length];exact kW u.2.2,λb hb=>?_⟩;have Q:=cu (F:=A) (o:=.tup us) hb;have K:=r3.grow Q;have f:=Q.stp (m:=Z);obtain⟨a,rfl,i⟩:=RD.mono f (RD.mono n G);obtain⟨C,V,g,rs⟩:=K.obj j a _ i c;subst g;have pv:=RD.mono f (RD.mono n (RD.mono e (show RD X.K P H1 W (.p y) v from p1)));obtain⟨h1,h2⟩:=og (k:=B) pv u.1 rs;have nt:∀zs,upd H3 b (.tup us) a≠some (.tup zs):=λzs z=>by rw[V]at z;cases z
    have st:=gw (o:=.dT (L2.putK C B v)) K i c trivial nt;have hl:C.length < sizeLine:=by have R:(C.map (·.1)).length≤1000000:=be u.2.1;rw[bn]at R;exact jX R (by decide)
    refine⟨a,_,rfl,yw.t (k:=B) V ?_ hl,?_⟩
    .rw [jx p p3];exact aJ
    .exact k σ A Z _ (s.trans (e.trans (n.trans (f.trans st)))) (K.set i c trivial nt ⟨_,aJ,h1,dA.mono st h2⟩) ((((l.mono s).mono e).mono n).mono (f.trans st))
   .cases q
end
section
variable{X:Cx}{pins:PN}{σ:L2.St}{H:Hp}{s:Shared}{a:Addr}{C:List (cj×V)}{B:cj}{u r:Value}{x:V}{A:Around}{E:VP}
theorem Hl(I:Inv X pins σ H s)(e:H a=some (.dK C))(K:C.length < sizeLine)(S:RelV (kV B) u)(o:RelV x r)
  (t:∀v w n,gF C B=some v->RelV v w->Inv X pins σ H n->Q w n) (p:gF C B=none->∀n,Inv X pins σ (upd H a (.dK (L2.putK C B x))) n->Q r n) :
  wpAny (model X.p X.w) A (call (.builtin "dict.setdefault") [.ref a,u,r]) Q E s:=by
 obtain⟨z,hd,F,l,k⟩:=K' I.h e;have h:=l.val B;refine qX Au k.typeIs PySem.F.entry_dict_setdefault (PySem.F.args_dict_setdefault_3 _ _ _) (kt_meets_setdefault (cq X.p X.w) a (o8 S) hd r)
  ⟨F,k,by rw[<- l.length];exact z,λv f=>?_,λc m d j=>?_⟩
 .cases q:gF C B with
  |none=>rw[q,f]at h;cases h
  |some b=>rw[q,f]at h;exact t b v _ q h (I.tok _)
 .have q:gF C B=none:=by
   cases q:gF C B with
   |none=>rfl
   |some b=>rw[q,c]at h;cases h
  refine p q _ ?_;have g:∃q,m.get? a=some q:=let ⟨q,_,_,i,_⟩:=d;⟨q,i⟩
  have y:(L2.putK C B x).length≤sizeLine:=by have:=kP C B x;lia
  exact wD I (by rw[e];exact True.intro) j g (Hi y hd (l.put B o) d)
end
section
variable{X:Cx}{o e f:Expr}{ap cp:Pos}{fo fd:EE}{fk:EV}
@[simp] def nw(o:EE)(k:EV)(d:EE)(L:Lc)(S:aB):xb:=bL (o L S) λx a=>match m_ x a with
 |none=>none
 |some _=>bL (k L a) λz e=>bL (d L e) λy h=>match m_ x h,dj z with
  |some (i,s,v),some B=>if (s.Nodup/\few s=true) then match cR B s v with
    |some w=>some (w,h)
    |none=>some (y,h.set i (.dct (dS B y s v).1 (dS B y s v).2))
   else none
  |_,_=>none
set_option tactic.hygienic true in
theorem IJ(ho:PE X o (tE X.K fo))(he:PE X e (tV X.K fk))(hf:PE X f (tE X.K fd))(n:M2 X o "setdefault" ap e f cp):PE X (.Call (.Attribute o "setdefault" ap) [e,f] [] cp) (tE X.K (nw fo fk fd)):=by
 intro pins s σ H Q I ⟨F,m,L,S,d,S',r,l,q,k⟩;obtain⟨x,S1,e1,q⟩:=ah q;refine yN n.base n.few n.line uQ Au PySem.F.type_dict_setdefault
  (du (ho pins s σ H (λv P=>∃b i,Stp F m H b i P/\Rel X.K b P i S1/\RD X.K b P i x v) I ⟨F,m,L,S,x,S1,r,l,e1,λv b i P s1 r1 p1=>⟨b,i,s1,r1,p1⟩⟩) λu s1 ⟨v,P,I1,ru,b,i,R,r1,p1⟩=>?_)
 cases D:m_ x S1 with
 |none=>rw[D]at q;cases q
 |some t1=>
  obtain⟨j,ks1,vs1⟩:=t1;rw [D] at q;dsimp only at q;obtain⟨z,S2,e2,q⟩:=ah q;obtain⟨y,S3,e3,q⟩:=ah q;obtain⟨rfl,es1⟩:=v_ D;obtain⟨a,rfl,hm⟩:=id p1;obtain⟨kvs1,hH1,_,_⟩:=r1.obj j a _ hm es1;cases (show u=Value.ref a from ru);obtain⟨t1,t2,_⟩:=zm I1 (.inl ⟨kvs1,.inl hH1⟩);refine⟨t1,t2,?_⟩;rw [n.trees];refine mI rfl (ll (fB (du (he pins s1 σ P (fun vz A=>∃c N,Stp b i P c N A/\Rel X.K c A N S2/\RP X.K c A z vz) I1 ⟨b,i,L,S1,z,S2,r1,l.mono R,e2,fun v c N A s2 r2 G=>⟨c,N,s2,r2,G⟩⟩) fun uz s2 ⟨vz,A,I2,rz,c,N,T,r2,G⟩=>
   fB (du (hf pins s2 σ A (λvy g=>∃p K,Stp c N A p K g/\Rel X.K p g K S3/\RD X.K p g K y vy) I2 ⟨c,N,L,S2,y,S3,r2,(l.mono R).mono T,e3,λv p K g s3 W p3=>⟨p,K,s3,W,p3⟩⟩) λuy s3 ⟨vy,g,I3,ry,p,K,xt,W,p3⟩=>iT ?_))))
  cases eo:m_ (.ref j) S3 with
  |none=>rw[eo]at q;cases q
  |some t=>
   obtain⟨j2,ks,vs⟩:=t;rw[eo]at q;cases ek:dj z with
   |none=>rw[ek]at q;cases q
   |some B=>
    rw[ek]at q;dsimp only at q;split at q
    .rename_i hc;obtain⟨e4,E⟩:=v_ eo;cases e4;obtain⟨a',e5,M⟩:=RD.mono (T.trans xt) p1;cases e5;obtain⟨C,hH,hk,rs⟩:=W.obj j a _ M E;subst hk;have V:=j1 (k:=B) rs;have pz:=RP.mono xt G;have ez:=iA ek pz;subst ez;have hl:C.length < sizeLine:=by
      have h9:(C.map (·.1)).length≤1000000:=be hc.2;rw[bn]at h9;exact jX h9 (by decide)
     have stA:=R.trans (T.trans xt);refine Hl I3 hH hl rz ry (λv w s' ev rv I'=>?_) λev s' I'=>?_
     .cases Z:cR B (C.map (·.1)) vs with
      |none=>rw[Z]at V;rw[show gF C B=none from V]at ev;cases ev
      |some w'=>rw[Z]at V q;dsimp only at q;cases q;obtain⟨v',h,rd⟩:=V;rw[ev]at h;cases h;exact⟨v,g,I',rv,k v p K g stA W rd⟩
     .cases Z:cR B (C.map (·.1)) vs with
      |some w'=>rw[Z]at V;obtain⟨v',h,_⟩:=V;rw[ev]at h;cases h
      |none=>
       rw[Z]at q;dsimp only at q;cases q;obtain⟨h1,h2⟩:=og (k:=B) p3 hc.1 rs;have nt:∀zs,g a≠some (.tup zs):=λzs z=>by rw[hH]at z;cases z
       have st:=gw (o:=.dK (L2.putK C B vy)) W M E trivial nt;exact⟨vy,_,I',ry,k vy p K _ (stA.trans st) (W.set M E trivial nt ⟨_,aJ,h1,dA.mono st h2⟩) (RD.mono st p3)⟩
    .cases q
end
end Ev
namespace PySem
open PySem PyProof.Rows
section
variable{prog:Program}{w:World}{A:Around}{E:VP}{s:Shared}
theorem xq(t:s.heap.IsTupleIter k h i)(f:s.heap.IsTuple h n)(b:n[i]? = some x)
  (e:∀a,a.IsTupleIter k h (i+1)->gK k s.heap a->Q x { s with heap:=a }):wpAny (model prog w) A (iR (.ref k)) Q E s:=by
 have T:=t.typeIs;obtain⟨⟨q,v,m,r⟩,o,c,hd⟩:=id t;obtain⟨u,l,_,p,d⟩:=f;dsimp only at c hd;subst c hd;unfold iR;apply aa;apply u3 (name:=Str.ofString "__next__") T F.slot_tuple_iterator_next;refine qZ F.slot_tuple_iterator_next T F.entry_tuple_iterator_next ?_ (F.args_tuple_iterator_next_1 _);repeat first|with_reducible refine aa (c_ o rfl (x:=.ref h) rfl ?_)|wp_step
 rw[d];apply aj;simp only[uL,b];apply aa;apply yI o rfl (by simp);refine aj ⟨x,rfl,aj (e _ ⟨_,jM _ o rfl,rfl,?_⟩ (pN ..))⟩;simp[fA,rawInt]
def gJ(h:Heap)(z TI TO:Addr)(f x:Value):Prop:=h.get? z=some { cls:=.type "zip",data:=.fields #[f,x,.bool false,.ref TI,.ref TO] }
def fm(h:Heap)(T:Addr)(a b:Value):Prop:=h.get? T=some { cls:=.type "tuple",data:=.seq #[a,b] }
theorem EN (l y:Addr) (xs ys:Array Value):Meets (Builtin.«zip.__new__» ⟨[.type "zip",.ref l,.ref y],[]⟩) (fun _ R s=>s.heap.IsList l xs/\s.heap.IsTuple y ys /\
  ∀v S F TI TO z,(∀b o,s.heap.get? b=some o->v.get? b=some o)->s.heap.objs.size≤S->S < F->F < TI->TI < TO->TO < z->v.IsListIter S l 0->v.IsTupleIter F y 0->fm v TI (.ref S) (.ref F)->fm v TO .none .none ->
   gJ v z TI TO .none (.bool false)->R (.ok (.ret (.ref z))) { s with heap:=v }):=
 .of_wp λprog w A R s h=>by
  obtain⟨i,g,d,Z,os⟩:=s;obtain⟨B,C,h⟩:=h;have X:=sub_zip;have L:Heap.IsList (Shared.heap ⟨i,g,d,Z,os⟩) l xs:=B;have P:Heap.IsTuple (Shared.heap ⟨i.push { cls:=.type "list_iterator",data:=.fields #[.ref l,.int 0 0] },g,d,Z,os⟩) y ys:=C.push _
  wp_walk using Eu L,wpAny_pyIter_tuple P
  have j:∀(u n x a f c:Heap)(r t p q m:Obj),n=u.push r->x=n.push t->a=x.push p->f=a.push q->c=f.push m->r.isFreed=false->t.isFreed=false->p.isFreed=false->q.isFreed=false->m.isFreed=false ->
    (∀b o,u.get? b=some o->c.get? b=some o)/\u.objs.size < n.objs.size/\n.objs.size < x.objs.size/\x.objs.size < a.objs.size/\a.objs.size < f.objs.size /\
    c.get? u.objs.size=some r/\c.get? n.objs.size=some t/\c.get? x.objs.size=some p/\c.get? a.objs.size=some q/\c.get? f.objs.size=some m:=by
   intro u n x a f c r t p q m E G I M N f1 f2 f3 f4 f5;have Q:n.get? u.objs.size=some r:=by rw[E];exact dD _ f1
   have T:x.get? n.objs.size=some t:=by rw[G];exact dD _ f2
   have V:a.get? x.objs.size=some p:=by rw[I];exact dD _ f3
   have W:f.get? a.objs.size=some q:=by rw[M];exact dD _ f4
   have g5:c.get? f.objs.size=some m:=by rw[N];exact dD _ f5
   have u2:∀b o,n.get? b=some o->x.get? b=some o:=λb o e=>by rw[G];exact bg _ e
   have D:∀b o,x.get? b=some o->a.get? b=some o:=λb o e=>by rw[I];exact bg _ e
   have K:∀b o,a.get? b=some o->f.get? b=some o:=λb o e=>by rw[M];exact bg _ e
   have H:∀b o,f.get? b=some o->c.get? b=some o:=λb o e=>by rw[N];exact bg _ e
   exact⟨λb o e=>H _ _ (K _ _ (D _ _ (u2 _ _ (by rw[E];exact bg _ e)))),aM Q,aM T,aM V,aM W,H _ _ (K _ _ (D _ _ (u2 _ _ Q))),H _ _ (K _ _ (D _ _ T)),H _ _ (K _ _ V),H _ _ W,g5⟩
  let r:Obj:={ cls:=.type "list_iterator",data:=.fields #[.ref l,.int 0 0] }
  let n:=i.push r
  let t:Obj:={ cls:=.type "tuple_iterator",data:=.fields #[.ref y,.int 0 0] }
  let x:=n.push t
  let p:Obj:={ cls:=.type "tuple",data:=.seq #[.ref i.objs.size,.ref n.objs.size] }
  let a:=x.push p
  let q:Obj:={ cls:=.type "tuple",data:=.seq #[.none,.none] }
  let f:=a.push q
  let m:Obj:={ cls:=.type "zip",data:=.fields #[.none,.bool false,.bool false,.ref x.objs.size,.ref a.objs.size] }
  obtain⟨k,s1,s2,s3,s4,a1,a2,a3,a4,a5⟩:=j i n x a f (f.push m) r t p q m rfl rfl rfl rfl rfl rfl rfl rfl rfl rfl;exact⟨_,rfl,h (f.push m) i.objs.size n.objs.size x.objs.size a.objs.size f.objs.size k (al _) s1 s2 s3 s4 ⟨_,a1,rfl,rfl⟩ ⟨_,a2,rfl,rfl⟩ a3 a4 a5⟩
end
section
variable{prog:Program}{w:World}{A:Around}{E:VP}{s:Shared}
theorem D6(h:Q (s.heap.get? a) s):wpAny M A (loadIfAlive a) Q E s:=λx p _=>by unfold loadIfAlive;rw[Sem.wp_loadIfAlive];exact(Sem.wp_pure ..).mpr h
theorem sr{z TI TO T:Addr}{f:Bool}{o:Obj}{Q:Bool->Shared->Prop}(a:gJ s.heap z TI TO (rawInt T) (.bool f))(n:s.heap.get? T=some o)
  (h:∀e,gJ e z TI TO (rawInt T) (.bool true)->gK z s.heap e->Q false { s with heap:=e }):wpAny (model prog w) A (pM (.ref z)) Q E s:=by
 unfold pM;apply aa;refine c_ (show s.heap.get? z=some _ from a) rfl (x:=rawInt T) rfl ?_;unfold rawInt;dsimp only;apply aa;refine D6 ?_;rw[uL,n];rw[au (by simp)];apply aa;refine c_ (show s.heap.get? z=some _ from a) rfl (x:=.bool f) rfl ?_;cases f with
 |true=>rw[au (by decide)];exact aj (h s.heap a ⟨rfl,λ_ _=>rfl⟩)
 |false=>rw[am (by decide)];apply aa;refine yI (show s.heap.get? z=some _ from a) rfl (by simp) (aj (h _ ?_ (pN ..)));unfold gJ;rw[jM _ (show s.heap.get? z=some _ from a) rfl];simp[fA]
theorem C5{z TI TO i a l r T:Addr}{P:Bool}{k:Nat}{S F:Array Value}{x y:Value}{oT:Obj}{Q:VP}(d:gJ s.heap z TI TO (rawInt T) (.bool P))(I:fm s.heap TI (.ref i) (.ref a))(G:s.heap.get? T=some oT)
  (B:s.heap.IsListIter i l k) (C:s.heap.IsTupleIter a r k) (p:s.heap.IsList l S) (q:s.heap.IsTuple r F) (M:S[k]? = some x) (R:F[k]? = some y)
  (g:i≠z) (j:a≠z) (X:l≠z) (Z:r≠z) (H:a≠i) (n6:r≠i) (n7:l≠a) (n8:l≠i) (n9:r≠a)
  (D:∀m:Heap,gJ m z TI TO (rawInt T) (.bool true)->m.IsListIter i l (k+1)->m.IsTupleIter a r (k+1)->(∀c o,c≠z->c≠i->c≠a->s.heap.get? c=some o->m.get? c=some o) ->
   Q (.ref m.objs.size) { s with heap:=m.push { cls:=.type "tuple",data:=.seq #[x,y] } }) :
  wpAny (model prog w) A (Builtin.«zip.__next__» ⟨[.ref z],[]⟩) (λt s'=>∃h,t=.done (.ret h)/\Q h s') E s:=by
 unfold Builtin.«zip.__next__»;apply aa;apply aj;apply aa;refine c_ (show s.heap.get? z=some _ from d) rfl (x:=.bool false) rfl ?_;apply aa;refine c_ (show s.heap.get? z=some _ from d) rfl (x:=.ref TI) rfl ?_;apply aa;refine kG (show s.heap.get? TI=some _ from I) rfl ?_;dsimp only;rw[au (by simp)];apply aa;refine sr d G λh0 u b=>?_
 rw[au (by simp)];apply aa;rw[<- AZ];show wpAny _ _ (forIn [Value.ref i,Value.ref a] _ _) _ _ _;rw[jT];apply aa;apply aa;apply db;show wpAny _ _ (iR (.ref i) >>= _) _ _ _;apply aa;refine EH (B.extBut b.extBut g) (p.extBut b.extBut X) M λha V n=>aj ?_;dsimp only;apply aj;dsimp only;rw[jT];apply aa;apply aa;apply db;show wpAny _ _ (iR (.ref a) >>= _) _ _ _;apply aa;refine xq ((C.extBut b.extBut j).extBut n.extBut H) ((q.extBut b.extBut Z).extBut n.extBut n6) R λL W f=>aj ?_;dsimp only;apply aj;dsimp only;rw[A5];apply aj;dsimp only;apply aa;refine yH (hsz:=by show 2≤sizeLine;decide) (aj ⟨_,rfl,D L ?_ ?_ W ?_⟩)
 .exact f.extBut _ _ (aC j) (n.extBut _ _ (aC g) u)
 .exact V.extBut f.extBut (aC H)
 .exact λc o N v K e=>f.extBut _ _ K (n.extBut _ _ v (b.extBut _ _ N e))
theorem EQ{z TI TO i f n T:Addr}{t:Bool}{k:Nat}{m:Array Value}{S:Obj}{Q:Fin->Shared->Prop}(u:A.handled=none)(a:gJ s.heap z TI TO (rawInt T) (.bool t))(I:fm s.heap TI (.ref i) (.ref f))(d:s.heap.get? T=some S)
  (p:s.heap.IsListIter i n k) (l:s.heap.IsList n m) (g:m[k]? = none) (y:i≠z) (H:n≠z)
  (q:∀h e,(∀c o,c≠z->c≠i->s.heap.get? c=some o->h.get? c=some o)->(∃o,h.get? e=some o/\o.cls=.type "StopIteration")->E (.ref e) { s with heap:=h }) :
  wpAny (model prog w) A (Builtin.«zip.__next__» ⟨[.ref z],[]⟩) Q E s:=by
 unfold Builtin.«zip.__next__»;apply aa;apply aj;apply aa;refine c_ (show s.heap.get? z=some _ from a) rfl (x:=.bool false) rfl ?_;apply aa;refine c_ (show s.heap.get? z=some _ from a) rfl (x:=.ref TI) rfl ?_;apply aa;refine kG (show s.heap.get? TI=some _ from I) rfl ?_;dsimp only;rw[au (by simp)];apply aa;refine sr a d λF j b=>?_
 rw[au (by simp)];apply aa;rw[<- AZ];show wpAny _ _ (forIn [Value.ref i,Value.ref f] _ _) _ _ _;rw[jT];apply aa;apply aa;apply db;show wpAny _ _ (iR (.ref i) >>= _) _ _ _;apply aa;exact ED u (p.extBut b.extBut y) (l.extBut b.extBut H) g λh e x o=>q h e (λc K N v r=>x _ _ v (b.extBut _ _ N r)) o
end
section
variable{prog:Program}{w:World}{A:Around}{E:VP}{s:Shared}
theorem C6{z TI TO i t P l:Addr}{xs ys:Array Value}{x y:Value}{Q:VP}(u:gJ s.heap z TI TO .none (.bool false))(I:fm s.heap TI (.ref i) (.ref t))(C:fm s.heap TO .none .none)
  (h1:s.heap.IsListIter i P 0) (h2:s.heap.IsTupleIter t l 0) (D:s.heap.IsList P xs) (G:s.heap.IsTuple l ys) (hx:xs[0]? = some x) (hy:ys[0]? = some y)
  (W:i≠z) (Z:t≠z) (n3:P≠z) (n4:l≠z) (n5:t≠i) (n6:l≠i) (n7:TO≠z) (n8:TO≠i) (n9:TO≠t) (X:l≠TO)
  (hQ:∀(d:Heap) (T:Addr),gJ d z TI TO (rawInt T) (.bool false)->d.IsListIter i P 1->d.IsTupleIter t l 1->fm d T x y->s.heap.get? T=none->(∀c o,c≠z->c≠i->c≠t->c≠TO->s.heap.get? c=some o->d.get? c=some o) ->
   Q (.ref T) { s with heap:=d }) :
  wpAny (model prog w) A (Builtin.«zip.__next__» ⟨[.ref z],[]⟩) (λB s'=>∃h,B=.done (.ret h)/\Q h s') E s:=by
 unfold Builtin.«zip.__next__»;apply aa;apply aj;apply aa;refine c_ (show s.heap.get? z=some _ from u) rfl (x:=.bool false) rfl ?_;apply aa;refine c_ (show s.heap.get? z=some _ from u) rfl (x:=.ref TI) rfl ?_;apply aa;refine kG (show s.heap.get? TI=some _ from I) rfl ?_;dsimp only;rw[au (by simp)];apply aa;unfold pM;apply aa;refine c_ (show s.heap.get? z=some _ from u) rfl (x:=.none) rfl (aj ?_);rw[am rfl];apply aa;apply uG;apply aa;refine c_ (show s.heap.get? z=some _ from u) rfl (x:=.ref TO) rfl ?_;dsimp only;apply aa;refine re (show s.heap.get? z=some _ from u) (by simp) λh0 L b=>?_
 apply aa;show wpAny _ _ (forIn [(Value.ref i,0),(Value.ref t,1)] _ _) _ _ _;rw[jT];apply aa;apply aa;apply yG;show wpAny _ _ (iR (.ref i) >>= _) _ _ _;apply aa;refine EH (h1.extBut b.extBut W) (D.extBut b.extBut n3) hx λha ia a=>aj ?_;dsimp only;have S:ha.get? TO=some { cls:=.type "tuple",data:=.seq #[.none,.none] }:=a.extBut _ _ n8 (b.extBut _ _ n7 C);apply aa;refine kG S rfl ?_;dsimp only;apply aa;refine Ez (s:={ s with heap:=ha }) S λhb p n=>?_;replace p:hb.get? TO=some { cls:=.type "tuple",data:=.seq #[x,.none] }:=p;apply aa;apply wpAny_letGo;apply aj;dsimp only;rw[jT];apply aa;apply aa;apply yG;show wpAny _ _ (iR (.ref t) >>= _) _ _ _;apply aa;refine xq (((h2.extBut b.extBut Z).extBut a.extBut n5).extBut n.extBut (aC n9)) (((G.extBut b.extBut n4).extBut a.extBut n6).extBut n.extBut X) hy λhc ic f=>aj ?_;dsimp only;have F:hc.get? TO=some { cls:=.type "tuple",data:=.seq #[x,.none] }:=f.extBut _ _ n9 p;apply aa;refine kG F rfl ?_;dsimp only;apply aa;refine Ez (s:={ s with heap:=hc }) F λhd q m=>?_;replace q:hd.get? TO=some { cls:=.type "tuple",data:=.seq #[x,y] }:=q;apply aa;apply wpAny_letGo;apply aj;dsimp only;rw[A5];apply aj;dsimp only;apply aa;refine kG q rfl ?_;dsimp only;apply aa;refine yH (hsz:=by show 2≤sizeLine;decide) ?_;have g:hd.get? z=some { cls:=.type "zip",data:=.fields #[.ellipsis,.bool false,.bool false,.ref TI,.ref TO] }:=m.extBut _ _ (aC n7) (f.extBut _ _ (aC Z) (n.extBut _ _ (aC n7) (a.extBut _ _ (aC W) L)));have K:=aM g;have M:(hd.push { cls:=.type "tuple",data:=.seq #[x,y] }).get? z=some { cls:=.type "zip",data:=.fields #[.ellipsis,.bool false,.bool false,.ref TI,.ref TO] }:=bg _ g;apply aa;unfold HS;dsimp only;apply aa;refine re M (by simp) λhe R j=>?_;refine re R (by simp) λhf V H=>?_;have k:∀c o,c≠z->hd.get? c=some o->hf.get? c=some o:=λc o N e=>H.extBut _ _ N (j.extBut _ _ N (bg _ e));refine aj ⟨_,rfl,hQ hf hd.objs.size V ?_ ?_ ?_ ?_ ?_⟩
 .exact (((ia.extBut n.extBut (aC n8)).extBut f.extBut (aC n5)).extBut m.extBut (aC n8)).at λo e=>k _ o W e
 .obtain⟨o,e,r⟩:=ic.extBut m.extBut (aC n9);exact⟨o,k _ o Z e,r⟩
 .exact H.extBut _ _ (cm K) (j.extBut _ _ (cm K) (dD _ rfl))
 .cases e:s.heap.get? hd.objs.size with
  |none=>rfl
  |some o=>exact absurd (aM e) (by rw[m.1,f.1,n.1,a.1,b.1];exact gn _)
 .exact λc o N v c3 c4 e=>k c o N (m.extBut _ _ c4 (f.extBut _ _ c3 (n.extBut _ _ c4 (a.extBut _ _ v (b.extBut _ _ N e)))))
theorem ER(y:A.handled=none)(a:gJ s.heap z TI TO .none (.bool false))(T:fm s.heap TI (.ref k) (.ref I))
  (g:s.heap.IsListIter k d 0) (l:s.heap.IsList d M) (H:M[0]? = none) (t:k≠z) (F:d≠z)
  (j:∀h e,(∀c o,c≠z->c≠k->s.heap.get? c=some o->h.get? c=some o)->(∃o,h.get? e=some o/\o.cls=.type "StopIteration")->E (.ref e) { s with heap:=h }) :
  wpAny (model prog w) A (Builtin.«zip.__next__» ⟨[.ref z],[]⟩) Q E s:=by
 unfold Builtin.«zip.__next__»;apply aa;apply aj;apply aa;refine c_ (show s.heap.get? z=some _ from a) rfl (x:=.bool false) rfl ?_;apply aa;refine c_ (show s.heap.get? z=some _ from a) rfl (x:=.ref TI) rfl ?_;apply aa;refine kG (show s.heap.get? TI=some _ from T) rfl ?_;dsimp only;rw[au (by simp)];apply aa;unfold pM;apply aa;refine c_ (show s.heap.get? z=some _ from a) rfl (x:=.none) rfl (aj ?_);rw[am rfl];apply aa;apply uG;apply aa;refine c_ (show s.heap.get? z=some _ from a) rfl (x:=.ref TO) rfl ?_;dsimp only;apply aa;refine re (show s.heap.get? z=some _ from a) (by simp) λP r b=>?_
 apply aa;show wpAny _ _ (forIn [(Value.ref k,0),(Value.ref I,1)] _ _) _ _ _;rw[jT];apply aa;apply aa;apply yG;show wpAny _ _ (iR (.ref k) >>= _) _ _ _;apply aa;refine ED y (g.extBut b.extBut t) (l.extBut b.extBut F) H λh e x o=>?_;have n:=x _ _ (aC t) r;refine re (s:={ s with heap:=h }) n (by simp) λi S f=>j i e (λc p N v u=>f.extBut _ _ N (x _ _ v (b.extBut _ _ N u))) ?_;obtain⟨p,m,c⟩:=o;have K:e≠z:=λq=>by rw[q,n]at m;cases m;exact absurd (show Value.type "zip"=Value.type "StopIteration" from c) (by decide)
 exact⟨p,f.extBut _ _ K m,c⟩
end
theorem xc:typeLookup (.type "zip") "keys"=pure none:=by rw[Eh,EA];kernel_rfl
theorem rg:typeLookup (.type "zip") "__getattr__"=pure none:=by rw[Eh,EA];kernel_rfl
theorem nV:entryFor table "zip.__getattribute__"=some Builtin.«object.__getattribute__»:=
 entryFor_alias (id':="object.__getattribute__") (by kernel_rfl) (by decide +kernel) (by decide +kernel) (by kernel_rfl)
section
variable{prog:Program}{w:World}{A:Around}{E:VP}{s:Shared}
theorem EM(z TI TO:Addr)(f0 f1:Value)(u:Tok):Meets (Builtin.«object.__getattribute__» ⟨[.ref z,.str "keys" u],[]⟩) (λA R s=>gJ s.heap z TI TO f0 f1/\raisesAttr (.ref z) "keys" A R s):=
 .of_wp λprog w A R s hs=>by
  obtain⟨hp,g,d,tk,os⟩:=s;obtain⟨hx,hs⟩:=hs;unfold gJ at hx;have hT:(⟨hp,g,d,tk,os⟩:Shared).TypeIs (.ref z) "zip":=⟨_,hx,rfl⟩;have nk:=xc;unfold Builtin.«object.__getattribute__»;repeat any_goals first|assumption|wp_step
  exact wpAny_raiseAttrError hs.1 hs.2 (attrMsg_fits (by decide +kernel) (by size_fits))
theorem C4(q:gJ s.heap z TI TO l j)(i:A.handled=none)
  (h:∀x v,(∀b o,s.heap.get? b=some o->x.get? b=some o)->Q none { s with heap:=x,toks:=v }):wpAny (model prog w) A (getAttr? (.ref z) "keys") Q E s:=by
 obtain⟨p,g,d,v,os⟩:=s;have T:∀t,(⟨p,g,d,t,os⟩:Shared).TypeIs (.ref z) "zip":=λ_=>⟨_,q,rfl⟩;have j:=sub_AttributeError;have y:=F.slot_zip_getattribute.lookup;have H:=F.slot_zip_getattribute.bind (.ref z);have S:=rg;have step:∀(n:Nat)(u:Tok)(m:VP)(f:VP),(∀x c e,Heap.NewAttrErr p x e (.ref z) "keys"->f (.ref e) ⟨x,g,d,c,os⟩) ->
   wpAny (model prog w) A (call (Value.builtin "zip.__getattribute__") ([Value.ref z]++[Value.str "keys" u]) []) m f ⟨p,g,d,n,os⟩:=λn u m f k=>
  i' F.slot_zip_getattribute (T _) nV (F.args_zip_getattribute_2 _ _) (EM z TI TO _ _ u) ⟨q,i,k⟩
 unfold getAttr?;unfold getAttrBy?;unfold getAttrBy;repeat any_goals first|assumption|exact T _|(with_reducible refine step _ _ _ _ λx t e a=>?_)|wp_step
 have r:=a.there;obtain⟨K,P,r⟩:=r;repeat any_goals first|assumption|wp_step
 exact h _ _ a.keeps
end
section
variable{prog:Program}{w:World}{A:Around}{E:VP}{s:Shared}
theorem EL(n:s.TypeIs (.ref z) "zip")
  (h:wpAny (model prog w) A.in1 (Builtin.«zip.__next__» ⟨[.ref z],[]⟩) (λf x=>∃v,f=.done (.ret v)/\Q (some v) x) (λe x=>∃a o,e=.ref a/\x.heap.get? a=some o/\o.cls=.type "StopIteration"/\Q none x) s) :
  wpAny (model prog w) A (pyNext (.ref z)) Q E s:=by
 unfold pyNext;apply aa;apply uJ;refine u3 (name:=Str.ofString "__next__") n F.slot_zip_next (qZ F.slot_zip_next n F.entry_zip_next (aU h (λf x ⟨v,e,q⟩=>⟨v,e,aj q⟩) λe x ⟨a,o,k,c,m,q⟩=>?_) (F.args_zip_next_1 _));subst k;apply aa;exact wpAny_isInstance (T:="StopIteration") (b:=true) ⟨_,c,m⟩ isSubtype_stop (aj q)
def Kz(d:Addr)(h:Heap)(z TI TO i x l a:Addr)(k:Nat):Prop:=fm h TI (.ref i) (.ref x)/\h.IsListIter i l k/\h.IsTupleIter x a k /\
 ((k=0/\gJ h z TI TO .none (.bool false)/\fm h TO .none .none)\/∃(T:Addr)(o:Obj)(f:Bool),gJ h z TI TO (rawInt T) (.bool f)/\h.get? T=some o/\T≠z/\T≠i/\T≠x/\T≠d)
structure ZAp(d z TI TO i1 i2 l1 l2:Addr):Prop where
 nd:[d,z,TI,TO,i1,i2].Nodup
 l1n:l1 ∉ [d,z,TI,TO,i1,i2]
 l2n:l2 ∉ [d,z,TI,TO,i1,i2]
theorem Kz.typeIs(x:Kz d s.heap z TI TO n q l g k):s.TypeIs (.ref z) "zip":=by
 obtain⟨_,_,_,⟨_,h,_⟩|⟨T,o,f,h,_⟩⟩:=x
 .exact⟨_,h,rfl⟩
 .exact⟨_,h,rfl⟩
theorem Kz.but(x:Kz d h z TI TO q g l j k)(p:ZAp d z TI TO q g l j)(s:gK d h I):Kz d I z TI TO q g l j k:=by
 have n:=p.nd;simp only[cz,aP,eS,kt,nS]at n;obtain⟨b,c,m,r⟩:=x;refine⟨s.extBut _ _ (aC n.1.2.1) b,c.extBut s.extBut (aC n.1.2.2.2.1),m.extBut s.extBut (aC n.1.2.2.2.2),?_⟩;rcases r with ⟨e,a,t⟩|⟨T,o,v,a,t,w,u,i,f⟩
 .exact .inl ⟨e,s.extBut _ _ (aC n.1.1) a,s.extBut _ _ (aC n.1.2.2.1) t⟩
 .exact .inr ⟨T,o,v,s.extBut _ _ (aC n.1.1) a,s.extBut _ _ f t,w,u,i,f⟩
theorem EU(p:ZAp d z TI TO I M l1 l2)(a:Kz d s.heap z TI TO I M l1 l2 k)(hd:s.heap.get? d=some od)(l:s.heap.IsList l1 xs)(b:s.heap.IsTuple l2 ys)(B:xs[k]? = some x)(C:ys[k]? = some y)
  (P:∀h T,Kz d h z TI TO I M l1 l2 (k+1)->fm h T x y->T≠d->(∀c o,c ∉ [z,TO,I,M]->s.heap.get? c=some o->h.get? c=some o)->Q (some (.ref T)) { s with heap:=h }) :
  wpAny (model prog w) A (pyNext (.ref z)) Q E s:=by
 have Z:=p.nd;have W:=p.l1n;have X:=p.l2n;simp only[cz,aP,eS,kt,nS]at Z W X;refine EL a.typeIs ?_;obtain⟨m,g,i,V⟩:=a;rcases V with ⟨e,v,t⟩|⟨T,oT,f1,v,t,L,N,R,t4⟩
 .subst e;refine C6 v m t g i l b B C (by grind) (by grind) (by grind) (by grind) (by grind) (by grind) (by grind) (by grind) (by grind) (by grind) λh T S F K D G q=>?_
  have fresh:∀c o,s.heap.get? c=some o->T≠c:=λc o f z=>by rw[z,f]at G;cases G
  obtain⟨oi1,j,_⟩:=g;obtain⟨oi2,H,_⟩:=i;exact P h T ⟨q _ _ (by grind) (by grind) (by grind) (by grind) m,F,K,.inr ⟨T,_,false,S,D,fresh _ _ v,fresh _ _ j,fresh _ _ H,fresh _ _ hd⟩⟩ D (fresh _ _ hd) λc o n f=>q c o (λz=>n (by simp[z])) (λz=>n (by simp[z])) (λz=>n (by simp[z])) (λz=>n (by simp[z])) f
 .refine C5 v m t g i l b B C (by grind) (by grind) (by grind) (by grind) (by grind) (by grind) (by grind) (by grind) (by grind) λh S F K q=>?_;have dl:d < h.objs.size:=aM (q _ _ (by grind) (by grind) (by grind) hd);have u:∀c o,h.get? c=some o->(h.push { cls:=.type "tuple",data:=.seq #[x,y] }).get? c=some o:=λc o e=>bg _ e;refine P _ _ ⟨u _ _ (q _ _ (by grind) (by grind) (by grind) m),?_,?_,.inr ⟨T,oT,true,u _ _ S,u _ _ (q _ _ L N R t),L,N,R,t4⟩⟩ (dD _ rfl) (cm dl) λc o n f=>u _ _ (q c o (λz=>n (by simp[z])) (λz=>n (by simp[z])) (λz=>n (by simp[z])) f)
  .obtain⟨o,e,r⟩:=F;exact⟨o,u _ _ e,r⟩
  .obtain⟨o,e,r⟩:=K;exact⟨o,u _ _ e,r⟩
theorem IF(u:A.handled=none)(p:ZAp d z TI TO j I M l2)(a:Kz d s.heap z TI TO j I M l2 k)(l:s.heap.IsList M xs)(i:xs[k]? = none)
  (v:∀h,(∀c o,c ∉ [z,TO,j,I]->s.heap.get? c=some o->h.get? c=some o)->Q none { s with heap:=h }):wpAny (model prog w) A (pyNext (.ref z)) Q E s:=by
 have S:=p.nd;have H:=p.l1n;simp only[cz,aP,eS,kt,nS]at S H;refine EL a.typeIs ?_;obtain⟨r,t,F,y⟩:=a;rcases y with ⟨e,n,g⟩|⟨T,P,K,n,g,B,C,D,G⟩
 .subst e;exact ER u n r t l i (by grind) (by grind) λh e q n=>by obtain⟨o,b,m⟩:=n;exact⟨e,o,rfl,b,m,v h λc o x f=>q c o (λz=>x (by simp[z])) (λz=>x (by simp[z])) f⟩
 .exact EQ u n r g t l i (by grind) (by grind) λh e q ⟨o,b,m⟩=>⟨e,o,rfl,b,m,v h λc o x f=>q c o (λz=>x (by simp[z])) (λz=>x (by simp[z])) f⟩
end
section
variable{prog:Program}{w:World}{K:Type}[DecidableEq K]{t:KeyKind prog w K}{A:Around}{E:VP}{R:Result->Shared->Prop}
inductive ZipsAt(knd:KeyKind prog w K):LV->LV->List (K×Value)->Prop
 |nil {vs:LV}:ZipsAt knd [] vs []
 |cons {key v:Value}{k:K}{us vs:LV}{kvs:List (K×Value)}:knd.is k key=true->ZipsAt knd us vs kvs->ZipsAt knd (key::us) (v::vs) ((k,v)::kvs)
set_option tactic.hygienic true in
theorem zw(hh:A.handled=none){f:Heap}(p:ZAp d z TI TO i1 i2 l1 l2)(fr:∀a ∈ [d,z,TI,TO,i1,i2],f.get? a=none)(I:f.IsList l1 g)(hl2:f.IsTuple l2 ys) :
  ∀(bS:List (K×Value))(i:Nat)(n:List (K×Value))(s:Shared),(∀b o,f.get? b=some o->s.heap.get? b=some o)->Kz d s.heap z TI TO i1 i2 l1 l2 i->s.heap.DictOf t d n->ZipsAt t (g.toList.drop i) (ys.toList.drop i) bS ->
   ((n++bS).map (·.1)).Nodup->(n++bS).length≤sizeLine->i+bS.length=g.size ->
   (∀j t',(∀b o,f.get? b=some o->j.get? b=some o)->j.DictOf t d (n++bS)->R (.ok (.ret .none)) { s with heap:=j,toks:=t' }) ->
   codeAny (model prog w) A (.builtin "dict.update.loop" ⟨[.ref d,.ref z,rawInt i,.none],[]⟩) R s:=by
 have nd:=p.nd;simp only[cz,aP,eS,kt,nS]at nd;have S:∀b o,f.get? b=some o->b ∉ [d,z,TI,TO,i1,i2]:=λb o e m=>by rw[fr b m]at e;cases e
 have dz:d ∉ [z,TO,i1,i2]:=by simp only[aP,eS,kt,nS];grind
 intro bS;induction bS with
 |nil=>
  intro i n s P l hd W M X hi h;have G:g[i]? = none:=by simp at hi ⊢;lia
  have y:s.heap.IsList l1 g:=by obtain⟨o,H,r⟩:=I;exact⟨o,P _ _ H,r⟩
  refine uM F.entry_dict_update_loop ?_;rw[uW F.plain_dict_update_loop _];unfold Builtin.«dict.update.loop»;show wpAny _ A.in1 (pyNext (.ref z) >>= _) _ _ s;refine aa (IF hh p l y G λj C=>?_);show wpAny _ A.in1 (HP d [] >>= _) _ _ _;rw[dB]at h;apply aa;apply aj;apply aj;refine h j s.toks (λb o e=>C b o (λm=>S b o e (by simp only[aP,eS,kt]at m ⊢;grind)) (P b o e)) ?_;obtain⟨o,c,ep,H,r⟩:=hd;exact⟨o,c,ep,C _ _ dz H,r⟩
 |cons kv bS ih=>
  intro i n s P l hd W M X hi h;have y:s.heap.IsList l1 g:=by obtain⟨o,H,r⟩:=I;exact⟨o,P _ _ H,r⟩
  have L:s.heap.IsTuple l2 ys:=by obtain⟨o,H,r⟩:=hl2;exact⟨o,P _ _ H,r⟩
  generalize er:g.toList.drop i=us at W;generalize c:ys.toList.drop i=vs at W;cases W with
  |cons hk hps=>
   rename_i B v k us' vs';have hx:g[i]? = some B:=by have:=js (·[0]?) er;simpa using this
   have hy:ys[i]? = some v:=by have:=js (·[0]?) c;simpa using this
   have er':g.toList.drop (i+1)=us':=by rw[<- A4,er];rfl
   have es':ys.toList.drop (i+1)=vs':=by rw[<- A4,c];rfl
   obtain⟨od,Z,ed2,N,hdr⟩:=id hd;refine uM F.entry_dict_update_loop ?_;rw[uW F.plain_dict_update_loop _];unfold Builtin.«dict.update.loop»;show wpAny _ A.in1 (pyNext (.ref z) >>= _) _ _ s;refine aa (EU p l N y L hx hy λV T za u hTd C=>?_);have kp1:∀b o,f.get? b=some o->V.get? b=some o:=λb o e=>C b o (λm=>S b o e (by simp only[aP,eS,kt]at m ⊢;grind)) (P b o e);have hd1:V.DictOf t d n:=⟨od,Z,ed2,C _ _ dz N,hdr⟩;show wpAny _ A.in1 (holding [Value.ref T] _ >>= _) _ _ _;apply aa;apply db;apply aa;apply wpAny_tryCatch;unfold HQ;refine aa (nQ (T:="tuple") ⟨_,u,rfl⟩ ?_);rw[am (by decide)];refine aa (kG (show V.get? T=some _ from u) rfl (aj ?_));show wpAny _ A.in1 (holding [B,v] (dictSet d B v)) _ _ _;refine db ?_;refine wpAny_dictSet_pairs (s:={ s with heap:=V }) hk hd1 (λh2 E Q=>?_) (by simp at X;lia);have hnk:k ∉ n.map (·.1):=by intro hm;rw[va,vd]at M;exact M.2.2 _ hm _ (by simp) rfl
   have est:stored n k v=n++[(k,v)]:=by unfold stored;rw[au];intro D;obtain⟨x,hx1,hx2⟩:=mN.mp D;exact hnk (bj.mpr ⟨x,hx1,be hx2⟩)
   rw[est]at E;refine aj ⟨Ec F.plain_dict_update_loop _,?_⟩;have kp2:∀b o,f.get? b=some o->h2.get? b=some o:=λb o e=>Q.extBut _ _ (λq=>S b o e (by simp[q])) (kp1 b o e);have e1:n++(k,v)::bS=(n++[(k,v)])++bS:=by simp
   rw[e1]at M X h;exact ih (i+1) (n++[(k,v)]) { s with heap:=h2,toks:=s.toks+1 } kp2 (za.but p Q) E (er' ▸ es' ▸ hps) M X (by simp at hi;lia) λj t' k1 k2=>h j t' k1 k2
end
section
variable{prog:Program}{w:World}{K:Type}[DecidableEq K]{t:KeyKind prog w K}{A:Around}{E:VP}{s:Shared}
theorem yj(l:s.heap.IsList n I)(e:s.heap.IsTuple q M)
  (h:∀x i a TI TO z,(∀b o,s.heap.get? b=some o->x.get? b=some o)->s.heap.objs.size≤i->i < a->a < TI->TI < TO->TO < z->x.IsListIter i n 0->x.IsTupleIter a q 0->fm x TI (.ref i) (.ref a)->fm x TO .none .none ->
   gJ x z TI TO .none (.bool false)->Q (.ref z) { s with heap:=x }):wpAny (model prog w) A (call (.type "zip") [.ref n,.ref q]) Q E s:=by
 refine callType_new F.called_zip (by decide) (F.typeCall_zip_2 _ _) (F.newCall_zip_2 _ _) (λj=>F.args_object_init_3 j _ _) F.entry_zip_new (EN n q I M) ⟨l,e,λx i a TI TO z k c m r t p v d u g f=>?_⟩;show _/\_;exact⟨⟨_,f,rfl⟩,h x i a TI TO z k c m r t p v d u g f⟩
theorem tS{k:Heap}(hh:A.handled=none)(k0:∀b o,k.get? b=some o->s.heap.get? b=some o)(H:k.IsList l1 xs)(S:k.IsTuple l2 ys)
  (i:k.objs.size≤I) (D:I < M) (G:M < TI) (P:TI < TO) (j:TO < z) (b1:s.heap.IsListIter I l1 0) (b2:s.heap.IsTupleIter M l2 0) (b3:fm s.heap TI (.ref I) (.ref M)) (b4:fm s.heap TO .none .none) (y:gJ s.heap z TI TO .none (.bool false))
  (hp:ZipsAt t xs.toList ys.toList C) (hn:(C.map (·.1)).Nodup) (hz:C.length≤sizeLine) (hi:C.length=xs.size)
  (h:∀d X,(∀b o,k.get? b=some o->d.get? b=some o)->d.DictOf t s.heap.objs.size C->Q (.ref s.heap.objs.size) { s with heap:=d,toks:=X }) :
  wpAny (model prog w) A (call (.type "dict") [.ref z]) Q E s:=by
 have fresh:(s.heap.push { cls:=.type "dict",data:=.dict #[] }).DictOf t s.heap.objs.size []:=.new s.heap;have u:∀b o,s.heap.get? b=some o->(s.heap.push { cls:=.type "dict",data:=.dict #[] }).get? b=some o:=λb o=>bg _;have q:z < s.heap.objs.size:=aM y;have K:=kt_code_dict_new (prog:=prog) (w:=w) (A:=A.in1) (E:=E) (s:=s) (Value.ref z) (Q₁:=λx z=>x=.ref s.heap.objs.size/\z={ s with heap:=s.heap.push { cls:=.type "dict",data:=.dict #[] } }) ⟨rfl,rfl⟩;apply callType_codes F.kt_called_dict (F.kt_typeCall_dict_1 (.ref z)) F.entry_dict_init K;rintro _ _ ⟨e,e'⟩;subst e e';generalize s.heap.push { cls:=.type "dict",data:=.dict #[] }=h1 at fresh u;refine⟨fresh.typeIs,F.args_dict_init_2 (.ref s.heap.objs.size) (.ref z),?_⟩;unfold Builtin.«dict.__init__» HR;apply aa;apply aa;apply wpAny_notOrdered_dict fresh.typeIs;apply aj;show wpAny _ _ (zU "dict.__init__" s.heap.objs.size (.ref z) [] .none) _ _ _;unfold zU;refine aa (nQ (T:="zip") ⟨_,u _ _ y,rfl⟩ ?_);rw[am (by decide)];refine aa (C4 (u _ _ y) hh λh2 tk k2=>?_);rw[am (by rfl)];refine aa (uG ?_);have g:∀b o,s.heap.get? b=some o->h2.get? b=some o:=λb o e=>k2 b o (u b o e);have R:h2.DictOf t s.heap.objs.size []:=by obtain⟨o,c,ep,ho,r⟩:=fresh;exact⟨o,c,ep,k2 _ _ ho,r⟩
 refine aa (wpAny_pyIter_zip (z:=z) (TI:=TI) (TO:=TO) (f0:=.none) (g _ _ y) ?_);refine aj ⟨Ec F.plain_dict_update_loop _,?_⟩;have V:l1 < k.objs.size:=by obtain⟨o,e,_⟩:=H;exact aM e
 have W:l2 < k.objs.size:=by obtain⟨o,e,_⟩:=S;exact aM e
 have f:∀{a b n:Nat},a < b->b < n->a < n:=λh d=>lq h d;have N:=f D G;have v:=f N P;have L:=f v j;have Z:=f L q;have c5:=f G P;have c6:=f c5 j;have c7:=f c6 q;have c8:=f P j;have c9:=f c8 q;have ca:=f j q;have low:∀{l n:Nat},l < k.objs.size->k.objs.size≤n->l≠n:=λh d=>bo (bN h d);have ge:∀n ∈ [s.heap.objs.size,z,TI,TO,I,M],k.objs.size≤n:=λn B=>by
  simp only[aP,eS,kt]at B;rcases B with rfl|rfl|rfl|rfl|rfl|rfl
  .exact aF i (g9 Z)
  .exact aF i (g9 L)
  .exact aF i (g9 N)
  .exact aF i (g9 v)
  .exact i
  .exact aF i (g9 D)
 have p:ZAp s.heap.objs.size z TI TO I M l1 l2:=by refine⟨?_,λm=>low V (ge _ m) rfl,λm=>low W (ge _ m) rfl⟩;simp only[cz,aP,eS,kt,nS,A6,not_false_eq_true,ij];exact⟨⟨cm q,cm c9,cm ca,cm Z,cm c7⟩,⟨cm c8,cm j,cm L,cm c6⟩,⟨bo P,cm N,cm G⟩,⟨cm v,cm c5⟩,bo D⟩
 refine zw (A:=A.in1) (t:=t) (f:=k) hh p (λn B=>?_) H S C 0 [] _ (λb o e=>g b o (k0 b o e)) ⟨g _ _ b3,?_,?_,.inl ⟨rfl,g _ _ y,g _ _ b4⟩⟩ R (by simpa using hp) (by simpa using hn) (by simpa using hz) (by lia) λd X q1 q2=>?_
 .cases e:k.get? n with
  |none=>rfl
  |some o=>exact absurd rfl (low (aM e) (ge n B))
 .obtain⟨o,e,r⟩:=b1;exact⟨o,g _ _ e,r⟩
 .obtain⟨o,e,r⟩:=b2;exact⟨o,g _ _ e,r⟩
 .exact⟨rfl,h d X q1 q2⟩
end
end PySem
namespace Ev
open PySem PySem.Spec PyProof.Rows L2
@[simp] def zu(fa fb:EV)(L:Lc)(S:aB):xb:=bL (fa L S) λx a=>bL (fb L a) λy h=>match x,y with
 | .lst k,.tup v=>match dM k with
  |some B=>if (B.Nodup/\few k=true/\B.length≤v.length) then some (.ref h.length,h++[.dct B ((v.take B.length).map .p)]) else none
  |none=>none
 |_,_=>none
theorem BN:∀{B:List cj}{s i:LV}{x:List V},aZ (B.map kV) s->aZ x i->B.length≤x.length->ZipsAt (cq g w) s i (B.zip i)/\L2.KV (B.zip x) (B.zip i)
 | [],_,i,x,h,_,_=>by cases h;exact⟨.nil,.nil⟩
 |k::B,_,_,[],h,_,l=>absurd l (by simp)
 |k::B,_,_,y::x,h,e,l=>by
  cases h with
  |cons r t=>
   cases e with
   |cons n f=>obtain⟨a,b⟩:=BN (g:=g) (w:=w) t f (by simpa using l);exact⟨.cons (o8 r) a,.cons ⟨rfl,n⟩ b⟩
theorem nU:∀{xs:List L}{ys:List n},xs.length≤ys.length->(xs.zip ys).map (·.1)=xs/\(xs.zip ys).map (·.2)=ys.take xs.length
 | [],ys,_=>by simp
 |x::xs,[],h=>absurd h (by simp)
 |x::xs,y::ys,h=>by obtain⟨a,b⟩:=nU (xs:=xs) (ys:=ys) (by simpa using h);simp[a,b]
section
variable{X:Cx}{a b:Expr}{fa fb:EV}{p G N v:Pos}
set_option tactic.hygienic true in
theorem Ly(hc:X.c=true)(gd:Gl X "dict")(md:X.g "dict"=none)(gz:Gl X "zip")(mz:X.g "zip"=none)(ha:PE X a (tV X.K fa))(hb:PE X b (tV X.K fb))(hs:starEach [a,b] X.e=[(false,eval a X.e),(false,eval b X.e)])(W:starEach [b] X.e=[(false,eval b X.e)])(hz:bootBuiltins "zip"=some (.type "zip")) :
  PE X (.Call (.Name "dict" p) [.Call (.Name "zip" G) [a,b] [] v] [] N) (tE X.K (zu fa fb)):=by
 intro pins s σ H Q I ⟨F,m,L,S,d,S',r,l,q,k⟩;obtain⟨x,S1,e1,q⟩:=ah q;obtain⟨y,S2,e2,q⟩:=ah q;have hh:X.A.handled=none:=I.o.hd hc;refine l0 (mh I gd md Iz ?_ (by decide) (by decide));refine mJ (fB ?_) rfl rfl;refine l0 (mh I gz mz hz ?_ (by decide) (by decide));refine mJ ?_ (by rw [hs,W]) (by rw [W];rfl);rw [hs];refine fB (du (ha pins s σ H (fun h g=>∃n P,Stp F m H n P g/\Rel X.K n g P S1/\RP X.K n g x h) I ⟨F,m,L,S,x,S1,r,l,e1,fun h n P g s1 r1 p1=>⟨n,P,s1,r1,p1⟩⟩) fun u s1 ⟨h,g,I1,ru,n,P,st1,r1,p1⟩=>
  fB (du (hb pins s1 σ g (λh C=>∃f D,Stp n P g f D C/\Rel X.K f C D S2/\RP X.K f C y h) I1 ⟨n,P,L,S1,y,S2,r1,l.mono st1,e2,λh f D C E r2 G=>⟨f,D,E,r2,G⟩⟩) λu2 E ⟨v2,C,M,ru2,f,D,st2,r2,G⟩=>iT ?_))
 cases x with
 |lst ks=>
  cases y with
  |tup vs=>
   dsimp only at q;cases ek:dM ks with
   |none=>rw[ek]at q;cases q
   |some B=>
    rw[ek]at q;dsimp only at q;split at q
    .rename_i c;cases q;obtain⟨ax,xs,rfl,hq,rp⟩:=RP.mono st2 p1;obtain⟨ay,ys,rfl,ta,rq⟩:=G;cases (show u=Value.ref ax from ru);cases (show u2=Value.ref ay from ru2);obtain⟨z1,Z,n1,rx,V,ex⟩:=M.lstM hq.2;obtain⟨i,ry,ity,hzy⟩:=M.tuple ta.sq;have exs:=jx ek rp;subst exs;have K:B.length≤ys.length:=by rw[<- rq.length];exact c.2.2
     obtain⟨za,zk⟩:=BN (g:=X.p) (w:=X.w) rx ry K;have hl2:B.length≤i.length:=by rw[<- ry.length];exact K
     obtain⟨zf1,zf2⟩:=nU (xs:=B) (ys:=ys) K;obtain⟨A,_⟩:=nU (xs:=B) (ys:=i) hl2;have R:(B.zip i).length=Z.toArray.size:=by have:=js qd A;rw[bn]at this;rw[this,a7,<- V,bn]
     have hkz:(B.zip i).length≤sizeLine:=by rw[R,a7,<- V];exact z1
     have T:E.heap.IsList ax Z.toArray:=⟨_,ex,rfl,n1,rfl⟩;refine yj T ity λe i1 i2 TI TO z k0 a1 a2 a3 a4 a5 b1 b2 b3 b4 b5=>iT ?_;refine tS (t:=cq X.p X.w) (s:={ E with heap:=e }) (k:=E.heap) hh k0 T ity a1 a2 a3 a4 a5 b1 b2 b3 b4 b5 (by simpa using za) (by rw[A];exact c.1) hkz R λh'' t' k1 dd=>?_;have j:E.heap.objs.size≤e.objs.size:=g9 (jX a1 (lq a2 (lq a3 (lq a4 (lq a5 (aM b5))))));have hf:C e.objs.size=none:=M.h.fresh j;have hsm:(e.objs.size == sysModules)=false:=by have:=M.big;simp only[oU];exact cm (bN this j)
     have hkv:(B.zip ys).length≤sizeLine:=by have e1:=js qd zf1;have e2:=js qd A;rw[bn]at e1 e2;lia
     have I3:=M.laid (a:=e.objs.size) (o:=.dK (B.zip ys)) (t':=t') k1 j ⟨hkv,hsm,_,zk,dd⟩;refine⟨.ref e.objs.size,_,I3,rfl,k (.ref e.objs.size) f (D++[e.objs.size]) _ (st1.trans (st2.trans (fJ hf))) (r2.own hf ⟨_,aJ,zf1,?_⟩) ⟨e.objs.size,rfl,?_⟩⟩
     .rw [zf2,u6];exact(dA.mono (fJ hf) (dA.ofP rq)).take _
     .rw [<- r2.len,cB (al _)];simp
    .cases q
  |_=>cases q
 |_=>cases y<;>cases q
end
end Ev
namespace Kd
open PySem
open Sem (wp)
structure Fix(o' o:Obj):Prop where
 dict:o'.dict=o.dict
 cls:o'.cls=o.cls
 live:o.isFreed=false->o'.isFreed=false
 two:∀vs,o.data=.fields vs->∃vs',o'.data=.fields vs'/\vs'[2]? = vs[2]?
 sl:(∀vs,o.data≠.fields vs)->∃sl,o'={ o with slots:=sl }
variable{o:Obj}
theorem Fix.refl:Fix o o:=⟨rfl,rfl,id,λv e=>⟨v,e,rfl⟩,λ_=>⟨o.slots,rfl⟩⟩
theorem Fix.trans (y:Fix b k) (x:Fix k o):Fix b o:=⟨y.dict.trans x.dict,y.cls.trans x.cls,fun h=>y.live (x.live h),fun v e=>by
 obtain⟨v1,a,q⟩:=x.two v e;obtain⟨v2,s,f⟩:=y.two v1 a;exact⟨v2,s,f.trans q⟩,λn=>by
 obtain⟨m,a⟩:=x.sl n;obtain⟨c,s⟩:=y.sl (by rw[a];exact n);exact⟨c,by rw[s,a]⟩⟩
inductive Kp{α:Type}:Sem α->Prop
 |pure (a:α):Kp (.pure a)
 |raise (e:Value):Kp (.raise e)
 |unsupported (w:String):Kp (.unsupported w)
 |finish (e:Ending):Kp (.finish e)
 |rule {t k}:(∀x,Kp (k x))->Kp (.rule t k)
 |at {p k}:(∀x,Kp (k x))->Kp (.at p k)
 |load {a p k}:(∀x,Kp (k x))->Kp (.load a p k)
 |update {a p f k}:(∀o,Fix (f o) o)->(∀x,Kp (k x))->Kp (.update a p f k)
 |alloc {o k}:(∀x,Kp (k x))->Kp (.alloc o k)
 |loadIfAlive {a k}:(∀x,Kp (k x))->Kp (.loadIfAlive a k)
 |point {l k}:(∀x,Kp (k x))->Kp (.point l k)
 |fresh {k}:(∀x,Kp (k x))->Kp (.fresh k)
 |ask {k}:(∀x,Kp (k x))->Kp (.ask k)
 |handled {o k}:(∀x,Kp (k x))->Kp (.handled o k)
 |stack {k}:(∀x,Kp (k x))->Kp (.stack k)
 |thread {k}:(∀x,Kp (k x))->Kp (.thread k)
variable{α:Type}{t:Sem α}
theorem Kp.bind(h:Kp t)(g:∀a,Kp (f a)):Kp (t >>= f):=by
 show Kp (Sem.bind t f);induction h with
 |pure a=>exact g a
 |raise e=>exact .raise e
 |unsupported w=>exact .unsupported w
 |finish e=>exact .finish e
 |rule _ i=>exact .rule i
 | «at» _ i=>exact .at i
 |load _ i=>exact .load i
 |update q _ i=>exact .update q i
 |alloc _ i=>exact .alloc i
 |loadIfAlive _ i=>exact .loadIfAlive i
 |point _ i=>exact .point i
 |fresh _ i=>exact .fresh i
 |ask _ i=>exact .ask i
 |handled _ i=>exact .handled i
 |stack _ i=>exact .stack i
 |thread _ i=>exact .thread i
def DK(h a:Heap):Prop:=∀b o,h.get? b=some o->∃x,a.get? b=some x/\Fix x o
variable{h:Heap}
theorem DK.refl:DK h h:=λb o e=>⟨o,e,.refl⟩
theorem DK.trans(x:DK h k)(y:DK k c):DK h c:=λb o e=>by obtain⟨m,a,f⟩:=x b o e;obtain⟨r,s,n⟩:=y b m a;exact⟨r,s,n.trans f⟩
theorem DK.push:DK h (h.push o):=λb u e=>⟨u,bg _ e,.refl⟩
theorem DK.up(x:DK h k):h.UpToSlots k:=λb o e n=>by obtain⟨c,a,f⟩:=x b o e;obtain⟨s,q⟩:=f.sl n;exact⟨s,by rw[a,q]⟩
theorem alive(e:h.get? a=some o):o.isFreed=false:=(BM.mp e).2
theorem DK.upd(q:∀o,Fix (f o) o):DK h (h.update a f):=λb o e=>by
 by_cases x:b=a
 .subst x;exact⟨f o,jM _ e ((q o).live (alive e)),q o⟩
 .exact⟨o,by rw[jN _ _ (aC x)];exact e,.refl⟩
theorem Kp.wp(h:Kp t):∀{Q:α->Pos->Shared->Prop}{E:Value->Pos->Shared->Prop}{p:Pos}{s:Shared},Sem.wp k b t Q E p s->Sem.wp k b t (λa f n=>Q a f n/\DK s.heap n.heap) (λe f n=>E e f n/\DK s.heap n.heap) p s:=by
 induction h with
 |pure a=>intro Q E p s x;exact⟨x,.refl⟩
 |raise e=>intro Q E p s x;exact⟨x,.refl⟩
 |unsupported w=>intro Q E p s x;exact x
 |finish e=>intro Q E p s x;exact x
 |rule _ i=>intro Q E p s x;exact i _ x
 | «at» _ i=>intro Q E p s x;exact i _ x
 |load _ i=>intro Q E p s x;obtain⟨o,e,x⟩:=x;exact⟨o,e,i _ x⟩
 |update q _ i=>intro Q E p s x;obtain⟨e,x⟩:=x;refine⟨e,?_⟩;refine Sem.wp_mono _ _ _ (λa f n z=>⟨z.1,(DK.upd q).trans z.2⟩) (λa f n z=>⟨z.1,(DK.upd q).trans z.2⟩) _ _ (i () x)
 |alloc _ i=>intro Q E p s x;exact Sem.wp_mono _ _ _ (λa f n z=>⟨z.1,DK.push.trans z.2⟩) (λa f n z=>⟨z.1,DK.push.trans z.2⟩) _ _ (i _ x)
 |loadIfAlive _ i=>intro Q E p s x;exact i _ x
 |point _ i=>intro Q E p s x;exact i _ x
 |fresh _ i=>intro Q E p s x;exact i _ x
 |ask _ i=>intro Q E p s x;exact i _ x
 |handled _ i=>intro Q E p s x;exact i _ x
 |stack _ i=>intro Q E p s x;exact i _ x
 |thread _ i=>intro Q E p s x;exact i _ x
theorem Kp.wpAny(h:Kp t)(x:Er k A t b E s):Er k A t (λa n=>b a n/\DK s.heap n.heap) (λe n=>E e n/\DK s.heap n.heap) s:=λf p g=>h.wp (x f p g)
theorem mf(h:k≠2)(x:Value)(o:Obj):Fix (fA (·.setIfInBounds k x) o) o:=by
 unfold fA;split
 .exact⟨rfl,rfl,λ_=>rfl,λv e=>by cases e;exact⟨_,rfl,by rw[Array.getElem?_setIfInBounds_ne h]⟩,λn=>absurd rfl (n _)⟩
 .exact .refl
theorem zg(a:Addr):Kp (PySem.load a):=.load λx=>.pure x
theorem zh(v:Value):Kp (fieldsOf v):=by
 unfold fieldsOf;split
 .refine .bind (zg _) λo=>?_;split
  .exact .pure _
  .exact .unsupported _
 .exact .unsupported _
theorem nh(v:Value)(i:Nat):Kp (field v i):=by
 unfold field;refine .bind (zh v) λs=>?_
 split
 .exact .pure _
 .exact .unsupported _
theorem mi(v:Value)(h:k≠2)(x:Value):Kp (setField v k x):=by
 unfold setField;split
 .unfold updateField;refine .bind (zg _) λo=>?_
  split
  .split
   .exact .update (mf h _) λx=>.pure x
   .exact .unsupported _
  .exact .unsupported _
 .exact .unsupported _
theorem gI(e:Value)(f:Option Addr):Kp (setFlight e f):=by
 unfold setFlight;refine .bind (nh _ _) λt=>?_
 split
 .exact mi _ (by decide) _
 .exact .pure _
theorem Cv:∀l:List Env,Kp (readyFrames l)
 | []=>.pure ()
 |n::u=>by
  unfold readyFrames;split
  .refine .bind (zg _) λo=>?_;split
   .exact .pure _
   .refine .bind ?_ λb=>.bind ?_ λc=>?_
    .unfold behindIsImport;split
     .exact .pure _
     .split
      .exact .pure _
      .exact .bind (nh _ _) λx=>.pure _
    .unfold keptBack;split
     .split
      .exact .pure _
      .exact .bind (.bind (.stack λx=>.pure x) λ_=>.pure _) λ_=>.pure _
     .exact .pure _
    .exact .bind (.update (λo=>⟨rfl,rfl,λh=>by obtain⟨c,d,t,s⟩:=o;cases t<;>first|exact h|rfl,λv e=>⟨v,e,rfl⟩,λ_=>⟨_,rfl⟩⟩) λx=>.pure x) λ_=>Cv u
  .exact .unsupported _
theorem DC(e:Env):Kp (frameOf e):=by
 unfold frameOf;refine .bind (.bind (.stack λx=>.pure x) λ_=>.pure _) λl=>.bind ?_ λz=>?_
 .unfold frameObject;split
  .exact .pure _
  .exact .bind (Cv _) λ_=>.pure _
 .split
  .exact .pure _
  .exact .unsupported _
theorem kS(e:Value)(n:Env):Kp (noteFrame e n):=by
 unfold noteFrame;have t:∀(h:Value)(f:Addr),Kp (do setField e 1 (<- EntryCells.newEntry h (<- frameOf n) .none (rawInt f) .none (<- entryPlaceOf f (h != .none)))):=λh f=>by
  refine .bind (DC n) λr=>.bind ?_ λp=>.bind ?_ λs=>mi _ (by decide) _
  .unfold entryPlaceOf;refine .bind (.stack λx=>.pure x) λa=>?_
   split<;>exact .pure _
  .unfold EntryCells.newEntry newFields;generalize List.toArray _=v;unfold newObj;dsimp only;have w:∀d,Kp (newObjAsIs (.type "traceback") d):=λd=>.bind (.alloc λx=>.pure x) λ_=>.pure _
   split
   .exact .bind (.unsupported _) λ_=>w _
   .exact w _
 split
 .refine .bind (nh _ _) λh=>?_;split
  .refine .bind (nh _ _) λz=>?_;split
   .exact .pure _
   .exact .bind (mi _ (by decide) _) λ_=>t _ _
  .exact t _ _
 .exact .unsupported _
theorem oz(n:Env)(e:Value):Kp (leaving n e):=.bind (kS e n) λ_=>gI e none
end Kd
namespace Kx
open PySem PySem.W PySem.Builtin PySem.Builtin.ObjectAttr
noncomputable def wa:LV->Bool
 | .ref _::r=>wa r
 |l=>l == [.type "ValueError",.type "Exception",.type "BaseException",.type "object"]
theorem xA(s:Value):∀{l:LV},wa l=true->refuseLoop s "__setattr__" l=pure ()/\l.contains (.type "object")=true/\l.isEmpty=false:=by
 intro l e;induction l with
 |nil=>cases e
 |cons c r i=>
  by_cases q:∃a,c=.ref a
  .obtain⟨a,rfl⟩:=q;obtain⟨x,n,_⟩:=i e;exact⟨by rw[refuseLoop_ref];exact x,by rw[vf,n,AB],rfl⟩
  .have h:(c::r)=[.type "ValueError",.type "Exception",.type "BaseException",.type "object"]:=by
    cases c with
    |ref a=>exact absurd ⟨a,rfl⟩ q
    |_=>exact eq_of_beq e
   rw[h];exact⟨PySem.F.store_ValueError.passes s,by decide +kernel,rfl⟩
section
variable{Pg:Program}{w:World}{A:Around}{Ex:VP}{u:Shared}{K:Frag}{x C:Addr}{R:Result->Shared->Prop}{z:Str}{v:Value}{tk:Tok}
theorem Dm(X:K.In u.heap)(j:u.heap.get? x=some N)(l:N.cls=.ref C)(Q:notCls N=true)(hd:N.dict=none)(E:clsIn K C=some T)(i:T.hasDict=true)(ho:wa T.mro=true)
  (hs:findIn K (.ref C) "__setattr__"=some (some (.builtin "object.__setattr__"))) (ha:findIn K (.ref C) z=some none)
  (h:∀F L,F.get? x=some { N with dict:=some u.heap.objs.size }->F.Ns1 u.heap.objs.size (λy=>if y=z then some v else none)->(∀b o,b≠x->u.heap.get? b=some o->F.get? b=some o)->k () { u with heap:=F,toks:=L }) :
  wpAny (model Pg w) A (setAttr (.ref x) z v) k Ex u:=by
 obtain⟨c0,d0,q,I⟩:=N;dsimp only at l hd;subst l hd;have p:InstAt u.heap x ⟨.ref C,none,q,I⟩ C none:=⟨j,rfl,Q,trivial⟩;have d:=PySem.F.store_object;obtain⟨p1,p2,p3⟩:=xA (.ref x) ho;have mo:Looks (model Pg w) u.heap (mroOf (.ref C)) T.mro:=(vu X E).andThen .now;refine Bw X p hs (uX d.slot.plain d.entry (@check_slot (model Pg w) _ _ { u with toks:=u.toks+1 } "object.__setattr__" "object" "__setattr__" (.ref x) [.str z u.toks,v] [] _ d.kind d.split
  (p.type.andThen (qB X (by unfold mroIn;rw[E,jP,au (by rw[p3];decide),p2]))) (d.args (.ref x) (.str z u.toks) v) ?_))
 rw [osa_eq,refuse_eq];refine aa (aa (p.type.here (s:={ u with toks:=u.toks+1 }) (aa (pY (s:={ u with toks:=u.toks+1 }) mo ?_))));rw [p1];refine aj (aa (p.type.here (s:={ u with toks:=u.toks+1 }) (aa (pY (s:={ u with toks:=u.toks+1 }) (jZ X ha) (aa (aj ?_))))));have R:(u.heap.push { cls:=.type "dict",data:=.dict #[] }).get? x=some ⟨.ref C,none,q,I⟩:=bg _ j;have V:x≠u.heap.objs.size:=bo (aM j);refine aa (aj (aa (aa (Eg j (aa (pY (s:={ u with toks:=u.toks+1 }) (vu X E) ?_))))));rw [i];have H:=(BM.mp j).2;have S:wpAny (model Pg w) A.in1 (do
   let n <- alloc { cls:=Value.type "dict",data:=Data.dict #[] }
   update x λo=>{ cls:=o.cls,dict:=some n,data:=o.data,slots:=o.slots }
   dictMade (Value.ref C) x n) (fun a m=>wpAny (model Pg w) A.in1 (match a with
     |some n=>storeInDict n (Value.str z u.toks) z v
     |none=>noDictFor (Value.ref x) (Value.ref C) z false) (λB m=>match B with
      |Fin.done f=>match (Except.ok f:Result) with
       |Except.ok (Flow.ret v)=>k () m
       |Except.ok a=>False
       |Except.error e=>Ex e m
      | Fin.again M=>M.quiet=true/\codeAny (model Pg w) A M (fun r m=>match r with
        |Except.ok (Flow.ret v)=>k () m
        |Except.ok a=>False
        |Except.error e=>Ex e m) m) (λe m=>Ex e m) m) (λe m=>Ex e m) { u with toks:=u.toks+1 }:=by
  refine aa (wpAny_alloc' (aa (Ef R (aa (aj (aj ?_))))));generalize G:(u.heap.push { cls:=Value.type "dict",data:=Data.dict #[] }).update x (λo=>{ cls:=o.cls,dict:=some u.heap.objs.size,data:=o.data,slots:=o.slots })=g;have W:g.get? u.heap.objs.size=some { cls:=.type "dict",data:=.dict #[] }:=by rw[<- G,jN _ _ V];exact dD _ rfl
  have Z:g.get? x=some ⟨.ref C,some u.heap.objs.size,q,I⟩:=by rw[<- G];exact jM _ R (by cases q<;>first|rfl|exact H)
  have e3:∀b o,b≠x->u.heap.get? b=some o->g.get? b=some o:=λb o D e=>by rw[<- G,jN _ _ (aC D)];exact bg _ e
  have P:g.Ns u.heap.objs.size (λ_=>none):=⟨_,#[],_,W,rfl,λe he=>absurd he (by simp),λ_=>rfl⟩;show wpAny _ _ (storeInDict u.heap.objs.size (.str z u.toks) z v) _ _ { u with heap:=g,toks:=u.toks+1 }
  delta storeInDict newKeyGuard
  refine aa (aj (aa (wpAny_nsSet1 (Heap.Ns1.of_empty P) λh3 t same=>?_)));obtain⟨oD,esD,epD,q1,q2,q3⟩:=t.count (Within.cons z v Within.nil);refine aa (En q1 (by rw[q2];exact Ej (aF q3 (by rw[aQ,u_,lX];lia))) ?_);exact aj (h h3 _ ((same.2 x V).trans Z) t λb o D e=>(same.2 b (bo (aM e))).trans (e3 b o D e))
 cases q with
 |cls c=>cases Q
 |_=>exact S
theorem DO(s:findIn K (.ref C) "__getattribute__"=some (some (.builtin "BaseException.__getattribute__")))(h:findIn K (.ref C) "__getattr__"=some none)(a:mroIn K C (.type "BaseException")=some true)
  (i:K.In u.heap) (I:InstAt u.heap x N C (some od)) (H:findObj K C (some od) z=some (.value v)) (S:handedIn v=true) (l:k v { u with toks:=u.toks+1 }):wpAny (model Pg w) A (getAttr (.ref x) z c) k Ex u:=by
 have T:Looks (model Pg w) u.heap (typeOf (.ref x)) (.ref C):=I.type;have f:=qB (M:=model Pg w) i a;have b:=jZ (M:=model Pg w) i s;have n:=jZ (M:=model Pg w) i h;have q:=looks_find (M:=model Pg w) i I H;have m:∀B:Around,∀tk:Tok,∀y:Shared,y.heap=u.heap->codeAny (model Pg w) B (.call (.builtin "BaseException.__getattribute__") ⟨[.ref x,.str z tk],[]⟩) (λr G=>r=.ok (.ret v)/\G=y) y:=λB tk y F=>by
  obtain⟨p,g,d,t,os⟩:=y;cases (show p=u.heap from F);have P:builtinKind "BaseException.__getattribute__"=some .slot:=by decide +kernel
  have E:splitId "BaseException.__getattribute__"=some ("BaseException","__getattribute__"):=by decide +kernel
  refine uX (by decide +kernel) Ag ?_;have j:=Af (.ref x) (.str z tk);simp only[checkBuiltinCall,P,E,isInstance];refine aa (aa (T.at (f.at ?_)));simp only[AC,jQ,ik];refine wpAny_of_eq j ?_;refine aa (aj (aa (aj (aa (T.at (aa (q.at ?_)))))));exact aj ⟨rfl,rfl⟩
 obtain⟨p,g,d,t,os⟩:=u;simp only[getAttr,getAttrBy];refine aa (wpAny_mkText (db (aa (T.at (aa (b.at ?_))))));have o:(onTheHeap (Value.ref C) && Value.builtin "BaseException.__getattribute__" == Value.builtin "object.__getattribute__")=false:=by rw[show(Value.builtin "BaseException.__getattribute__" == Value.builtin "object.__getattribute__")=false by decide +kernel];rfl
 simp only[o,getAttrByItsOwn,hookBefore,jQ,ik];refine aa (wpAny_ite ?_);rw[am (show onTheHeap (Value.ref C)=true from rfl)];refine n.at (aa (uJ (db ?_)));have bound:=As.ga.bind (.ref x);have D:(c && onTheHeap (Value.builtin "BaseException.__getattribute__"))=false:=by cases c<;>rfl
 simp only[callGetattribute,boundAndCalled,D,jQ,ik,bound];refine aa (aj (kE (kF (m A t ⟨p,g,d,t+1,os⟩ rfl) λr y e=>?_)));obtain⟨rfl,rfl⟩:=e;exact Bv S l
end
open PySem PySem.W
noncomputable abbrev JO:LV:=[.type "ValueError",.type "Exception",.type "BaseException",.type "object"]
def XO(o:Obj)(C N:Addr)(t:LV):Prop:=∃n q bs hd f sub a c d k h x e s,o=excClassObj n q C N bs t hd f sub a c d k h x e s "ValueError.__new__"
structure XH(h:Heap)(C N fI:Addr)(tl:LV)(mp:SV)(o oI:Obj):Prop where
 shape:XO o C N tl
 lies:h.get? C=some o
 under:OwnTail h JO tl
 names:h.Ns N mp
 init:mp "__init__"=some (.ref fI)
 code:h.get? fI=some oI
 fn:oI.cls=.type "function"
theorem Dz(q:XH u.heap C N fI tl mp o oI)(hz:vs.length≤sizeLine)
  (go:∀h' e,uF u.heap h' e (.ref C) vs->wpAny (model Pg w) A (call (.ref fI) (.ref e::vs)) (λr u'=>r=.none/\R (.done (.ret (.ref e))) u') Ex { u with heap:=h' }) :
  wpAny (model Pg w) A (Builtin.«type.__call__» ⟨.ref C::vs,[]⟩) R Ex u:=by
 obtain⟨h,gs,dr,tk,os⟩:=u;obtain⟨⟨nm,qn,bs,hd,sn,sub,ab,col,dd,k0,k1,k2,k3,k5,rfl⟩,lies,under,names,init,code,fn⟩:=q;have F:=pX;repeat (first|with_reducible refine nR lies ?_|with_reducible refine wpAny_madeBy_exc lies ?_|wp_step)
 refine codeAny_call_builtin_code (uU _ F.quiet) (wpAny_check_new_subT F under lies (codeAny_exc_new_subT F under lies ?_ hz));show wpAny _ _ _ _ _ _;generalize hg:(h.push { cls:=.type "tuple",data:=.seq vs.toArray }).push { cls:=.ref C,data:=.fields #[.ref h.objs.size,.none,.none,.none,.bool false,.none] }=h2;have kp:∀b x,h.get? b=some x->h2.get? b=some x:=λb x e=>by rw[<- hg];exact bg _ (bg _ e)
 have new:h2.get? (h.objs.size+1)=some { cls:=.ref C,data:=.fields #[.ref h.objs.size,.none,.none,.none,.bool false,.none] }:=by rw[<- hg];heap_get
 have tup:h2.get? h.objs.size=some { cls:=.type "tuple",data:=.seq vs.toArray }:=by rw[<- hg];exact bg _ (Heap.get?_push_at rfl rfl)
 have l2:=kp _ _ lies;have self:(Value.ref C::tl).contains (.ref C)=true:=by simp
 unfold isInstance;repeat (first|with_reducible refine nR new ?_|(with_reducible refine Ey l2 ?_;rw[self])|wp_step)
 show wpAny _ _ (typeLookup _ _) _ _ _;refine wpAny_typeLookup_tail l2 (names.keeps kp) (under.keeps kp) F.mroIs F.init.lookup ?_;rw[init];refine db (aa ?_);unfold bindSpecial;refine aa (nQ (T:="function") ⟨_,kp _ _ code,fn⟩ ?_);rw[am (by decide)];refine aj (aa (aU (go h2 (h.objs.size+1) ⟨kp,yA (lp _),h.objs.size,new,yA (al _),tup⟩) (λr u' hr=>?_) λ_ _ x=>x));obtain⟨rfl,hQ⟩:=hr
 wp_walk
 exact hQ
end Kx
namespace PySem
theorem F.entry_unchain:entryFor table "proto.unchain"=some Builtin.«proto.unchain»:=Ei (by kernel_rfl)
theorem F.plain_unchain:plainId "proto.unchain"=true:=by decide +kernel
section
variable{i:Program}{w:World}{A:Around}{E:VP}{s:Shared}
theorem xx(n:s.heap.get? a=some o)(hd:o.data=.fields b)(x:b[2]? = some .none)(h:k .none s):wpAny (model i w) A (runValue (.builtin "proto.unchain" ⟨[e,.ref a,.ref a,.bool false],[]⟩)) k E s:=by refine wpAny_runValue ?_;refine uM F.entry_unchain ?_;rw[uW F.plain_unchain _];unfold Builtin.«proto.unchain»;refine aa (c_ n hd x ?_);exact aj h
theorem vY(f:A.handled=some (.ref a))(m:a≠b)(c:s.heap.get? a=some o)(hd:o.data=.fields q)(x:q[2]? = some .none)(e:s.heap.get? b=some r)(hw:r.data=.fields l)(z:2 < l.size)
  (h:E (.ref b) { s with heap:=s.heap.update b (fA (·.setIfInBounds 2 (.ref a))) }):wpAny (model i w) A (raiseNew (.ref b):Sem α) k E s:=by
 unfold raiseNew;refine aa (wpAny_handled ?hd);rw[f];have n:(Value.ref a != Value.ref b)=true:=by simp[m]
 simp only[n,kJ];refine aa (db (xx c hd x (aa ?_)));unfold updateField;refine aa (wpAny_load e ?_);rw[hw];dsimp only;rw[am z];exact Ef e (wpAny_throw h)
end
end PySem
namespace Kx
open PySem PySem.W
theorem rK(I:XO oC C N T)(n:T.contains (.type "BaseException")=true)(E:A.handled=some (.ref a))
  (D:∀(u:Shared)(R:VP),R .none u->wpAny (model Pg w) A c R Ex u)
  (h:wpAny (model Pg w) A x (fun v u=>∃b t s l o i,v=.ref b/\a≠b/\u.heap.get? C=some oC /\
   u.heap.get? b=some { cls:=.ref C,dict:=s,data:=.fields #[.ref t,.none,.none,.none,.bool false,.none],slots:=l }/\u.heap.get? a=some o/\o.data=.fields i/\i[2]? = some .none /\
   ∀f,f.get? b=some { cls:=.ref C,dict:=s,data:=.fields #[.ref t,.none,.ref a,.none,.bool true,.none],slots:=l }->(∀d y,d≠b->u.heap.get? d=some y->f.get? d=some y)->Ex (.ref b) { u with heap:=f }) Ex u) :
  wpAny (model Pg w) A (raiseStmt env (some x) (some c)) R Ex u:=by
 obtain⟨nm,qn,bs,hd,sn,sub,L,K,M,W,X,Z,k3,k5,rfl⟩:=I;have under:(Value.ref C::T).contains (.type "BaseException")=true:=by rw[vf,n,AB]
 unfold raiseStmt;refine aa (aU h (λv g z=>?_) λ_ _ x=>x);obtain⟨b,t,s,l,o,i,rfl,S,k,p,G,hd,B,P⟩:=z;obtain⟨j,V,Q,tk,os⟩:=g;refine aa (db (D _ _ (aa (aj ?_))));have r:C≠b:=λz=>by rw[z]at k;rw[p]at k;cases k
 have g:=jM (fA (·.setIfInBounds 3 Value.none)) p rfl;have F:=jM (fA (·.setIfInBounds 4 (Value.bool true))) g rfl;have q:∀d y,d≠b->j.get? d=some y->((j.update b (fA (·.setIfInBounds 3 Value.none))).update b (fA (·.setIfInBounds 4 (Value.bool true)))).get? d=some y:=λd y z e=>by rw[jN _ _ (aC z),jN _ _ (aC z)];exact e
 have m:=q C _ r k;have H:({ cls:=.ref C,dict:=s,data:=.fields #[.ref t,.none,.none,.none,.bool false,.none],slots:=l }:Obj).isFreed=false:=rfl;repeat (first|with_reducible refine nR p ?_|with_reducible refine nR k ?_|with_reducible refine nR m ?_|(with_reducible refine Ey k ?_;rw[under])|wp_step)
 refine vY E S (q a _ S G) hd B F rfl (by simp) (P _ (jM _ F rfl) λd y z e=>?_);rw[jN _ _ (aC z)];exact q d y z e
theorem DP(plain:(backTo c (starEach k b)).any (·.1)=false)
  (h:wpAny (model Pg w) A (eval (.Name x np) b) (fun f p=>f=.ref C/\wpAny (model Pg w) A (evalArgs (.ref C) true (backTo c (starEach k b)) []) (fun a s=>a.kw=[]/\a.pos.length≤sizeLine/\XH s.heap C N T tl mp o oI /\
   ∀n e,uF s.heap n e (.ref C) a.pos->wpAny (model Pg w) (A.under (.builtin "type.__call__" ⟨.ref C::a.pos,[]⟩)) (call (.ref T) (.ref e::a.pos)) (λr t=>r=.none/\R (.ref e) t) Ex { s with heap:=n }) Ex p) Ex u) :
  wpAny (model Pg w) A (eval (.Call (.Name x np) k [] c) b) R Ex u:=by
 refine wpAny_Call_ofName (aU h (λf p z=>?_) λ_ _ x=>x);obtain⟨rfl,z⟩:=z;unfold callWith;refine aa (db (aU z (λa s K=>aa (lY ?_)) λ_ _ x=>x));obtain⟨F,H⟩:=a;obtain⟨rfl,y,q,g⟩:=(show H=[]/\_ from K);have S:=q;obtain⟨⟨W,X,bs,hd,Z,sub,P,v,B,I,L,M,Q,V,rfl⟩,l,_⟩:=q;obtain⟨j,i,d,tk,os⟩:=s;simp only[plain];refine aa (wpAny_keeperOf_exc l (aa ?_));have D:=tc_lookup;have E:=tc_bind (.ref C);have G:(⟨j,i,d,tk,os⟩:Shared).TypeIs (.ref C) "type":=⟨_,l,rfl⟩;refine kE (codeAny_of_tree ?_);show wpAny _ _ (callAny (.ref C) ⟨[]++F,[]⟩) _ _ _;repeat (any_goals (first|assumption|with_reducible refine nR l ?_|wp_step))
 refine⟨rfl,codeAny_call_builtin_at (uU _ (by decide +kernel)) entry_typeCall (wpAny_check_type_call_sub l (Dz S y λn e m=>aU (g n e m) (λr t z=>⟨z.1,?_⟩) λ_ _ z=>z))⟩;exact aa (db (wpAny_point (aj z.2)))
end Kx
namespace PySem
section
variable{Md:Model}{A:Around}{Ex:VP}{u:Shared}
theorem DI{v:Env}(D:v.frame=some k)(E:qI n l e q N k u.heap)(Q:∀i,qI n l e q N k i->r () { u with heap:=i }) :
  wpAny Md A (do
   if (<- field (.ref e) 1) == .none then unsupported "frame.own-activation:exception-without-traceback"
   setFlight (.ref e) v.frame) r Ex u:=by
 obtain⟨F,K,P,I,R,T,y,M,m,H,f,g,a,x,p,h,B⟩:=E;refine aa (c_ m f g ?_);rw[au (show ¬(Value.ref T == .none)=true by simp)];unfold setFlight;refine aa (c_ m f g ?_);rw[am (show(Value.ref T != Value.none)=true from by simp),D];have j:=(qa.mp B).1;refine yI p h j (Q _ ?_);have t:∀b,b≠T->(u.heap.update T (fA (·.setIfInBounds 3 (rawInt k)))).get? b=u.heap.get? b:=λb C=>jN _ _ (aC C);have s:=jM (fA (·.setIfInBounds 3 (rawInt k))) p (by obtain⟨c,d,S,L⟩:=y;cases h;rfl);refine⟨λb o z=>(t b λw=>by rw[w,a]at z;cases z).trans (F b o z),K,P.of_keeps λb o z G=>⟨o,(t b λw=>by rw[w,p]at z;cases z;exact G _ h).trans z,rfl⟩,I,R,T,_,M.setIfInBounds 3 (rawInt k),(t e (aC x)).trans m,H,f,g,a,x,s,?_,?_⟩
 .obtain⟨c,d,S,L⟩:=y;cases h;rfl
 .rw [Array.getElem?_setIfInBounds_self_of_lt j]
end
end PySem
namespace Ev
open PySem PySem.Spec PyProof.Rows L2
def KA(a:Addr)(od:Option Addr)(h:Heap):Prop:=∃o v,h.get? a=some o/\o.dict=od/\o.data=.fields v/\(od=none->v[2]? = some .none)
variable{a:Addr}
theorem KA.dk(x:KA a od h)(k:Kd.DK h b):KA a od b:=by obtain⟨o,r,e,d,t,c⟩:=x;obtain⟨n,s,f⟩:=k a o e;obtain⟨v,m,q⟩:=f.two r t;exact⟨n,v,s,f.dict.trans d,m,λz=>q.trans (c z)⟩
def zR(Pg:Program)(w:World):D9:=λt H s E e h=>∃(a:Addr)(c x:Value)(H':Hp)(B:Heap)(od:Option Addr),e=.ref a/\h.os=s.os/\AllBare h.gens/\Un (iK t) [] H H' s.heap h.heap/\kq Pg w H' h.heap/\H' a=none /\
 (∀b o,s.heap.get? b=some o->b ∉ iK t->∃n,B.get? b=some n)/\(∀b o,s.heap.get? b=some o->H b=none->b ∉ iK t->B.get? b=some o)/\(∀b u o,H' b=some u->h.heap.get? b=some o->B.get? b=some o) /\
 lW B t a c x h.heap/\KA a od h.heap/\E c od H'
section
variable{X:Cx}{G:PN}{M:L2.St}{H:Hp}{s:Shared}
structure Leaves(X:Cx)(E:XK):Prop where
 ex:X.ex=[]
 stk:X.k=X.e::X.o
 frm:X.e.frame=some X.e.locals
 xe:X.xe=λe s'=>wx X (leaving X.e e) (λ_ s''=>zR X.p X.w X.o X.y X.z E e s'') (λe' s''=>zR X.p X.w X.o X.y X.z E e' s'') s'
theorem Leaves.mem(l:Leaves X E)(b:Addr):b ∈ iK X.k↔b=X.e.locals\/b ∈ X.fs:=by rw[l.stk];unfold iK;rw[qq,l.frm];exact aP
theorem Leaves.old(l:Leaves X E)(I:Inv X G M H s)(e:X.z.heap.get? b=some o)(n:b ∉ X.fs):b ∉ iK X.k:=λz=>by
 rcases(l.mem b).mp z with rfl|z
 .exact absurd (aM e) (vo.mpr I.o.above)
 .exact n z
theorem Fb{B:Heap}(I:Inv X G M H s)(l:Leaves X E)(u:Un (iK X.k) [] H N s.heap T)(i:X.z.heap.get? x=none)(K:∀b o,b≠x->s.heap.get? b=some o->b ∉ iK X.k->∃y,B.get? b=some y)(P:∀b o,b≠x->s.heap.get? b=some o->H b=none->b ∉ iK X.k->B.get? b=some o)
  (d:B.StaysIn r) (p:T.UpToSlots r):Un (iK X.o) [] X.y N X.z.heap r:=by
 have a:Un X.fs [] X.y H X.z.heap s.heap:=by have:=I.base;rw[l.ex]at this;exact this
 have j:∀b o,X.z.heap.get? b=some o->X.y b=none->b ∈ X.fs->∃p,r.get? b=some { o with slots:=p }:=λb o e n h=>by
  obtain⟨q,k⟩:=a.slot b o e n h (by simp);have L:=a.free b o e n (by simp);obtain⟨V,f⟩:=u.slot b _ k L ((l.mem b).mpr (.inr h)) (by simp);have Q:∀g,o.data≠.fields g:=λg z=>by obtain⟨_,y,c,m⟩:=I.o.funs.mem h;rw[e]at c;cases c;exact m g z
  obtain⟨w,A⟩:=p b _ f Q;exact⟨w,A⟩
 refine⟨λb o e n h _=>?_,λb o e n h _=>j b o e n h,λb o e n W=>?_,λb o e _=>?_,λb F e=>u.tups b F (a.tups b F e),λb o v e=>u.frzs b o v (a.frzs b o v e),λb R e=>?_⟩
 .exact d b o (P b o (λz=>by rw[z,i]at e;cases e) (a.keep b o e n h (by simp)) (a.free b o e n (by simp)) (l.old I e h))
 .obtain⟨t,k⟩:=a.there b o e (by simp);exact u.free b t k (a.free b o e n (by simp)) (by simp)
 .by_cases h:b ∈ X.fs
  .obtain⟨q,k⟩:=j b o e (I.o.frf b h) h;exact⟨_,k⟩
  .obtain⟨t,k⟩:=a.there b o e (by simp);obtain⟨S,f⟩:=K b t (λz=>by rw[z,i]at e;cases e) k (l.old I e h);exact⟨S,d b S f⟩
 .obtain⟨C,k⟩:=a.tbls b R e;obtain⟨D,f⟩:=u.tbls b _ k;exact⟨C++D,by rw[f,AX]⟩
theorem xT{B:Heap}(a:kq X.p X.w k r)(x:∀b u o,k b=some u->r.get? b=some o->B.get? b=some o)(d:B.StaysIn l):kq X.p X.w k l:=λb u e=>
 (a b u e).stay (fun c v h q=>d c v (by
  rcases h with rfl|h
  .exact x _ u v e q
  .exact x c _ v h q)) (λ_ q=>q) λ_ _ q=>q
theorem M8{E:XK}{h:Hp}{B K m P:Heap}{d:Shared}{a x:Addr}{c i:Value}{od:Option Addr}(l:Leaves X E)(I:Inv X G M H s)(u:Un (iK X.k) [] H h s.heap K)(t:X.z.heap.get? x=none)(j:∀b o,b≠x->s.heap.get? b=some o->b ∉ iK X.k->∃D,B.get? b=some D)(y:∀b o,b≠x->s.heap.get? b=some o->H b=none->b ∉ iK X.k->B.get? b=some o)
  (k:kq X.p X.w h P) (S:∀b u o,h b=some u->P.get? b=some o->B.get? b=some o) (C:h a=none) (L:K.UpToSlots m) (f:lW B X.o a c i m) (N:KA a od m) (os:d.os=s.os) (A:AllBare d.gens) (q:E c od h):zR X.p X.w X.o X.y X.z E (.ref a) { d with heap:=m }:=by
 have g:Un X.fs [] X.y H X.z.heap s.heap:=by have:=I.base;rw[l.ex]at this;exact this
 refine⟨a,c,i,h,B,od,rfl,os.trans I.os,A,Fb I l u t j y f.1 L,xT k S f.1,C,λb o z n=>?_,λb o z e n=>?_,λb v o z e=>?_,f,N,q⟩
 .obtain⟨r,p⟩:=g.there b o z (by simp);exact j b r (λw=>by rw[w,t]at z;cases z) p (l.old I z n)
 .exact y b o (λw=>by rw[w,t]at z;cases z) (g.keep b o z e n (by simp)) (g.free b o z e (by simp)) (l.old I z n)
 .obtain⟨r,p⟩:=Gg (k b v z);have F:=S b v r z p;rw[f.1 b r F]at e;cases e;exact F
theorem Co(h:Heap):h.get? h.objs.size=none:=by
 cases e:h.get? h.objs.size with
 |none=>rfl
 |some o=>exact absurd (aM e) (gn _)
theorem leave_new(l:Leaves X E)(I:Inv X G M H s)(x:uF s.heap N e c T)(q:E c none H):X.xe (.ref e) { s with heap:=N }:=by
 rw[l.xe];have r:X.A.frames=some (X.e::X.o):=by rw[<- l.stk];exact I.o.frames
 have i:∀b o,s.heap.get? b=some o->b ∉ iK X.k->(eU s.heap (iK X.k)).get? b=some o:=λb o e n=>vK _ e n;have trk:∀b u,H b=some u->b ∉ iK X.k:=λb u e z=>by rw[I.stkFree b z]at e;cases e
 have w:s.heap.FunFrames (eU s.heap (iK X.k)) (X.e::X.o):=by rw[<- l.stk];exact BL I.stack λv d b p=>jV.mpr ⟨v,d,p⟩
 obtain⟨y,a,_,_⟩:=x.there;refine aU ((Kd.oz X.e (.ref e)).wpAny (wpAny_leaves_madeW (Q:=λ_ m=>∃h t,lW (eU s.heap (iK X.k)) X.o e c (.ref t) h/\N.UpToSlots h/\m={ s with heap:=h }) r l.frm (λb o z=>vI _ z) w x λh t f _ _ k=>⟨h,t,f,k,rfl⟩)) (λ_ m z=>?_) λ_ _ z=>z.1;obtain⟨⟨h,t,f,k,rfl⟩,dk⟩:=z;have g:KA e none h:=KA.dk ⟨_,_,a,rfl,rfl,λ_=>rfl⟩ dk;exact M8 l I (Un.kept λ_ _ z=>z) (Co _) (λb o _ z n=>⟨o,i b o z n⟩) (λb o _ z _ n=>i b o z n) I.h (λb u o z j=>i b o j (trk b u z)) (wg I x.new) ((Heap.UpToSlots.of_keeps x.keeps).trans k) f g rfl I.bare q
theorem JN{r:Heap}(l:Leaves X E)(I:Inv X G M (upd (upd H e (.ext T)) k (.xd y)) s)(n1:H e=none)(n2:H k=none)(ne:k≠e)(b0:X.z.heap.get? e=none)
  (h0:s.heap.get? e=some o0) (d0:o0.data=.fields ws) (g:r.get? e=some N) (hd:N.data=.fields vs) (R:N.dict=some k) (v0:vs[0]? = some a0) (v1:vs[1]? = some .none) (K:∀b o,b≠e->s.heap.get? b=some o->r.get? b=some o)
  (q:E N.cls (some k) (upd H k (.xd y))) (V:A.frames=X.A.frames):wpAny (model X.p X.w) A (noteFrame (.ref e) X.e) (λ_ t=>cameBackBy (model X.p X.w) X.A X.e X.xe (.ref e) t) E1 { s with heap:=r }:=by
 have S:X.A.frames=some (X.e::X.o):=by rw[<- l.stk];exact I.o.frames
 have ge:upd (upd H e (.ext T)) k (.xd y) e=some (.ext T):=by rw[aq (aC ne),aJ]
 have gd:upd (upd H e (.ext T)) k (.xd y) k=some (.xd y):=aJ;have go:∀b,b≠e->b≠k->upd (upd H e (.ext T)) k (.xd y) b=H b:=λb z1 h=>by rw[aq h,aq z1]
 have P:∀b,b≠e->upd (upd H e (.ext T)) k (.xd y) b=upd H k (.xd y) b:=λb z=>by
  by_cases a:b=k
  .subst a;rw[aJ,aJ]
  .rw [go b z a,aq a]
 have e2:upd H k (.xd y) e=none:=by rw[aq (aC ne)];exact n1
 have enf:e ∉ iK X.k:=λz=>by rw[I.stkFree e z]at ge;cases ge
 have i:∀b o,b≠e->s.heap.get? b=some o->b ∉ iK X.k->(eU s.heap (e::iK X.k)).get? b=some o:=λb o z h n=>vK _ h λm=>by
  rcases aP.mp m with m|m
  .exact z m
  .exact n m
 have f:(eU s.heap (e::iK X.k)).get? e=none:=BJ _ (List.Mem.head _);have trk:∀b u,upd H k (.xd y) b=some u->b≠e/\b ∉ iK X.k:=λb u z=>by
  have nb:b≠e:=λw=>by rw[w,e2]at z;cases z
  refine⟨nb,λw=>?_⟩;have:=I.stkFree b w
  rw[P b nb,z]at this;cases this
 have hl0:s.heap.FunFrames (eU s.heap (e::iK X.k)) (X.e::X.o):=by rw[<- l.stk];exact BL I.stack λL g b a=>.tail _ (jV.mpr ⟨L,g,a⟩)
 have hl:r.FunFrames (eU s.heap (e::iK X.k)) (X.e::X.o):=hl0.of_keeps λb o a nf=>⟨o,K b o (λz=>by rw[z,h0]at a;cases a;exact nf _ d0) a,rfl⟩;have Z:(eU s.heap (e::iK X.k)).StaysIn r:=λb o z=>K b o (λw=>by rw[w,f]at z;cases z) (vI _ z);have first:wpAny (model X.p X.w) A (noteFrame (.ref e) X.e) (λ_ t=>∃d,Heap.NotedW (eU s.heap (e::iK X.k)) (X.e::X.o) e N.cls a0 (rawInt X.e.locals) r d/\t={ s with heap:=d }) (λ_ _=>False) { s with heap:=r }:=by unfold noteFrame;simp only[l.frm];refine aa (c_ g hd v1 ?_);rw[au (by decide)];exact wpAny_entryW (V.trans S) hl l.frm g Z f hd (qa.mp v1).1 v0 λd hN=>⟨d,hN,rfl⟩
 refine aU ((Kd.kS (.ref e) X.e).wpAny first) (fun _ s3 z3=>?_) fun _ _ z=>z.1.elim;obtain⟨⟨d,⟨m1,m2,m3,m4⟩,rfl⟩,C⟩:=z3;unfold cameBackBy;have kb:Kd.Kp (do
   if (<- field (.ref e) 1) == .none then unsupported "frame.own-activation:exception-without-traceback"
   setFlight (.ref e) X.e.frame):=by
  refine .bind (Kd.nh _ _) λx=>?_;split
  .exact .bind (.unsupported _) λ_=>Kd.gI _ _
  .exact Kd.gI _ _
 refine aU (kb.wpAny (DI (r:=λ_ t=>∃j,qI (eU s.heap (e::iK X.k)) (X.e::X.o) e N.cls a0 X.e.locals j/\t={ s with heap:=j }) (u:={ s with heap:=d }) l.frm ⟨m1,f,m2,m3⟩ λj hh=>⟨j,hh,rfl⟩)) (λ_ s4 z4=>?_) λ_ _ z=>z.1;obtain⟨⟨j,W,rfl⟩,D⟩:=z4;rw[l.xe];refine aU ((Kd.oz X.e (.ref e)).wpAny (wpAny_leaves_heldW (outer:=X.o) (Q:=λ_ t=>∃p,lW (eU s.heap (e::iK X.k)) X.o e N.cls a0 p/\t={ s with heap:=p }) l.frm W λp fl=>⟨p,fl,rfl⟩)) (λ_ t z=>?_) λ_ _ z=>z.1;obtain⟨⟨p,⟨k1,_,k2,k3⟩,rfl⟩,B⟩:=z;have dk:=Kd.DK.trans C (Kd.DK.trans D B);have sx:KA e (some k) p:=KA.dk ⟨N,vs,g,R,hd,λw=>nomatch w⟩ dk;have tr:∀b u,upd (upd H e (.ext T)) k (.xd y) b=some u->(∀ψ,u≠.ext ψ)->upd H k (.xd y) b=some u:=λb u z nx=>by rw[<- P b (λw=>by rw[w,ge]at z;cases z;exact nx _ rfl)];exact z
 have un:Un (iK X.k) [] (upd (upd H e (.ext T)) k (.xd y)) (upd H k (.xd y)) s.heap r:=by
  refine⟨λb o z n _ _=>K b o (λw=>by rw[w,ge]at n;cases n) z,λb o z n _ _=>⟨o.slots,K b o (λw=>by rw[w,ge]at n;cases n) z⟩,λb o z n _=>?_,λb o z _=>?_,λb xs z=>tr b _ z (λ_ w=>nomatch w),λb o u z=>tr b _ z (λ_ w=>nomatch w),λb ps z=>⟨#[],by rw[Array.append_empty];exact tr b _ z (λ_ w=>nomatch w)⟩⟩
  .rw [<- P b (λw=>by rw[w,ge]at n;cases n)];exact n
  .by_cases a:b=e
   .subst a;exact⟨_,g⟩
   .exact⟨o,K b o a z⟩
 have F:kq X.p X.w (upd H k (.xd y)) s.heap:=λb v z=>(I.h b v (by rw[P b (trk b v z).1];exact z)).stay (λ_ _ _ q=>q) (λc h=>tr c _ h (λ_ w=>nomatch w)) λc xs h=>tr c _ h (λ_ w=>nomatch w);exact M8 l I un b0 (λb o z h n=>⟨o,i b o z h n⟩) (λb o z h _ n=>i b o z h n) F (λb u o z h=>i b o (trk b u z).1 h (trk b u z).2) e2 (Kd.DK.up dk) ⟨k1,f,k2,k3⟩ sx rfl I.bare q
theorem Gu(l:Leaves X E)(I:Inv X G M H s)(g:zR X.p X.w X.k H s T e N)(q:∀c od H',T c od H'->E c od H'):X.xe e N:=by
 rw[l.xe];obtain⟨a,c,p,H',B,od,rfl,os,r,un,k,u,v,d,w,m,j,i⟩:=g;have x:X.A.frames=some (X.e::X.o):=by rw[<- l.stk];exact I.o.frames
 rw[l.stk]at m;refine aU ((Kd.oz X.e (.ref a)).wpAny (wpAny_leaves_onW (Q:=λ_ t=>∃h,lW B X.o a c p h/\N.heap.UpToSlots h/\t={ N with heap:=h }) x l.frm m λh f n=>⟨h,f,n,rfl⟩)) (λ_ t z=>?_) λ_ _ z=>z.1;obtain⟨⟨h,f,n,rfl⟩,dk⟩:=z;exact M8 l I un (Co _) (λb o _=>v b o) (λb o _=>d b o) k w u n f (j.dk dk) os r (q c od H' i)
end
noncomputable abbrev gL(X:Cx)(e:Value):Cx:={ X with A:=X.A.mark (some e),c:=false,xe:=λ_ _=>False }
section
variable{X:Cx}{G:PN}{M:L2.St}{H:Hp}{s:Shared}
theorem lw(I:Inv X G M H s)(e:Value):Inv (gL X e) G M H s:=
 ⟨⟨I.o.mod,I.o.kind,I.o.glob,I.o.blt,I.o.above,I.o.inj,I.o.has,I.o.cab,(λz=>nomatch z),I.o.frames,I.o.stk,I.o.exf,I.o.bs,I.o.bsz,I.o.noex,I.o.exfs,I.o.funs,I.o.frf⟩,I.os,I.bare,I.base,I.loc,I.cell,I.free,I.freeC,I.pin,I.h,I.len⟩
theorem rJ(ok:X.Ok)(I:Inv (gL X e) G M H s):Inv X G M H s:=⟨ok,I.os,I.bare,I.base,I.loc,I.cell,I.free,I.freeC,I.pin,I.h,I.len⟩
theorem IU{B:Heap}(u:Un y [] H r k l)(q:∀b ∈ y,H b=none/\∃o,k.get? b=some o/\∀j,o.data≠.fields j)(t:∀b o,k.get? b=some o->b ∉ y->∃w,B.get? b=some w)(p:∀b o,k.get? b=some o->H b=none->b ∉ y->B.get? b=some o)
  (d:B.StaysIn c) (s:l.UpToSlots c):Un y [] H r k c:=by
 have f:∀b o,k.get? b=some o->b ∈ y->∃s,c.get? b=some { o with slots:=s }:=λb o e h=>by obtain⟨n,z,x,v⟩:=q b h;rw[e]at x;cases x;obtain⟨g,x⟩:=u.slot b o e n h (by simp);obtain⟨i,a⟩:=s b _ x v;exact⟨i,a⟩
 refine⟨λb o e n h _=>d b o (p b o e n h),λb o e n h _=>f b o e h,u.free,λb o e _=>?_,u.tups,u.frzs,u.tbls⟩;by_cases h:b ∈ y
 .obtain⟨g,x⟩:=f b o e h;exact⟨_,x⟩
 .obtain⟨m,a⟩:=t b o e h;exact⟨m,d b m a⟩
theorem oB(I:Inv X G M H s)(g:X.z.heap.get? a=none)(i:H a=none)(L:a≠X.e.locals)(C:∀x c,X.e.cells.lookup x=some c->c≠a)(j:∀p ∈ X.pn++G,p.1≠a)(w:cM X.p X.w (upd H a u) s.heap a u):Inv X G M (upd H a u) s:=by
 have h:∀b v,H b=some v->b≠a:=λb v e z=>by rw[z,i]at e;cases e
 refine⟨I.o,I.os,I.bare,⟨I.base.keep,I.base.slot,λb o e n l=>?_,I.base.there,λb t e=>?_,λb o v e=>?_,λb y e=>?_⟩,I.loc,I.cell,?_,λx c e=>?_,λp m=>?_,λb v e=>?_,I.len⟩
 .rw [aq (λz=>by rw[z,g]at e;cases e)];exact I.base.free b o e n l
 .have:=I.base.tups b t e;rw[aq (h _ _ this)];exact this
 .have:=I.base.frzs b o v e;rw[aq (h _ _ this)];exact this
 .obtain⟨more,k⟩:=I.base.tbls b y e;exact⟨more,by rw[aq (h _ _ k)];exact k⟩
 .rw [aq (aC L)];exact I.free
 .rw [aq (C x c e)];exact I.freeC x c e
 .obtain⟨k,d,r⟩:=I.pin p m;exact⟨k,by rw[aq (j p m)];exact d,r⟩
 .by_cases f:b=a
  .subst f;rw[aJ]at e;cases e;exact w
  .rw [aq f]at e;exact(I.h b v e).stay (λ_ _ _ q=>q) (λc q=>by rw[aq (h _ _ q)];exact q) λc t q=>by rw[aq (h _ _ q)];exact q
theorem GQ{W:Nat}(I:Inv X G M H s)(B:X.N.Nodup)(P:X.N[l]? = some N)(C:∀(j:Nat) (x:Str) (w:V),X.N[j]? = some x->M[j]? = some (some w)->HN X.e.scope x->∃u,RelV w u/\Look X.e s.heap m x u)
  (K:T.Ns X.e.locals (λx=>if x=N then v else m x)) (h:gK X.e.locals s.heap T):Inv X G (M.set l none) H { s with heap:=T,toks:=W }:=by
 have L:∀b o,X.z.heap.get? b=some o->b≠X.e.locals:=λb o e=>bo (bN (aM e) I.o.above);have i:l < M.length:=by rw[I.len];exact(bz.mp P).1
 refine⟨I.o,I.os,I.bare,⟨λb o e N S n=>(h.2 b (L b o e)).trans (I.base.keep b o e N S n),λb o e N S n=>?_,I.base.free,λb o e n=>?_,I.base.tups,I.base.frzs,I.base.tbls⟩,⟨_,K,λj y w a f A=>?_⟩,λy c e=>?_,I.free,I.freeC,λp D=>?_,λb w e=>?_,by simpa using I.len⟩
 .obtain⟨R,a⟩:=I.base.slot b o e N S n;exact⟨R,(h.2 b (L b o e)).trans a⟩
 .obtain⟨Q,a⟩:=I.base.there b o e n;exact⟨Q,(h.2 b (L b o e)).trans a⟩
 .by_cases F:j=l
  .subst F;rw[bH i]at f;cases f
  .rw [aL (aC F)]at f;obtain⟨u,r,q⟩:=C j y w a f A;refine⟨u,r,?_⟩;rcases q with ⟨k,e⟩|⟨k,c,e,z⟩
   .exact .inl ⟨k,by have g:¬y=N:=λz=>F (rY B a (by rw[z];exact P));show(if y=N then v else m y)=some u;rw[au g];exact e⟩
   .exact .inr ⟨k,c,e,z.sameBut h (I.cne y c e)⟩
 .obtain⟨Z,z⟩:=I.cell y c e;exact⟨Z,z.sameBut h (I.cne y c e)⟩
 .obtain⟨e,N,g,E,d⟩:=I.pin p D;exact⟨(h.2 p.1 g).trans e,N,g,E,d⟩
 .refine (I.h b w e).stay (λc z t q=>(h.2 c ?_).trans q) (λ_ q=>q) λ_ _ q=>q;rintro rfl;rcases t with rfl|t
  .rw [I.free]at e;cases e
  .rw [I.free]at t;cases t
theorem Gy{n:Hp}{B x:Heap}{h:Shared}(I:Inv X G M H s)(os:h.os=s.os)(a:AllBare h.gens)(un:Un (iK X.k) [] H n s.heap h.heap)(k:kq X.p X.w n h.heap)(c:∀b o,s.heap.get? b=some o->b ∉ iK X.k->∃t,B.get? b=some t)(f:∀b o,s.heap.get? b=some o->H b=none->b ∉ iK X.k->B.get? b=some o)
  (m:∀b u o,n b=some u->h.heap.get? b=some o->B.get? b=some o) (d:B.StaysIn x) (l:h.heap.UpToSlots x):Inv X G M n { h with heap:=x }:=by
 have r:∀b ∈ iK X.k,H b=none/\∃o,s.heap.get? b=some o/\∀v,o.data≠.fields v:=λb e=>⟨I.stkFree b e,(I.stack.mem e).2⟩;exact I.call' (s':={ h with heap:=x }) (z:=[]) os (IU un r c f d l) (xT k m d) a λ_ z=>nomatch z
theorem sS{E':XK}{e:Value}{N:Shared}{c:Str}{nm:Option Str}{C2:Addr}{S:List Stmt}{np g:Pos}{bS:List ExceptHandler}{Q:Flow->Shared->Prop}(y:X.k=X.e::X.o)(Z:X.e.frame=some X.e.locals)(ex:X.ex=[])(I:Inv X G M H s)(hx:zR X.p X.w X.k H s E' e N)
  (gl:Gl X c) (mgc:X.g c=some (.ref C2)) (hdb:(c == ("__debug__":Str))=false)
  (k:∀(a:Addr) (t:Value) (od:Option Addr) (V:Hp),e=.ref a->E' t od V->V a=none->∃C,t=.ref C/\gp X.K t (.ref C2)=some true/\∀s5:Shared,(∀{R:Shared->Prop}{Ex:VP},(∀s7,Inv X G M (upd V a (.ext (ee a C od))) s7->R s7)->wpAny (model X.p X.w) (X.A.mark (some e)) (setFlight e none) (fun _ s7=>R s7) Ex s5) ->
   codeAny (model X.p X.w) (X.A.mark (some e)) (.handlers e [.ExceptHandler none nm S g] X.e) (fun r n=>match r with
    | .ok f=>(match nm with|none=>Q f n|some b=>wx X (do bindName X.e b .none;unbindBehindTheSuite X.e b g) (λ_ s3=>Q f s3) X.xe n)
    | .error x=>cameBackBy (model X.p X.w) X.A X.e X.xe x n) s5) :
  wx X (noteFrame e X.e) (λ_ n=>wx X (setFlight e none) (λ_ s3=>wx X (handleBy e X.e (.ExceptHandler (some (.Name c np)) nm S g::bS)) Q X.xe s3) X.xe n) X.xe N:=by
 obtain⟨a,t,a0,V,B,od,rfl,os,W,un,hok,hn,c0,c1,c2,fl,sx,qe⟩:=hx;obtain⟨C,rfl,exm,go⟩:=k a t od V rfl qe hn;have J9:=λh1 d sl=>Gy (x:=h1) I os W un hok c0 c1 c2 d sl;have hfr:X.A.frames=some (X.e::X.o):=by rw[<- y];exact I.o.frames
 rw[y]at fl;refine aU ((Kd.kS (.ref a) X.e).wpAny (wpAny_looks_onW (Q:=λ_ n=>∃P,qI B (X.e::X.o) a (.ref C) a0 X.e.locals P/\N.heap.UpToSlots P/\n={ N with heap:=P }) hfr Z fl λP h D=>⟨P,h,D,rfl⟩)) (λ_ n z=>?_) λ_ _ z=>z.1;obtain⟨⟨P,h,D,rfl⟩,dk4⟩:=z;refine aU ((Kd.gI (.ref a) none).wpAny (wpAny_landsW (Q:=λ_ n=>∃i,lW B (X.e::X.o) a (.ref C) a0 i/\P.UpToSlots i/\n={ N with heap:=i }) h λi w m=>⟨i,w,m,rfl⟩)) (λ_ n z=>?_) λ_ _ z=>z.1;obtain⟨⟨i,w,m,rfl⟩,dk5⟩:=z;have sx5:=(sx.dk dk4).dk dk5;have m:=D.trans m;have I5:=J9 i w.1 m;refine wpAny_handleBy_cons (codeAny_handlers_test (j9 (lw I5 (.ref a)) gl mgc ?_ hdb)) (by intro z;cases z);obtain⟨ob,hob,hobc⟩:=w.there;have LT:By (model X.p X.w) i (typeOf (.ref a)) (.ref C):=by rw[<- hobc];exact(AA hob).andThen .now
 refine(PySem.W.exm_one (M:=model X.p X.w) I5.kIn LT exm).here ?_;rw[am rfl];refine go _ λk7=>aU ((Kd.gI (.ref a) none).wpAny (lands_againW (Q:=λ_ n=>∃A,lW B (X.e::X.o) a (.ref C) a0 A/\i.UpToSlots A/\n={ N with heap:=A }) w λA l E=>⟨A,l,E,rfl⟩)) (λ_ n z=>?_) λ_ _ z=>z.1;obtain⟨⟨A,l,E,rfl⟩,dk6⟩:=z;obtain⟨ox,vx,j,hdx,htx,hcx⟩:=sx5.dk dk6;have I6:=J9 A l.1 (m.trans E);obtain⟨oe,vs,T,oT,tvs,L,⟨hcls,_⟩,hd,_⟩:=l.2.2.2;have F:a ∉ iK X.k:=λz=>by rw[y]at z;obtain⟨_,o,ho,nf⟩:=l.2.2.1.mem z;rw[L]at ho;cases ho;exact nf vs hd
 have K:s.heap.get? a=none:=by
  cases q:s.heap.get? a with
  |none=>rfl
  |some o=>obtain⟨o',z⟩:=c0 a o q F;rw[l.2.1]at z;cases z
 have not0:X.z.heap.get? a=none:=by
  cases q:X.z.heap.get? a with
  |none=>rfl
  |some o=>obtain⟨o',z⟩:=I.base.there a o q (by rw[ex];simp);rw[K]at z;cases z
 have I7:=oB (u:=.ext (ee a C od)) I6 not0 hn (fun z=>F (by rw [y,z];exact jV.mpr ⟨X.e,.head _,Z⟩)) (fun x c' q z=>by
   obtain⟨v,o,ho,hv⟩:=I6.cell x c' q;rw[z,L]at ho;cases ho;rw[hd]at hv;cases hv) (λp hp z=>by
   have:=(I.pin p hp).1;rw[z,K]at this;cases this) ⟨⟨oe,L,hcls,by rw[L]at j;cases j;exact hdx,by rw[L]at j;cases j;exact⟨vx,htx,hcx⟩⟩,⟨oe,L⟩,λh1 h2 ⟨o,q1,q2⟩ d=>⟨o,d o q1,q2⟩⟩
 exact k7 _ I7
set_option tactic.hygienic true in
theorem Hs{Q:XK}{e:Value}{Z:Shared}{c n:Str}{N:Addr}{i:Nat}{R:Stmt}{d:List Stmt}{np o:Pos}{bS:List ExceptHandler}{D:Ends}{ts:Value->TS}(L:X.k=X.e::X.o)(K:X.e.frame=some X.e.locals)(ex:X.ex=[])(T:X.N.Nodup)(I:Inv X G M H s)(hx:zR X.p X.w X.k H s Q e Z)
  (gl:Gl X c) (E:X.g c=some (.ref N)) (P:(c == ("__debug__":Str))=false) (W:X.N[i]? = some n) (A:X.e.scope.names.lookup n=some .local) (hb:∀e,jq (gL X e) (R::d) (ts e))
  (k:∀(a:Addr) (l:Value) (od:Option Addr) (y:Hp),e=.ref a->Q l od y->y a=none->∃C,l=.ref C/\gp X.K l (.ref N)=some true /\
   ts e { nx:=λh t=>D.nx (h.set i none) t,rt:=D.rt,bk:=λh t=>D.bk (h.set i none) t,ct:=λh t=>D.ct (h.set i none) t } (M.set i (some (.ref a))) (upd y a (.ext (ee a C od)))) :
  wx X (noteFrame e X.e) (λ_ s2=>wx X (setFlight e none) (λ_ s3=>wx X (handleBy e X.e (.ExceptHandler (some (.Name c np)) (some n) (R::d) o::bS)) (SP X G D) X.xe s3) X.xe s2) X.xe Z:=by
 refine sS L K ex I hx gl E P λa l od y V qe hn=>?_;obtain⟨C,hc,F,go⟩:=k a l od y V qe hn;subst V;refine⟨C,hc,F,λs5 j=>codeAny_handlers_suite_as (j λs7 I7=>?_)⟩;refine oa I7 T W (.inl A) (v:=.ref a) (u:=.ref a) rfl (λs8 I8 _=>?_) (.inr A);refine aU (hb (.ref a) G s8 _ _ _ (lw I8 (.ref a)) go) (λf s9 S=>?_) λ_ _ z=>z.elim;have hp:(X.e.scope.kind == .class ||(X.e.scope.kind == .module && X.e.locals != X.e.globals))=false:=by rw[I.o.kind];rfl
 have w:∀{h:L2.St}{t:Hp},Inv (gL X (.ref a)) G h t s9->(∀x,Inv X G (h.set i none) t x->SP X G D f x)->wx X (do bindName X.e n .none;unbindBehindTheSuite X.e n o) (λ_ x=>SP X G D f x) X.xe s9:=λp k9=>by have p:=rJ I.o p;obtain⟨m,hm,g⟩:=id p.loc;exact wpAny_nameGoes_keeps A hm hp λh' v B hs=>k9 _ (GQ p T W g B hs)
 cases f with
 |next=>obtain⟨h,t,p,q⟩:=S;exact w p λx b=>⟨_,_,b,q⟩
 |brk=>obtain⟨h,t,p,q⟩:=S;exact w p λx b=>⟨_,_,b,q⟩
 |cont=>obtain⟨h,t,p,q⟩:=S;exact w p λx b=>⟨_,_,b,q⟩
 |ret u=>obtain⟨v,h,t,p,r,q⟩:=S;exact w p λx b=>⟨v,_,_,b,r,q⟩
end
def Gk(e C:Addr):Heap->Prop:=λh=>∃t,h.get? e=some { cls:=.ref C,data:=.fields #[.ref t,.none,.none,.none,.bool false,.none] }
def wn(e C d:Addr):Heap->Prop:=λh=>∃t,h.get? e=some { cls:=.ref C,dict:=some d,data:=.fields #[.ref t,.none,.none,.none,.bool false,.none] }
structure ExcSt(K:FG)(C:Addr)(f:Str):Prop where
 cd:∃cd,mR K C=some cd/\cd.hasDict=true/\Kx.wa cd.mro=true
 set:cc K (.ref C) "__setattr__"=some (some (.builtin "object.__setattr__"))
 no:cc K (.ref C) f=some none
section
variable{X:Cx}{G:PN}{M:L2.St}{H:Hp}{s:Shared}
theorem Dl(I:Inv X G M H s)(W:X.ex=[])(K:H e=some (.ext (Gk e C)))(g:ExcSt X.K C f)(ry:RelV r u)
  (h:∀v L,H v=none->v≠e->Inv X G M (upd (upd H e (.ext (wn e C v))) v (.xd [(f,r)])) L->l () L):wpAny (model X.p X.w) A (setAttr (.ref e) f u) l E s:=by
 obtain⟨⟨t,P⟩,_,_⟩:=(show cM X.p X.w H s.heap e (.ext (Gk e C)) from I.h e _ K);obtain⟨⟨cd,S,hd,ho⟩,hs,a⟩:=g;refine Kx.Dm I.kIn P rfl rfl rfl S hd ho hs a λZ F i R T=>?_;have B:H s.heap.objs.size=none:=I.h.fresh (al _);have D:s.heap.objs.size≠e:=aC (bo (aM P));have w:s.heap.get? s.heap.objs.size=none:=by
  cases q:s.heap.get? s.heap.objs.size with
  |none=>rfl
  |some o=>exact absurd (aM q) (gn _)
 have d:∀j y:Heap,wn e C s.heap.objs.size j->(∀o,j.get? e=some o->y.get? e=some o)->wn e C s.heap.objs.size y:=λj y ⟨t,q⟩ k=>⟨t,k _ q⟩;have N:Inv X G M (upd H e (.ext (wn e C s.heap.objs.size))) { s with heap:=Z,toks:=F }:=I.write (x:=e) (e:=e) (by rw[K];exact True.intro) (.inl rfl) (λb q hb z=>T b q hb z) ⟨_,i⟩ ⟨⟨t,i⟩,⟨_,i⟩,d⟩;have Q:X.z.heap.get? s.heap.objs.size=none:=by
  cases q:X.z.heap.get? s.heap.objs.size with
  |none=>rfl
  |some o=>obtain⟨o',z⟩:=I.base.there _ o q (by rw[W];simp);rw[w]at z;cases z
 refine h _ _ B D (oB N Q ?_ ?_ ?_ ?_ ?_)
 .rw [aq D];exact B
 .intro z;obtain⟨m,⟨o,_,_,q,_⟩,_⟩:=I.loc;rw[<- z,w]at q;cases q
 .intro x c S z;obtain⟨w',q⟩:=I.cell x c S;obtain⟨o,q,_⟩:=q;rw[z,w]at q;cases q
 .intro p hp z;obtain⟨q,_⟩:=I.pin p hp;rw[z,w]at q;cases q
 .refine⟨_,R,λn=>?_⟩;by_cases a:n=f
  .subst a;rw[am rfl];simp only[eD,beq_self_eq_true];exact ry
  .rw [au a];have:([(f,r)]:List (Str×V)).lookup n=none:=by simp[eD,oU.mpr a]
   rw[this];exact True.intro
end
section
variable{X:Cx}{o Q:Expr}{f:Str}{j pos':Pos}{ta tv:TE}
def T'(K:FG)(ta tv:TE)(f:Str):TS:=λD M H=>tv M H λy a=>ta M a λx h=>∃e C,x=.ref e/\h e=some (.ext (Gk e C))/\ExcSt K C f/\∀d,h d=none->d≠e->D.nx M (upd (upd h e (.ext (wn e C d))) d (.xd [(f,y)]))
theorem Ju(m:X.ex=[])(t:PE X o ta)(v:PE X Q tv)(p:swapsWith Q (some (.Attribute o f pos')) j.line X.e=pure false):PS X (.Assign [.Attribute o f pos'] Q j) (T' X.K ta tv f):=by intro G s M H D I h;refine EK (du (v G s M H _ I h) λu P ⟨y,n,k,K,q⟩=>du (t G P M n _ k q) λl B z=>?_) p;obtain⟨x,A,b,F,e,C,a,r,g,S⟩:=z;subst a;obtain rfl:l=Value.ref e:=F;exact Dl b m r g K λd E w i c=>⟨M,_,c,S d w i⟩
end
section
variable{Pg:Program}{w:World}{K:FG}{mg:SV}{n:Heap}
def QF(K:FG)(f:Str):Sp:=λs H Q _=>∃e C v,s=[.ref e,v]/\H e=some (.ext (Gk e C))/\ExcSt K C f/\∀d,H d=none->d≠e->Q .non (upd (upd H e (.ext (wn e C d))) d (.xd [(f,v)]))
end
section
variable{Pg:Program}{w:World}{K:FG}{mg:SV}{n:Heap}
abbrev Tw(P:Program)(w:World)(K:FG)(mg:SV)(n:Heap)(N:LS)(q:Str)(p:Scope)(f:Addr)(d:Value)(A:Around)(o:List Env)(s:Shared)(H:Hp):Cx:=
 { pH pL P w K mg n N q p f d A o s H E0 with c:=false,xe:=λ_ _=>False }
structure FnU(P:Program)(w:World)(K:FG)(mg:SV)(base:Heap)(f:Addr)(fd:FuncData)(ps:LS)(sp:Sp):Prop where
 len:∀vs H Q E,sp vs H Q E->vs.length=ps.length
 run:∀(A:Around)(outer:List Env)(s:Shared)(H:Hp)(args:Args)(us:LV)(vs:List V)(Q:VK),A.depth+4 < recursionLimit->Env0 P w K mg base A outer s H->BindsTo s fd args (ps.zip us)->aZ vs us->sp vs H Q E0 ->
  codeAny (model P w) A (.call (.ref f) args) (CR pL outer P w H s Q E0) s
set_option tactic.hygienic true in
theorem Nb{x l:Str}{d:Stmt}{f:Addr}{W:FuncData}{N ps:LS}{R:Sp}(F:Fun K x l d f W)(S:FnScope N ps (aK d))(len:∀m H Q E,R m H Q E->m.length=ps.length)
  (i:∀(L:Value)(A:Around)(r:List Env)(s:Shared)(H:Hp)(m:List V)(Q:VK),R m H Q E0->∃t,jq (Tw Pg w K mg n N l (aK d) f L A r s H) (cE d) t/\t { nx:=λ_ H'=>Q .non H',rt:=Q } (start N m) H):FnU Pg w K mg n f W ps R:=by
 obtain⟨_,_,_,_,_,_,code,_,_,rfl,C,G⟩:=F.ex;refine⟨len,λA r s H T us m Q D a bind M p=>?_⟩;have rL:n.StaysIn s.heap:=λb o e=>(a.bs b o e).1;have g:=a.mod.kin.keeps rL;refine EC (jX (by lia) D) (g _ _ C) rfl S.co S.gen rfl (BG g G) (bind _ _ _ _ (EJ S.kind (λy hy=>(S.par y.1 (qf hy).1).imp id λz=>⟨z,vM _ _ _ (.inl z)⟩) λen same X k=>?_));subst same;obtain⟨t,j,B⟩:=i code A r s H m Q p;refine⟨(a.mod.nolimit.keeps rL).keeps k.toInCall.keep,codeAny_func ?_⟩;have h:=ui (CX:=pL) (E:=E0) (C:=code) (f:=f) (l:=l) (A:={ A with handled:=none }) S rfl ⟨a.frames,a.mod,a.bs,a.bsz,a.funs,a.frf,a.h,a.bare⟩ (len _ _ _ _ p) M k;have Z:Inv (Tw Pg w K mg n N l (aK d) f code A r s H) [] (start N m) H X:=
  ⟨⟨h.o.mod,h.o.kind,h.o.glob,h.o.blt,h.o.above,h.o.inj,h.o.has,h.o.cab,(λz=>nomatch z),h.o.frames,h.o.stk,h.o.exf,h.o.bs,h.o.bsz,h.o.noex,h.o.exfs,h.o.funs,h.o.frf⟩,h.os,h.bare,h.base,h.loc,h.cell,h.free,h.freeC,h.pin,h.h,h.len⟩
 refine aU (j [] X _ H _ Z B) (λP s2 z=>?_) λ_ _ z=>z.elim;cases P with
 |ret u=>obtain⟨v,_,I,c,rv,q⟩:=z;exact⟨v,I,c.os,c.bare,c.base,c.h,rv,q⟩
 |next=>obtain⟨_,I,c,q⟩:=z;exact⟨.non,I,c.os,c.bare,c.base,c.h,rfl,q⟩
 |brk=>exact(let ⟨_,_,_,q⟩:=z;q.elim)
 |cont=>exact(let ⟨_,_,_,q⟩:=z;q.elim)
theorem DF{a b:Str}{u:Str}{d:Stmt}{fa:Addr}{k:FuncData}{f:Str}{p m r t:Pos}(F:Fun K "__init__" u d fa k)(S:FnScope [a,b] [a,b] (aK d))(y:cE d=[.Assign [.Attribute (.Name a p) f m] (.Name b r) t])
  (M:∀e:Env,e.scope=aK d->HN e.scope a/\HN e.scope b) (D:(a == ("__debug__":Str))=false) (G:(b == ("__debug__":Str))=false) (I:(a == ("__classdict__":Str))=false) (L:(b == ("__classdict__":Str))=false)
  (z:∀x:Env,swapsWith (.Name b r) (some (.Attribute (.Name a p) f m)) t.line x=pure false):FnU Pg w K mg n fa k [a,b] (QF K f):=by
 refine Nb F S (λN H Q E h=>?_) λc A o s H N Q h=>?_
 .obtain⟨e,C,v,rfl,_⟩:=h;rfl
 .obtain⟨e,C,v,rfl,l,g,q⟩:=h;rw[y];obtain⟨v1,v2⟩:=M (envOfC u (aK d) s.heap.objs.size fa c) rfl;refine⟨_,m5 (Ju rfl (rT (i:=0) rfl v1 D I) (rT (i:=1) rfl v2 G L) (z _)),?_⟩;exact⟨v,rfl,.ref e,rfl,e,C,rfl,l,g,λj P B=>q j P B⟩
end
section
variable{X:Cx}{G:PN}{M:L2.St}{H:Hp}{s:Shared}
set_option tactic.hygienic true in
theorem Do(I:Inv X G M H s)(L:X.ex=[])(w:A.frames=X.A.frames)(W:A.depth+4 < recursionLimit)(a:uF s.heap l e (.ref C) [u])(F:FnU X.p X.w X.K X.g X.b N T ps (QF X.K f))(i:∀n:Shared,X.K.In n.heap->BindsTo n T ⟨[.ref e,u],[]⟩ (ps.zip [.ref e,u]))(g:ExcSt X.K C f)(ru:RelV v u) :
  wpAny (model X.p X.w) A (call (.ref N) [.ref e,u]) (λr n=>r=.none/\∃d,H e=none/\H d=none/\d≠e/\Inv X G M (upd (upd H e (.ext (wn e C d))) d (.xd [(f,v)])) n) (λ_ _=>False) { s with heap:=l }:=by
 obtain⟨t,j,_,_⟩:=a.there;have y:H e=none:=wg I a.new;have P:Inv X G M H { s with heap:=l }:=I.kept (t':=s.toks) a.keeps;have D:X.z.heap.get? e=none:=by
  cases q:X.z.heap.get? e with
  |none=>rfl
  |some o=>obtain⟨o',z⟩:=I.base.there _ o q (by rw[L];simp);rw[a.new]at z;cases z
 have b:Inv X G M (upd H e (.ext (Gk e C))) { s with heap:=l }:=by
  refine oB P D y (λz=>?_) (λx c R z=>?_) (λp V z=>?_) ⟨⟨t,j⟩,⟨_,j⟩,λha i ⟨t,q⟩ k=>⟨t,k _ q⟩⟩
  .obtain⟨m,⟨o,_,_,q,_⟩,_⟩:=I.loc;rw[<- z,a.new]at q;cases q
  .obtain⟨w',o,q,_⟩:=I.cell x c R;rw[z,a.new]at q;cases q
  .obtain⟨q,_⟩:=I.pin p V;rw[z,a.new]at q;cases q
 have h:=b.env0;refine kE (kF (F.run A X.k _ _ ⟨[.ref e,u],[]⟩ [.ref e,u] [.ref e,v] (λr H'=>r=.non/\∃d,H d=none/\d≠e/\H'=upd (upd H e (.ext (wn e C d))) d (.xd [(f,v)])) W ⟨w.trans h.frames,h.mod,h.bs,h.bsz,h.funs,h.frf,h.h,h.bare⟩ (i _ b.kIn) (.cons rfl (.cons ru .nil)) ?_) λr n q=>?_)
 .refine⟨e,C,v,rfl,aJ,g,λd S K=>⟨rfl,d,?_,K,?_⟩⟩
  .rw [aq K]at S;exact S
  .rw [IR]
 .cases r with
  |error x=>exact q.elim
  |ok Q=>
   cases Q with
   |ret u2=>obtain⟨v2,H',B,rv,E,d,Z,n2,rfl⟩:=b.after q;subst E;exact⟨rv,d,y,Z,n2,B⟩
   |next=>exact q.elim
   |brk=>exact q.elim
   |cont=>exact q.elim
end
def TF(K:FG)(C f:Addr):Prop:=∃t N o I,K.lookup C=some o/\Kx.XO o C N t/\vD K Kx.JO t=true/\vA K N=true/\(∀h:Heap,K.In h->h.nsMap N "__init__"=some (.ref f))/\K.lookup f=some I/\I.cls=.type "function"
section
variable{X:Cx}{G:PN}{M:L2.St}{H:Hp}{s:Shared}
theorem x2{E:XK}{a W D K:Addr}{d f:Str}{ps:LS}{fd:FuncData}{i:Nat}{v:V}{arg k:Expr}{np c j:Pos}(l:Leaves X E)(hr:X.A.depth+5 < recursionLimit)(I:Inv X G M H s)(m:H a=some (.ext (ee a W none)))
  (gl:Gl X d) (L:X.g d=some (.ref D)) (A:(d == ("__debug__":Str))=false) (q:TF X.K D K) (F:FnU X.p X.w X.K X.g X.b K fd ps (QF X.K f)) (hb:∀(S:Shared)(e:Addr)(u:Value),X.K.In S.heap->BindsTo S fd ⟨[.ref e,u],[]⟩ (ps.zip [.ref e,u])) (g:ExcSt X.K D f)
  (ha:PE (gL X (.ref a)) arg (Je i)) (hv:M[i]? = some (some v)) (w:starEach [arg] X.e=[(false,eval arg X.e)]) (p:∀(s:Shared)(Q:VP)(E1:VP),Q .none s->wpAny (model X.p X.w) (X.A.mark (some (.ref a))) (eval k X.e) Q E1 s)
  (go:∀h,H h=none->E (.ref D) (some h) (upd H h (.xd [(f,v)]))) :
  wpAny (model X.p X.w) (X.A.mark (some (.ref a))) (exec (.Raise (some (.Call (.Name d np) [arg] [] c)) (some k) j) X.e) (λ_ _=>False) (notedBy (model X.p X.w) (X.A.mark (some (.ref a))) X.e (cameBackBy (model X.p X.w) X.A X.e X.xe)) s:=by
 obtain⟨tl,N,oC,oI,lk,xo,q4,q5,q6,C,B⟩:=q;have T:=vJ I.kIn q4;rw[arm_exec_Raise];refine aa (lY ?_);refine Kx.rK (a:=a) xo (T.hasType pX.hasBase) rfl (λs Q z=>aa (p s _ _ (aa (lY (aj z))))) ?_;refine aa ?_;refine Kx.DP (N:=N) (T:=K) (tl:=tl) (mp:=X.b.nsMap N) (o:=oC) (oI:=oI) (by rw[w];rfl) (j9 (lw I (.ref a)) gl L ⟨rfl,?_⟩ A);rw[w];refine ll (fB ?_);show wpAny _ _ (eval arg X.e) _ _ s;refine aU (ha G s M H (λx Z=>x=v/\Z=H) (lw I (.ref a)) ⟨v,hv,rfl,rfl⟩) (λu s2 z=>iT ?_) λ_ _ z=>z.elim;obtain⟨x,Z,n,ru,rfl,rfl⟩:=z;refine⟨rfl,(by show 1≤sizeLine;decide),⟨xo,n.kIn _ _ lk,vJ n.kIn q4,(Heap.Ns.of_isNs (BH I.o.mod.kin q5)).keeps n.bk,q6 _ I.o.mod.kin,n.kIn _ _ C,B⟩,λh1 e hx=>?_⟩;have b0:X.z.heap.get? e=none:=by
  cases q:X.z.heap.get? e with
  |none=>rfl
  |some o=>obtain⟨o',z⟩:=n.base.there _ o q (by rw[show(gL X (.ref a)).ex=[] from l.ex];simp);rw[hx.new]at z;cases z
 refine aU (Do (X:=gL X (.ref a)) n l.ex rfl (by rw[r_];show X.A.depth+1+4 < _;lia) hx F (λS z=>hb S e u z) g ru) (λr s3 z=>?_) λ_ _ z=>z.elim;obtain⟨rfl,h,n1,R,ne,I3⟩:=z;have y:=rJ I.o I3;refine⟨rfl,aa (lY (aj ?_))⟩;have ae:a≠e:=λz=>by rw[z,n1]at m;cases m
 have ad:a≠h:=λz=>by rw[z,R]at m;cases m
 obtain⟨⟨t,he⟩,_,_⟩:=(show cM X.p X.w _ s3.heap e (.ext (wn e D h)) from y.h e _ (by rw[aq (aC ne),aJ]));obtain⟨⟨o,ho,_,_,vs,P,h2⟩,_,_⟩:=(show cM X.p X.w _ s3.heap a (.ext (ee a W none)) from y.h a _ (by rw[aq ad,aq ae];exact m));refine⟨e,t,some h,#[],o,vs,rfl,ae,y.kIn _ _ lk,he,ho,P,h2 rfl,λh4 e4 k4=>?_⟩;exact JN l y n1 R ne b0 he rfl e4 rfl rfl rfl rfl (λb o z z2=>k4 b o z z2) (go h R) rfl
end
section
variable{X:Cx}{G:PN}{M:L2.St}{H:Hp}{s:Shared}
theorem yi{E t:XK}{e:Value}{v:Shared}{c:Str}{r:Addr}{d:Stmt}{S p:Pos}{bS:List ExceptHandler}{D:Ends}(l:Leaves X E)(I:Inv X G M H s)(y:zR X.p X.w X.k H s t e v)
  (u:Gl X c) (g:X.g c=some (.ref r)) (b:(c == ("__debug__":Str))=false)
  (k:∀(a:Addr) (h:Value) (od:Option Addr) (x:Hp),e=.ref a->t h od x->x a=none->∃C,h=.ref C/\od=none/\gp X.K h (.ref r)=some true /\
   ∀f,Inv X G M (upd x a (.ext (ee a C none))) f->wpAny (model X.p X.w) (X.A.mark (some (.ref a))) (exec d X.e) (λ_ _=>False) (notedBy (model X.p X.w) (X.A.mark (some (.ref a))) X.e (cameBackBy (model X.p X.w) X.A X.e X.xe)) f) :
  wx X (noteFrame e X.e) (λ_ K=>wx X (setFlight e none) (λ_ P=>wx X (handleBy e X.e (.ExceptHandler (some (.Name c S)) none [d] p::bS)) (SP X G D) X.xe P) X.xe K) X.xe v:=by
 refine sS l.stk l.frm l.ex I y u g b λa h od x q F j=>?_;obtain⟨C,i,rfl,m,o⟩:=k a h od x q F j;subst q;exact⟨C,i,m,λA n=>codeAny_handlers_suite (n λf w=>yM (aU (o _ w) (λ_ _ z=>z.elim) λ_ _ z=>z))⟩
end
noncomputable abbrev XV:=Str×Option (Str×P)
noncomputable abbrev EX:=Lc->aB->Option (XV×Lc×aB)
noncomputable abbrev LL:=Option (XV×Lc×aB)
noncomputable abbrev GX:=List D->aB->Option (XV×aB)
def C1(X:Cx)(c:Str)(od:Option Addr)(M:L2.St)(H:Hp):Prop:=∀C,a_ X.K mainGlobals c=some (some (.ref C)) ->
 ∀(G:PN)(h:Hp)(s:Shared)(E:XK)(e:Value)(a:Shared),Inv X G M h s->zR X.p X.w X.k h s E e a->(∀l o x,E l o x->l=.ref C/\o=od/\x=H)->X.xe e a
def QC(X:Cx)(E:XK)(c:Str)(od:Option Addr)(H:Hp):Prop:=∀C,a_ X.K mainGlobals c=some (some (.ref C))->E (.ref C) od H
inductive tXI(X:Cx)(E:XK)(f:EX)(σ:L2.St)(H:Hp):Prop
 |mk (F:Aa) (m:List Addr) (L:Lc) (S:aB) (x:XV) (L':Lc) (S':aB) (h0_:Rel X.K F H m S) (h1_:RL X.K F H m σ L) (h2_:f L S=some (x,L',S')) (h3_:∀σ' F' m' H' od,Stp F m H F' m' H'->Rel X.K F' H' m' S'->RL X.K F' H' m' σ' L'->XD X.K F' H' x.2 od->QC X E x.1 od H'):tXI X E f σ H
noncomputable def tX(X:Cx)(E:XK)(f:EX):TS:=λ_ M H=>tXI X E f M H
inductive tXEI(X:Cx)(f:EX)(σ:L2.St)(H:Hp):Prop
 |mk (F:Aa) (m:List Addr) (L:Lc) (S:aB) (x:XV) (L':Lc) (S':aB) (h0_:Rel X.K F H m S) (h1_:RL X.K F H m σ L) (h2_:f L S=some (x,L',S')) (h3_:∀σ' F' m' H' od,Stp F m H F' m' H'->Rel X.K F' H' m' S'->RL X.K F' H' m' σ' L'->XD X.K F' H' x.2 od->C1 X x.1 od σ' H'):tXEI X f σ H
noncomputable def Jd(X:Cx)(f:EX):TE:=λM H _=>tXEI X f M H
def NO(X:Cx)(f:EX):TS:=λ_ M H=>Jd X f M H λ_ _=>True
@[simp] def yx(_L:Lc)(_S:aB):LL:=none
@[simp] def rh(f0:ES)(f g:EX)(L:Lc)(S:aB):LL:=match f0 L S with
 |some (.nx,h,x)=>g h x
 |some _=>none
 |none=>f L S
noncomputable def l8(g:jK)(b:ES)(x:EX):List P->Lc->aB->Option (XV×Lc×aB)
 | [],_,_=>none
 |v::r,L,S=>match g v L with
  |none=>none
  |some a=>match b a S with
   |some (.nx,L2,h)=>l8 g b x r L2 h
   |some (.ct,L2,h)=>l8 g b x r L2 h
   |some _=>none
   |none=>x a S
@[simp] def Lx(i:iQ)(g:jK)(b:ES)(x:EX)(L:Lc)(S:aB):LL:=bL (i L S) λs h=>l8 g b x s L h
@[simp] def yP(c:Str)(L:Lc)(S:aB):LL:=some ((c,none),L,S)
@[simp] def rj(fo:EE)(f:EX)(L:Lc)(S:aB):LL:=bL (fo L S) λd h=>match d9 d h with
 |some _=>f L h
 |none=>none
@[simp] def fH(g:GX)(a:nP)(L:Lc)(S:aB):LL:=bL (a L S) λd h=>(g d h).map λz=>(z.1,L,z.2)
section
variable{X:Cx}{d:Stmt}{bS bs cs:List Stmt}{e:Expr}{L:Ab}{j:Pos}{f0:ES}{f g:EX}{E:XK}
theorem Ro:jq X bS (tX X E yx):=λ_ _ _ _ _ _ ⟨_,_,_,_,_,_,_,_,_,q,_⟩=>nomatch q
theorem OA:PS X d (tX X E yx):=λ_ _ _ _ _ _ ⟨_,_,_,_,_,_,_,_,_,q,_⟩=>nomatch q
set_option tactic.hygienic true in
theorem Ln(v:PS X d (jJ X.K f0))(w:PS X d (tX X E f))(u:jq X bS (tX X E g)):jq X (d::bS) (tX X E (rh f0 f g)):=λG s M H D I z=>by
 obtain⟨F,m,L,S,c,x,B,r,l,q,k⟩:=z;unfold rh at q;split at q
 .rename_i a e p;exact m7 v u G s M H D I ⟨F,m,L,S,.nx,a,e,r,l,p,λQ n y R A K i=>⟨n,y,a,e,c,x,B,K,i,q,λh b o t od C P j N=>k h b o t od (A.trans C) P j N⟩⟩
 .cases q
 .exact m7 w (oh (X:=X)) G s M H D I ⟨F,m,L,S,c,x,B,r,l,q,k⟩
theorem KD(h:PS X d (tX X E f)):jq X [d] (tX X E f):=m5 h
theorem Ml(x:jq X bS t)(a:jq X bS u):jq X bS (λD M H=>t D M H\/u D M H):=λG s M H D I h=>h.elim (x G s M H D I) (a G s M H D I)
theorem OB{tg iter:Expr}{fi:iQ}{g:jK}{b:List Stmt}{u:ES}{Q:EX}(hp:PassesOwn (model X.p X.w) X.A X.e X.xe)(hc:X.c=true)(hi:PI X tg iter (tI X.K fi))(hg:PG X tg (gT X.K g))(hb:jq X b (jJ X.K u))(hx:jq X b (tX X E Q))
  (hs:∀x,foldedSetIterable iter X.e x=pure x:=by intro _;rfl):PS X (.For tg iter b [] j) (tX X E (Lx fi g u Q)):=
 (FO hp hc hi hg (Ml hb hx) hs).imp' λD M H hz=>by
  obtain⟨F,m,L,S,c,L',B,r,l,q,k⟩:=hz;obtain⟨v,S1,e1,q⟩:=ah q;refine⟨F,m,L,S,v,S1,r,l,e1,fun J9 C T H1 s1 r1 it=>?_⟩;refine⟨fun i n K w=>n=v.length-i/\i≤v.length/\∃s a L2 f,Stp C T H1 s a w/\Rel X.K s w a f/\RL X.K s w a K L2/\l8 g u Q (v.drop i) L2 f=some (c,L',B),
   ⟨v.length,rfl,ck _,C,T,L,S1,.refl,r1,l.mono s1,by rw[mM];exact q⟩,?_⟩
  rintro i n K w ⟨rfl,hi,s,a,L2,f,s2,r2,l2,h⟩;obtain⟨go,_⟩:=it s a w s2;by_cases t:i < v.length
  .right;have hv:v[i]? = some v[i]:=by simp[t]
   rw[vm t]at h;obtain⟨hgo,hy⟩:=go i _ hv;refine⟨hgo,λP p=>∃n',n' < v.length-i/\(n'=v.length-(i+1)/\i+1≤v.length/\∃s a L2 f,Stp C T H1 s a p/\Rel X.K s p a f/\RL X.K s p a P L2/\l8 g u Q (v.drop (i+1)) L2 f=some (c,L',B)),λ_ _ z=>z,λx p y=>?_⟩;obtain⟨G,gr,p3⟩:=hy x p y;unfold l8 at h;cases eg:g v[i] L2 with
   |none=>rw[eg]at h;cases h
   |some N=>
    rw[eg]at h;dsimp only at h;refine⟨G,a,L2,v[i],N,l2.mono gr.stp,p3,eg,λP l3=>?_⟩;have s3:Stp C T H1 G a p:=s2.trans gr.stp;have r3:=r2.grow gr;cases eb:u N f with
    |none=>rw[eb]at h;exact .inr ⟨G,a,N,f,c,L',B,r3,l3,h,λA I V H4 od Z W R xd=>k A I V H4 od (s1.trans (s3.trans Z)) W R xd⟩
    |some z=>
     obtain⟨o,L4,S4⟩:=z;rw[eb]at h;refine .inl ⟨G,a,N,f,o,L4,S4,r3,l3,eb,λA I V H4 Z W R=>?_⟩;cases o with
     |nx=>exact⟨v.length-(i+1),by lia,rfl,t,I,V,L4,S4,s3.trans Z,W,R,h⟩
     |ct=>exact⟨v.length-(i+1),by lia,rfl,t,I,V,L4,S4,s3.trans Z,W,R,h⟩
     |bk=>cases h
     |rt d=>cases h
  .have e:i=v.length:=by lia
   subst e;rw[qg]at h;cases h
def SW(K:FG)(C:Addr):Prop:=∃t N o,K.lookup C=some o/\Kx.XO o C N t/\vD K Kx.JO t=true/\vA K N=true/\a_ K N "__init__"=some none
theorem IM(K:Leaves X E)(a:X.c=true)(f:Gl X c)(A:a_ X.K mainGlobals c=some (some (.ref C)))(g:X.g c=some (.ref C))(q:SW X.K C)(h:(c == ("__debug__":Str))=false) :
  PS X (.Raise (some (.Call (.Name c np) [] [] b)) none j) (tX X E (yP c)):=λG s M H D I z=>by
 obtain⟨F,m,L,S,c',L',B,r,l,Q,k⟩:=z;cases Q;have t:=k M F m H none .refl r l rfl C A;obtain⟨tl,N,_,lk,⟨P,W,bs,hd,Z,sub,n,o,d,v,w,u,i,y,rfl⟩,R,x,V⟩:=q;have T:=vJ I.kIn R;exact wpAny_Raise_call_subT (C:=C) (nm:=P) (q:=W) (N:=N) (bs:=bs) (bm:=tl) (hdct:=hd) (sn:=Z) (sub:=sub) (ab:=n) (col:=o) (dd:=d) (k0:=v) (k1:=w) (k2:=u) (k3:=i) (k5:=y) pX
  (T.hasType pX.hasBase) (I.o.hd a) rfl (PySem.W.nsMap_none_of_in I.kIn x V) (j9 I f g ⟨rfl,evalArgs_empty ⟨rfl,ck _,I.kIn _ _ lk,.of_isNs (BH I.kIn x),T,λh1 e p=>leave_new K I p t⟩⟩ h)
inductive spEI(K:FG)(gx:GX)(vs:List V)(H:Hp)(E:XK):Prop
 |mk (F:Aa) (m:List Addr) (ds:List D) (S:aB) (x:XV) (S':aB) (h0_:Rel K F H m S) (h1_:dA K F H m ds vs) (h2_:gx ds S=some (x,S')) (h3_:∀F' m' H' od,Stp F m H F' m' H'->Rel K F' H' m' S'->XD K F' H' x.2 od->∃C,a_ K mainGlobals x.1=some (some (.ref C))/\E (.ref C) od H'):spEI K gx vs H E
noncomputable def NP(K:FG)(g:GX):Sp:=λv H _ E=>spEI K g v H E
def Hq(K:FG)(g:GX):Prop:=∀d S x B,g d S=some (x,B)->∃C,a_ K mainGlobals x.1=some (some (.ref C))
set_option tactic.hygienic true in
theorem Lo(h:FnOk X.p X.w X.K X.g X.b (zR X.p X.w) k fa fd ps (NP X.K T))(cl:Hq X.K T)(hr:Room k X.A)(hg:Gl X x)(hm:X.g x=some (.ref fa))(hk:dZ X.K (.ref fa)=true)(hb:Binds X.K fd ps [])
  (ha:PA X (e::L) (yy X.K y)) (R:(x == ("__debug__":Str))=false) (he:starEach (e::L) X.e=(false,eval e X.e)::starEach L X.e) (W:(backTo j (starEach L X.e)).any (·.1)=false) :
  PE X (.Call (.Name x p) (e::L) [] j) (Jd X (fH T y)):=λG s M H Q I Z=>by
 obtain⟨F,m,n,S,c,L',B,r,l,q,kk⟩:=Z;obtain⟨E,P,e1,q⟩:=ah q;obtain⟨⟨A,S2⟩,eg,q⟩:=eQ.mp q;cases q;obtain⟨C,ns⟩:=cl E P A S2 eg;refine l0 (j9 I hg hm ?_ R);refine qH (h₀:=X.b) I.o.mod.kin hk (du (ha j G s M H (λvs g=>NP X.K T vs g Q (λb od t=>b=.ref C/\C1 X A.1 od M t)) I ⟨F,m,n,S,E,P,r,l,e1,λxs F' m' H' s' r' p'=>⟨F',m',E,P,A,S2,r',p',eg,λF2 m2 t od i r2 xd=>⟨C,ns,rfl,kk M F2 m2 t od (s'.trans i) r2 (l.mono (s'.trans i)) xd⟩⟩⟩) λK s1 Z=>?_) he W;obtain⟨vs,g,v,rv,q1⟩:=Z;refine⟨v.kIn,?_⟩;have hl:K.length=ps.length:=by rw[<- rv.length];exact h.len _ _ _ _ q1
 refine kE (kF (h.run X.A X.k s1 g ⟨K,[]⟩ K vs Q _ hr v.env0 (by have:=hb s1 K v.kIn (by simpa using hl);simpa using this) rv q1) λr2 i w=>?_);cases r2 with
 |error ev=>obtain⟨a,b,a0,H',f,od,rfl,os,d,un,V,hn,c0,D,c2,N,sx,rfl,qe⟩:=w;exact qe C ns G g s1 (λb o t=>b=.ref C/\o=od/\t=H') _ i v ⟨a,.ref C,a0,H',f,od,rfl,os,d,un,V,hn,c0,D,c2,N,sx,rfl,rfl,rfl⟩ λb o t z=>z
 |ok N=>
  cases N with
  |ret u=>exact v.after w
  |next=>exact False.elim w
  |brk=>exact False.elim w
  |cont=>exact False.elim w
theorem OO{D:Ends}{M:L2.St}{H:Hp}(v:Leaves X E)(h:tX X E f D M H):NO X f D M H:=by obtain⟨F,m,L,S,c,b,B,r,l,q,k⟩:=h;refine⟨F,m,L,S,c,b,B,r,l,q,λa F' m' H' od s r l w C d G g i u e j I p t=>Gu v I p λx o n z=>?_⟩;obtain⟨rfl,rfl,rfl⟩:=t x o n z;exact k a F' m' _ _ s r l w C d
set_option tactic.hygienic true in
theorem E3(E:PE X o (tE X.K fo))(C:PE X e (Jd X f))(t:starEach [e] X.e=[(false,eval e X.e)])
  (b:attributeBase o "append" X.e (eval o X.e)=eval o X.e) (n:(c.endLine == N.line)=true):PE X (.Call (.Attribute o "append" c) [e] [] N) (Jd X (rj fo f)):=
 (F9 pW Ap Ar ou E (d7 C gM (by rw[t];rfl)) b (by rw[t];rfl) n (by rw[t];rfl) rfl).imp' λM H Q G=>by
  obtain⟨F,m,h,S,x,y,B,r,l,q,k⟩:=G;obtain⟨d,w,K,q⟩:=ah q;refine⟨F,m,h,S,d,w,r,l,K,λv j I W g u R=>?_⟩;split at q
  .rename_i z P;obtain⟨i,Z⟩:=z;obtain⟨rfl,L⟩:=lx P;obtain⟨a,rfl,D⟩:=id R;obtain⟨V,A,rs⟩:=u.obj i a _ D L;exact⟨.inl ⟨rfl,V,iO.of A⟩,j,I,h,w,x,y,B,u,l.mono g,q,λp F' m' H' od s r l T=>k p F' m' H' od (g.trans s) r l T⟩
  .cases q
theorem LH(h:PE X e (Jd X f))(s:swapsWith e none j.line X.e=pure false):PS X (.Expr e j) (NO X f):=(Cb h s).imp' λ_ _ _ z=>z
theorem KG(h:PE X e (Jd X f)):PS X (.Return (some e) j) (NO X f):=(FM h).imp' λ_ _ _ z=>z
theorem Oz(i:Nat)(N:X.N.Nodup)(h:PE X e (Jd X f))(s:X.N[i]? = some x)(k:Loc X.e.scope x)(n:swapsWith e (some (.Name x pos')) j.line X.e=pure false)(a:X.fn x=true\/X.e.scope.names.lookup x=some .local):PS X (.Assign [.Name x pos'] e j) (NO X f):=
 (FK N s k h n a).imp' λ_ _ _ z=>z
end
noncomputable def fnX(p n:Nat)(b:EX):GX:=λd S=>if d.length=p then (b (d.map some++List.replicate (n-d.length) none) S).map λz=>(z.1,z.2.2) else none
theorem M'{Pg:Program}{w:World}{K:FG}{mg:SV}{n:Heap}{x u:Str}{d:Stmt}{f:Addr}{g:FuncData}{N ps:LS}{k:Nat}{b:EX}(F:Fun K x u d f g)(S:FnScope N ps (aK d))(Z:∀{F:Aa}{H:Hp}{m:List Addr}{a:List D}{e:List V},dA K F H m a e->RL K F H m (L2.start N e) (a.map some++List.replicate (N.length-a.length) none))
  (I:∀(v:Value) (A:Around) (o:List Env) (s:Shared) (H:Hp) (E:XK),Room k (A.deeper (envOfC u (aK d) s.heap.objs.size f v)) ->
   jq (pH (zR Pg w) Pg w K mg n N u (aK d) f v A o s H E) (cE d) (tX (pH (zR Pg w) Pg w K mg n N u (aK d) f v A o s H E) E b)):FnOk Pg w K mg n (zR Pg w) (k+1) f g ps (NP K (fnX ps.length N.length b)):=by
 obtain⟨oc,od,kV,P,pm,an,v,ct,T,rfl,lk,t⟩:=F.ex;refine K9 lk t S (λe H Q E h=>?_) λA o s H e Q E M h=>⟨_,I v A o s H E M,?_⟩
 .obtain⟨F,m,a,S,c,B,l,r,q,i⟩:=h;rw[<- r.length];unfold fnX at q;split at q
  .assumption
  .cases q
 .obtain⟨F,m,a,S,c,B,l,r,q,i⟩:=h;unfold fnX at q;split at q
  .obtain⟨⟨z,L,y⟩,G,q⟩:=eQ.mp q;cases q;refine⟨F,m,_,S,z,L,y,l,Z r,G,λσ' F' m' H' od s' X l' xd C R=>?_⟩;obtain⟨j,p,W⟩:=i F' m' H' od s' X xd;cases (show some (some (Value.ref C))=some (some (Value.ref j)) from R.symm.trans p);exact W
  .cases q
noncomputable def y3(f0:ES)(e:EX)(sub:Str->Bool)(i:Nat)(g:ES):ES:=λL S=>match f0 L S with
 |some z=>some z
 |none=>match e L S with
  | some (c,x,h)=>if sub c.1=true then (match g (x.set i (some (.ref h.length))) (h++[.exc c.1 c.2]) with
   |some (f,L2,a)=>some (f,L2.set i none,a)
   |none=>none) else none
  |none=>none
section
variable{X:Cx}
theorem RL.clr {K:FG}{F:Aa}{H:Hp}{m:List Addr}{M:L2.St}{L:Lc} (h:RL K F H m M L) (i:Nat):RL K F H m (M.set i none) (L.set i none):=⟨by rw [cN,cN];exact h.len,fun j d q=>by
 by_cases x:i=j
 .subst x;by_cases a:i < L.length
  .rw [bH a]at q;cases q
  .rw [qw (by rw[cN];lia)]at q;cases q
 .rw [aL x]at q;rw[aL x];exact h.at' j d q⟩
noncomputable abbrev gH(X:Cx)(E:VP)(p:PN):Cx:={ X with xe:=E,pn:=p }
set_option tactic.hygienic true in
theorem N7{b:List Stmt}{c n:Str}{C2:Addr}{i:Nat}{b0:Stmt}{w:List Stmt}{np R j:Pos}{f0 g:ES}{fx:EX}{sub:Str->Bool}(stk:X.k=X.e::X.o)(frm:X.e.frame=some X.e.locals)(ex:X.ex=[])(hN:X.N.Nodup)
  (gl:Gl X c) (mgc:X.g c=some (.ref C2)) (hdb:(c == ("__debug__":Str))=false) (hi:X.N[i]? = some n) (hl:X.e.scope.names.lookup n=some .local)
  (h0:∀E pn,jq (gH X E pn) b (jJ X.K f0)) (hx:∀E pn,jq (gH X E pn) b (NO (gH X E pn) fx)) (hg:∀e,jq (gL X e) (b0::w) (jJ X.K g))
  (hs:∀x C,sub x=true->a_ X.K mainGlobals x=some (some (.ref C))->gp X.K (.ref C) (.ref C2)=some true) :
  PS X (.Try b [.ExceptHandler (some (.Name c np)) (some n) (b0::w) R] [] [] j) (jJ X.K (y3 f0 fx sub i g)):=λG s M H D I hz=>by
 obtain⟨F,m,L,S,fl,L',B,r,l,q,k⟩:=hz;unfold y3 at q;split at q
 .rename_i z e0;cases q;refine uP (aU (h0 (λ_ _=>False) X.pn G s M H D (I.wish _) ⟨F,m,L,S,fl,L',B,r,l,e0,k⟩) (λf s1 t=>?_) λ_ _ z=>z.elim);have t:=SP.unwish (X:=X) (E:=λ_ _=>False) t;cases f with
  |next=>exact aj t
  |_=>exact t
 .split at q
  .rename_i x Z N e1;split at q
   .rename_i T;split at q
    .rename_i fl2 Lg Sg eg;cases q;have IX:∀{E:VP}{v:PN}{W:L2.St}{H2:Hp}{s2:Shared},Inv (gH X E (X.pn++G)) v W H2 s2->Inv X G W H2 s2:=λh=>
      ⟨⟨h.o.mod,h.o.kind,h.o.glob,h.o.blt,h.o.above,h.o.inj,h.o.has,h.o.cab,h.o.hd,h.o.frames,h.o.stk,h.o.exf,h.o.bs,h.o.bsz,h.o.noex,h.o.exfs,h.o.funs,h.o.frf⟩,h.os,h.bare,h.base,h.loc,h.cell,h.free,h.freeC,λp hp=>h.pin p (iU _ hp),h.h,h.len⟩
     have XI:∀E:VP,Inv (gH X E (X.pn++G)) [] M H s:=λE=>
      ⟨⟨I.o.mod,I.o.kind,I.o.glob,I.o.blt,I.o.above,I.o.inj,I.o.has,I.o.cab,I.o.hd,I.o.frames,I.o.stk,I.o.exf,I.o.bs,I.o.bsz,I.o.noex,I.o.exfs,I.o.funs,I.o.frf⟩,I.os,I.bare,I.base,I.loc,I.cell,I.free,I.freeC,λp hp=>I.pin p ((bP.mp hp).elim id λz=>nomatch z),I.h,I.len⟩
     refine uP (aU (hx _ (X.pn++G) [] s M H ⟨λ_ _=>False,λ_ _=>False,λ_ _=>False,λ_ _=>False⟩ (XI _) ⟨F,m,L,S,x,Z,N,r,l,e1,λV P Q H1 od s1 r1 l1 xd C ns v H2 s2 E e s3 h hc hE=>?_⟩) (λf s1 t=>?_) λe s1 t=>t)
     .refine Hs (D:=D) (ts:=λ_=>jJ X.K g) stk frm ex hN (IX h) hc gl mgc hdb hi hl hg λa cls o A he qe hn=>?_;obtain⟨rfl,rfl,rfl⟩:=hE cls o A qe;have s5:Stp P Q A P (Q++[a]) (upd A a (.ext (ee a C o))):=fJ hn;have r5:Rel X.K P (upd A a (.ext (ee a C o))) (Q++[a]) (N++[.exc x.1 x.2]):=Rel.own (K:=X.K) (so:=.exc x.1 x.2) r1 hn ⟨C,o,ns,aJ,xd.kp s5.kp⟩;have l5:RL X.K P (upd A a (.ext (ee a C o))) (Q++[a]) (V.set i (some (.ref a))) (Z.set i (some (.ref N.length))):=RL.set (RL.mono s5 (show RL X.K P A Q V Z from l1)) (d:=.ref N.length) ⟨a,rfl,by rw[<- r1.len];simp⟩ i;refine⟨C,rfl,hs x.1 C T ns,P,Q++[a],Z.set i (some (.ref N.length)),N++[.exc x.1 x.2],fl,Lg,B,r5,l5,eg,λσ4 F4 m4 H4 s4 r4 l4=>?_⟩;have y:=k (σ4.set i none) F4 m4 H4 (s1.trans (s5.trans s4)) r4 (l4.clr i);cases fl with
      |nx=>exact y
      |bk=>exact y
      |ct=>exact y
      |rt d=>exact y
     .cases f with
      |next=>obtain⟨_,_,_,z⟩:=t;exact z.elim
      |brk=>obtain⟨_,_,_,z⟩:=t;exact z.elim
      |cont=>obtain⟨_,_,_,z⟩:=t;exact z.elim
      |ret u=>obtain⟨_,_,_,_,_,z⟩:=t;exact z.elim
    .cases q
   .cases q
  .cases q
end
open PySem.W (Looks)
open PySem.Builtin PySem.Builtin.ObjectAttr PySem.Builtin.Getset_descriptor
section
variable{i:Program}{w:World}{A:Around}{E:VP}{s:Shared}{K:FG}{a C:Addr}
theorem xu(T:Looks (model i w) s.heap (typeOf (.ref a)) (.ref C))(sub:Looks (model i w) s.heap (isSubtype (.ref C) (.type "object")) true)(h:R (.ok (.ret (.ref C))) s) :
  codeAny (model i w) A (.call (.builtin "getset_descriptor.__get__") ⟨[.builtin "object.__class__",.ref a,b],[]⟩) R s:=by
 have o:∀B:Around,wpAny (model i w) B (Builtin.«object.__class__» ⟨[.ref a],[]⟩) (λf u=>f=.done (.ret (.ref C))/\u=s) (λ_ _=>False) s:=λB=>by
  obtain⟨p,g,d,t,os⟩:=s;simp only[Builtin.«object.__class__»,shownTypeOf];repeat lk
  exact⟨rfl,rfl⟩
 have k:∀B:Around,wpAny (model i w) B (descrCheckInstance (.builtin "object.__class__") (.ref a)) (λ_ u=>u=s) (λ_ _=>False) s:=λB=>by obtain⟨p,g,d,t,os⟩:=s;simp only[descrCheckInstance,descrNameAndClass,isInstance,PySem.W.KF.owner_class];repeat lk
 obtain⟨q,x⟩:=And.intro PySem.W.KF.slot_gs PySem.W.KF.entry_gs;refine uX q.plain x (q.check _ _ _ _ _ _ _ _ PySem.W.KF.type_class (PySem.W.KF.args_gs _ _ _) ?_);simp only[Builtin.«getset_descriptor.__get__»,descrGet,PySem.W.dga_obj,descrGetter];refine aa (aj (aa (aU (k _) (λ_ u e=>?_) λ_ _ z=>z.elim)));subst e;refine aj ⟨uU (id:="object.__class__") _ (by decide +kernel),uM PySem.W.KF.entry_class (aU (o _) (λf u e=>?_) λ_ _ z=>z.elim)⟩;obtain⟨rfl,rfl⟩:=e;exact h
structure ExcCl(K:FG)(C:Addr):Prop where
 get:cc K (.ref C) "__getattribute__"=some (some (.builtin "BaseException.__getattribute__"))
 hook:cc K (.ref C) "__getattr__"=some none
 cls:cc K (.ref C) "__class__"=some (some (.builtin "object.__class__"))
 by':mV K (.builtin "object.__class__") "__get__"=some (some (.builtin "getset_descriptor.__get__"))
 dat:qD K (.builtin "object.__class__")=some true
 obj:jY K C (.type "object")=some true
 bas:jY K C (.type "BaseException")=some true
 isC:(mR K C).isSome=true
theorem G8(F:ExcCl K C)(n:K.In s.heap)(T:Looks (model i w) s.heap (typeOf (.ref a)) (.ref C))(q:k (some (.ref C)) { s with toks:=s.toks+1 }):wpAny (model i w) A (getAttr? (.ref a) "__class__") k E s:=by
 have sub:=qB (M:=model i w) n F.obj;have x:=qB (M:=model i w) n F.bas;have b:=jZ (M:=model i w) n F.get;have o:=jZ (M:=model i w) n F.hook;have m:Looks (model i w) s.heap (find (.ref a) (.ref C) "__class__") (.bind (.builtin "getset_descriptor.__get__") (.builtin "object.__class__")):=
  (jZ n F.cls).andThen ((show Looks (model i w) s.heap (getOf (some (.builtin "object.__class__"))) (some (.builtin "getset_descriptor.__get__")) from PySem.W.looks_specialIn n F.by').andThen
   ((show Looks (model i w) s.heap (dataDescriptor? (some (.builtin "object.__class__")) (some (.builtin "getset_descriptor.__get__"))) (some (.builtin "getset_descriptor.__get__",.builtin "object.__class__")) from(PySem.W.looks_takesIn n F.dat).andThen .now).andThen (Looks.tag .now)))
 have f:∀B:Around,∀tk:Tok,∀u:Shared,u.heap=s.heap->codeAny (model i w) B (.call (.builtin "BaseException.__getattribute__") ⟨[.ref a,.str "__class__" tk],[]⟩) (λr y=>r=.ok (.ret (.ref C))/\y=u) u:=λB tk u v=>by
  obtain⟨p,g,d,t,os⟩:=u;cases (show p=s.heap from v);have j:builtinKind "BaseException.__getattribute__"=some .slot:=by decide +kernel
  have l:splitId "BaseException.__getattribute__"=some ("BaseException","__getattribute__"):=by decide +kernel
  refine uX (by decide +kernel) Ag ?_;have c:=Af (.ref a) (.str "__class__" tk);simp only[checkBuiltinCall,j,l,isInstance];refine aa (aa (T.at (x.at ?_)));simp only[AC,jQ,ik];refine wpAny_of_eq c ?_;refine aa (aj (aa (aj (aa (T.at (aa (m.at ?_)))))));show wpAny _ _ (bindTo (.builtin "getset_descriptor.__get__") (.builtin "object.__class__") (.ref a) (.ref C)) _ _ _;exact aa (db (kE (xu (s:=⟨s.heap,g,d,t,os⟩) T sub (aj ⟨rfl,rfl⟩))))
 obtain⟨p,g,d,t,os⟩:=s;simp only[getAttr?,getAttrBy?,getAttrBy];refine aa (wpAny_mkText (aa (uJ (db (aa (T.at (aa (b.at ?_))))))));have h:(onTheHeap (Value.ref C) && Value.builtin "BaseException.__getattribute__" == Value.builtin "object.__getattribute__")=false:=by rw[show(Value.builtin "BaseException.__getattribute__" == Value.builtin "object.__getattribute__")=false by decide +kernel];rfl
 simp only[h,getAttrByItsOwn,hookBefore,jQ,ik];refine aa (wpAny_ite ?_);rw[am (show onTheHeap (Value.ref C)=true from rfl)];refine o.at (aa (uJ (db ?_)));have bound:=As.ga.bind (.ref a);simp only[callGetattribute,boundAndCalled,u0,jQ,ik,bound];refine aa (aj (kE (kF (f A t ⟨p,g,d,t+1,os⟩ rfl) λr u e=>?_)));obtain⟨rfl,rfl⟩:=e;exact Bv rfl (aj q)
end
section
variable{K:FG}{a C:Addr}{od:Option Addr}
theorem G7(p:ee a C od h):By k h (typeOf (.ref a)) (.ref C):=by obtain⟨o,x,c,_⟩:=p;rw[<- c];exact(AA x).andThen .now
set_option tactic.hygienic true in
theorem GA(F:ExcCl K C)(e:mU K (.ref C) (.ref C)=some true):PySem.W.KitX K (.ref a) (.ref C) (ee a C od) where
 ty:=λ_ _ _ p=>G7 p
 it:=λ_ _ k _=>(PySem.W.kit_cls k e).2.1
 ne:=λh x d i n f k t=>by
  rcases q:(Value.ref C == Value.ref x) with _|_
  .rfl
  .have same:C=x:=by simpa using q
   subst same;have s:=F.isC;unfold mR at s;split at s
   .next l=>exact nomatch (k _ _ l).symm.trans t
   .exact nomatch s
 ca:=λk p g=>G8 F k (G7 p) g
end
noncomputable def JY(I:Str->Option Bool):D->aB->Option Bool
 | .p .non,_=>some false
 | .ref i,S=>match S[i]? with
  |some (.exc c _)=>I c
  |_=>none
 |_,_=>none
@[simp] def oX(I:Str->Option Bool)(f:EE)(L:Lc)(S:aB):tyV:=bL (f L S) λd h=>(JY I d h).map λb=>(.bl b,h)
noncomputable def Q7:Value->Option V
 | .ref C=>some (.ref C)
 | .type T=>some (.ty T)
 |_=>none
variable{v:V}{u:Value}
theorem Nu(h:Q7 u=some v)(r:RelV v w):w=u:=by cases u<;>cases h<;>exact r
structure AnsOk(K:FG)(ans:Str->Option Bool)(u:Value):Prop where
 non:bD K (.type "NoneType") u=some false
 exc:∀c b C,ans c=some b->a_ K mainGlobals c=some (some (.ref C))->ExcCl K C/\mU K (.ref C) (.ref C)=some true/\bD K (.ref C) u=some b
section
variable{X:Cx}{a:Expr}{fa:EE}{p j:Pos}{I:Str->Option Bool}
set_option tactic.hygienic true in
theorem D3(y:Q7 u=some v)(K:AnsOk X.K I u) :
  dW X (.builtin "isinstance") (λt H Q=>∃F m S d b x,t=[x,v]/\Rel X.K F H m S/\RD X.K F H m d x/\JY I d S=some b/\Q (.bl b) H):=by
 intro G s M H t L Q a r h;obtain⟨F,m,S,d,b,x,rfl,B,pd,e,q⟩:=h;obtain⟨k,E,rfl,n,D⟩:=vals2 r;cases Nu y D;have f:∀tk,EP X G M Q (.bool b) { s with toks:=tk }:=λtk=>⟨.bl b,H,a.tok _,rfl,q⟩
 unfold JY at e;split at e
 .cases e;cases (show x=.non from pd);cases (show k=Value.none from n);exact vF PySem.W.kitx_none a.kIn trivial K.non (λz=>nomatch z) f
 .split at e
  .next j c _ o=>obtain⟨ad,rfl,l⟩:=pd;cases (show k=Value.ref ad from n);obtain⟨C,od,P,i,_⟩:=B.obj _ ad _ l o;obtain⟨p,w,g⟩:=K.exc c b C e P;have A:=a.h ad _ i;exact vF (GA p w) a.kIn A.1 g (λz=>nomatch z) f
  .cases e
 .cases e
theorem Of(o:Q7 u=some v)(K:AnsOk X.K I u)(g:Gl X "isinstance")(z:X.g "isinstance"=none)(t:PE X a (tE X.K fa))(w:PE X c (tC v))(e:starEach [a,c] X.e=[(false,eval a X.e),(false,eval c X.e)])(h:starEach [c] X.e=[(false,eval c X.e)]) :
  PE X (.Call (.Name "isinstance" p) [a,c] [] j) (tV X.K (oX I fa)):=
 (kM (D3 o K) g z AU (d7 t (d7 w gM (by rw[h];rfl)) (by rw[e,h])) (by decide) (by decide) (by rw[e,h]) (by rw[h];rfl)).imp' λM H Q P=>by obtain⟨F,m,L,S,d,B,r,l,q,k⟩:=P;obtain⟨x,C,f,q⟩:=ah q;obtain⟨b,i,q⟩:=eQ.mp q;cases q;exact⟨F,m,L,S,_,_,r,l,f,λy F' m' H' s n A=>⟨F',m',_,x,b,y,rfl,n,A,i,k _ F' m' H' s n rfl⟩⟩
end
@[simp] def ul(a:nP)(L:Lc)(S:aB):xb:=bL (a L S) λx h=>if few x=true then some (.ref h.length,h++[.tpl x]) else none
section
variable{X:Cx}{L:Ab}{y:nP}{j:Pos}
set_option tactic.hygienic true in
theorem Oo {N} (h:PA X L (yy X.K y)):PE X (.Tuple L N j) (tE X.K (ul y)):=(rV h).imp' λM H Q z=>by
 obtain⟨F,m,x,S,d,B,r,l,q,k⟩:=z;obtain⟨i,t,w,q⟩:=ah q;split at q
 .rename_i u;cases q;refine⟨F,m,x,S,i,t,r,l,w,λv a e s g b f=>⟨by rw[<- f.length];exact kW u,λp n=>?_⟩⟩;have c:Stp a e s a (e++[p]) (upd s p (.tup v)):=fJ n;refine k (.ref p) a (e++[p]) _ (g.trans c) (b.own n ⟨v,aJ,dA.mono c f⟩) ⟨p,rfl,?_⟩;rw[<- b.len,cB (al _)];simp
 .cases q
end
@[simp] def QY(Z:List (Str×Str))(r:EE)(f:Str)(L:Lc)(S:aB):xb:=bL (r L S) λd h=>match d with
 | .ref i=>match h[i]? with
  |some (.exc c (some z))=>if (z.1=f/\Z.lookup c=some f) then some (.p z.2,h) else none
  |_=>none
 |_=>none
section
variable{X:Cx}{o:Expr}{f:Str}{j:Pos}{fo:EE}{Z:List (Str×Str)}{ta:TE}
noncomputable def TX(K:FG)(ta:TE)(f:Str):TE:=λM H Q=>ta M H λx h=>∃a C d v,x=.ref a/\h a=some (.ext (ee a C (some d)))/\h d=some (.xd [(f,v)])/\ExcCl K C/\ExcSt K C f/\Q v h
theorem Pb(B:PE X o ta)(K:attributeBase o f X.e (eval o X.e)=eval o X.e):PE X (.Attribute o f j) (TX X.K ta f):=by intro G s M H Q I h;refine CW K (du (B G s M H _ I h) λu y D=>?_);obtain⟨x,k,n,W,a,C,d,v,F,z,S,c,g,q⟩:=D;subst F;obtain rfl:u=Value.ref a:=W;obtain⟨⟨V,P,p,hd,Z,i,_⟩,_,_⟩:=(show cM X.p X.w k y.heap a (.ext (ee a C (some d))) from n.h a _ z);obtain⟨E,N,r⟩:=(show cM X.p X.w k y.heap d (.xd [(f,v)]) from n.h d _ S);obtain⟨od,t,A⟩:=ud N;obtain⟨w,hw,e⟩:=ko.some_of (v:=v) (o:=E f) (by have:=r f;simpa[eD] using this);obtain⟨⟨cd,b,m,_⟩,_,L⟩:=g;obtain⟨oc,T,R,l⟩:=V;dsimp only at p hd i;subst p hd i;exact Kx.DO c.get c.hook c.bas n.kIn (N:=⟨.ref C,some d,.fields Z,l⟩) (od:=od) ⟨P,rfl,rfl,t⟩ (BI (by unfold qG;rw[b];exact m) L rfl (by rw[A,hw])) (uj e) ⟨v,k,n.tok _,e,q⟩
set_option tactic.hygienic true in
theorem TL(P:∀c C,Z.lookup c=some f->a_ X.K mainGlobals c=some (some (.ref C))->ExcCl X.K C/\ExcSt X.K C f)(E:PE X o (tE X.K fo))(A:attributeBase o f X.e (eval o X.e)=eval o X.e):PE X (.Attribute o f j) (tE X.K (QY Z fo f)):=
 (Pb E A).imp' λM H Q I=>by
  obtain⟨F,m,L,S,d,B,r,l,q,k⟩:=I;obtain⟨x,b,u,q⟩:=ah q;refine⟨F,m,L,S,x,b,r,l,u,λv s N n V e T=>?_⟩;cases x with
  |p w=>cases q
  |ref i=>
   obtain⟨a,rfl,D⟩:=T;dsimp only at q;split at q
   .rename_i c z G;split at q
    .rename_i h;cases q;obtain⟨C,od,R,K,t,v,rfl,W,hd,p⟩:=e.obj i a _ D G;obtain⟨g,y⟩:=P c C h.2 R;exact⟨a,C,t,v,rfl,K,by rw[hd,h.1],g,y,k v s N n V e p⟩
    .cases q
   .cases q
end
theorem MS{K:FG}{h:Heap}{N:Addr}{x:Str}{u:Value}(k:K.In h)(q:a_ K N x=some (some u)):h.nsMap N x=some u:=by
 cases lk:eD N K with
 |none=>simp[a_,lk]at q
 |some o=>
  obtain⟨c,d,a,s⟩:=o;cases a with
  |dict L n=>
   cases f:L.toList.find? (·.key.isStr x) with
   |none=>simp[a_,lk,f]at q
   |some e=>simp only[a_,lk,f]at q;simp only[Heap.nsMap,k _ _ lk,nsFind,findBy,<- AY,f];simpa using q
  |_=>simp[a_,lk]at q
def w9(K:FG)(C:Addr)(f:Str):Prop:=ExcSt K C f/\∃I d p,TF K C I/\(∀Pg w mg n,FnU Pg w K mg n I d p (QF K f))/\∀(s:Shared)(e:Addr)(u:Value),K.In s.heap->BindsTo s d ⟨[.ref e,u],[]⟩ (p.zip [.ref e,u])
@[simp] def xh(e:EX)(sub:Str->Bool)(i:Nat)(d f:Str)(L:Lc)(S:aB):LL:=match e L S with
 | some (x,h,a)=>if (sub x.1 && x.2.isNone)=true then (match h[i]? with
  |some (some (.p p))=>some ((d,some (f,p)),h,a)
  |_=>none) else none
 |none=>none
section
variable{X:Cx}
set_option tactic.hygienic true in
theorem N8{b:List Stmt}{h:ExceptHandler}{j:Pos}{f0:ES}(a:∀E p,jq (gH X E p) b (jJ X.K f0)):PS X (.Try b [h] [] [] j) (jJ X.K f0):=λG s M H D I z=>by
 refine uP (aU (a (λ_ _=>False) X.pn G s M H D (I.wish _) z) (λf e x=>?_) λ_ _ z=>z.elim);have x:=SP.unwish (X:=X) (E:=λ_ _=>False) x;cases f with
 |next=>exact aj x
 |_=>exact x
set_option tactic.hygienic true in
theorem LG{E:XK}{o:List Stmt}{arg:Expr}{c h f:Str}{C2 D:Addr}{np np2 N Z V j kp:Pos}{n i:Nat}{fx:EX}{sub:Str->Bool}(lv:Leaves X E)(hr:X.A.depth+5 < recursionLimit)
  (gl:Gl X c) (mgc:X.g c=some (.ref C2)) (hdb:(c == ("__debug__":Str))=false) (glD:Gl X h) (nsD:a_ X.K mainGlobals h=some (some (.ref D))) (mgD:X.g h=some (.ref D)) (R:(h == ("__debug__":Str))=false) (q:w9 X.K D f)
  (hx:∀E pn,jq (gH X E pn) o (NO (gH X E pn) fx)) (ha:∀e,PE (gL X e) arg (Je i)) (hst:starEach [arg] X.e=[(false,eval arg X.e)])
  (hs:∀c' C,sub c'=true->a_ X.K mainGlobals c'=some (some (.ref C))->gp X.K (.ref C) (.ref C2)=some true) :
  PS X (.Try o [.ExceptHandler (some (.Name c np)) none [.Raise (some (.Call (.Name h np2) [arg] [] N)) (some (.Constant .none n kp)) Z] V] [] [] j) (tX X E (xh fx sub i h f)):=λG s M H D' I hz=>by
 obtain⟨F,m,L,S,x,L',B,r,l,K,k⟩:=hz;unfold xh at K;split at K;case h_2=>cases K
 rename_i x0 L1 S1 e1;split at K;case isFalse=>cases K
 rename_i w;split at K;case h_2=>cases K
 rename_i p T;cases K;rw[az,Ay]at w;obtain⟨d,fI,fd,ps,xi,fu,hb⟩:=q;have IX:∀{E:VP}{y:PN}{σ2:L2.St}{H2:Hp}{s2:Shared},Inv (gH X E (X.pn++G)) y σ2 H2 s2->Inv X G σ2 H2 s2:=λt=>
  ⟨⟨t.o.mod,t.o.kind,t.o.glob,t.o.blt,t.o.above,t.o.inj,t.o.has,t.o.cab,t.o.hd,t.o.frames,t.o.stk,t.o.exf,t.o.bs,t.o.bsz,t.o.noex,t.o.exfs,t.o.funs,t.o.frf⟩,t.os,t.bare,t.base,t.loc,t.cell,t.free,t.freeC,λp T=>t.pin p (iU _ T),t.h,t.len⟩
 have XI:∀E:VP,Inv (gH X E (X.pn++G)) [] M H s:=λE=>
  ⟨⟨I.o.mod,I.o.kind,I.o.glob,I.o.blt,I.o.above,I.o.inj,I.o.has,I.o.cab,I.o.hd,I.o.frames,I.o.stk,I.o.exf,I.o.bs,I.o.bsz,I.o.noex,I.o.exfs,I.o.funs,I.o.frf⟩,I.os,I.bare,I.base,I.loc,I.cell,I.free,I.freeC,λp T=>I.pin p ((bP.mp T).elim id λz=>nomatch z),I.h,I.len⟩
 refine uP (aU (hx _ (X.pn++G) [] s M H ⟨λ_ _=>False,λ_ _=>False,λ_ _=>False,λ_ _=>False⟩ (XI _) ⟨F,m,L,S,x0,L',B,r,l,e1,λσ1 F1 m1 H1 od s1 r1 l1 xd C ns y H2 s2 E1 e s3 t hc hE=>?_⟩) (λf s1 P=>?_) λe s1 P=>P)
 .refine yi (D:=D') lv (IX t) hc gl mgc hdb λa cls W A he qe hn=>?_;obtain⟨rfl,rfl,rfl⟩:=hE cls W A qe;rw[w.2]at xd;cases (show W=none from xd);refine⟨C,rfl,rfl,hs x0.1 C w.1 ns,λs7 I7=>?_⟩;obtain⟨v,hv,rv⟩:=l1.at' i _ T;refine x2 (l:=lv) hr I7 aJ glD mgD R xi (fu _ _ _ _) hb d (ha (.ref a)) hv hst (λs Q E1 z=>AH z) λdx hdx=>?_;have g1:Grow F1 A F1 (upd A a (.ext (ee a C none))):=cu hn;have g2:Grow F1 (upd A a (.ext (ee a C none))) (λb=>F1 b\/b=dx) (upd (upd A a (.ext (ee a C none))) dx (.xd [(f,v)])):=cL hdx;have g:=g1.trans g2;exact k σ1 _ m1 _ (some dx) (s1.trans g.stp) (r1.grow g) (l1.mono g.stp) ⟨dx,v,rfl,.inr rfl,aJ,RP.grow g rv⟩ D nsD
 .cases f with
  |next=>obtain⟨_,_,_,z⟩:=P;exact z.elim
  |brk=>obtain⟨_,_,_,z⟩:=P;exact z.elim
  |cont=>obtain⟨_,_,_,z⟩:=P;exact z.elim
  |ret u=>obtain⟨_,_,_,_,_,z⟩:=P;exact z.elim
end
noncomputable def HK(k:Nat):D->D
 | .p v=>.p v
 | .ref i=>.ref (i+k)
def KQ(k:Nat):SO->SO
 | .lst d=>.lst (d.map (HK k))
 | .dct s d=>.dct s (d.map (HK k))
 | .fz v=>.fz v
 | .ins c s d=>.ins c s (d.map (HK k))
 | .exc c x=>.exc c x
 | .tpl d=>.tpl (d.map (HK k))
 | .dtt s d=>.dtt s (d.map (HK k))
@[simp] def wB(g:GF)(a:iQ)(L:Lc)(S:aB):xb:=bL (a L S) λp h=>match g (p.map .p) [] with
 |some (d,B)=>some (HK h.length d,h++B.map (KQ h.length))
 |none=>none
section
variable{K:FG}{F F':Aa}{H H':Hp}{m m':List Addr}{S B:aB}
theorem RD.sh(h:RD K F H m' k v):RD K F H (m++m') (HK m.length k) v:=by
 cases k with
 |p w=>exact h
 |ref i=>obtain⟨a,e,x⟩:=h;exact⟨a,e,by rw[cB (by lia),qA];exact x⟩
theorem dA.sh:∀{s:List D}{a:List V},dA K F H m' s a->dA K F H (m++m') (s.map (HK m.length)) a
 | [],_,h=>h
 |d::s,_,h=>by obtain⟨x,r,e,n,k⟩:=h;exact⟨x,r,e,n.sh,k.sh⟩
theorem RO.sh(h:RO K F H m' a o):RO K F H (m++m') a (KQ m.length o):=by
 cases o with
 |lst d=>obtain⟨f,e,r⟩:=h;exact⟨f,e,r.sh⟩
 |dct b d=>obtain⟨k,e,s,r⟩:=h;exact⟨k,e,s,r.sh⟩
 |fz v=>exact h
 |ins c b d=>obtain⟨C,t,k,n,e,s,r⟩:=h;exact⟨C,t,k,n,e,s,r.sh⟩
 |exc c x=>exact h
 |tpl d=>obtain⟨f,e,r⟩:=h;exact⟨f,e,r.sh⟩
 |dtt b d=>obtain⟨k,e,s,r⟩:=h;exact⟨k,e,s,r.sh⟩
theorem Jj(h:(KQ k o).own):o.own:=by cases o<;>exact h
theorem Rel.join(r:Rel K F H m S)(s:Stp F [] H F' m' H')(k:Rel K F' H' m' B):Rel K F' H' (m++m') (S++B.map (KQ S.length))/\Stp F m H F' (m++m') H':=by
 have c:∀b,b ∈ m'->H b=none:=λb h=>(s.nm b h).elim (λz=>by cases z) id;have d:Stp F m H F' m H':=⟨⟨[],by simp⟩,λb o h _=>s.oth b o h (by simp),s.frz,s.frk,s.tup,s.trk,λb h=>(s.nf b h).imp id (λz=>z.imp id (λz=>by cases z)),λ_ h=>.inl h⟩;have v:Rel K F' H' m S:=r.stay d (λa u _ h=>s.oth a u h (by simp)) (λa f=>(s.nf a f).imp id (λz=>z.elim id (λz=>by cases z))) k.ft;have l:=r.len;refine⟨⟨by rw[bx,bx,bn,r.len,k.len],?_,λi a o x n=>?_,λi a o x n w f=>?_,λa h=>?_,k.ft⟩,⟨⟨m',rfl⟩,d.oth,s.frz,s.frk,s.tup,s.trk,d.nf,λb h=>(bP.mp h).imp id (c b)⟩⟩
 .rw [vd];exact⟨r.nd,k.nd,λa g b j e=>r.trk a g (by rw[e];exact c b j)⟩
 .by_cases p:i < m.length
  .rw [cA p]at x;rw[cA (by lia)]at n;exact(v.obj i a o x n).kp ⟨⟨m',rfl⟩,λ_ h=>h,λ_ _ _ h=>h,λ_ _ h=>h⟩ λu h=>h
  .rw [cB (by lia)]at x;rw[cB (by lia),dC,<- l]at n;obtain⟨q,t,rfl⟩:=eQ.mp n;exact(k.obj _ a q x t).sh
 .by_cases p:i < m.length
  .rw [cA p]at x;rw[cA (by lia)]at n;exact v.sep i a o x n w f
  .rw [cB (by lia)]at x;rw[cB (by lia),dC,<- l]at n;obtain⟨q,t,rfl⟩:=eQ.mp n;exact k.sep _ a q x t (Jj w) f
 .rcases bP.mp h with h|h
  .exact v.trk a h
  .exact k.trk a h
end
section
variable{X:Cx}{e:Expr}{L:Ab}{y:iQ}{j:Pos}
set_option tactic.hygienic true in
theorem LD(G:FnOk X.p X.w X.K X.g X.b pL k f N ps (qL X.K g))(W:Room k X.A)(R:Gl X x)(V:X.g x=some (.ref f))(T:dZ X.K (.ref f)=true)(E:Binds X.K N ps [])
  (D:PA X (e::L) (sW X.K y)) (b:(x == ("__debug__":Str))=false) (I:starEach (e::L) X.e=(false,eval e X.e)::starEach L X.e) (a:(backTo j (starEach L X.e)).any (·.1)=false) :
  PE X (.Call (.Name x p) (e::L) [] j) (tE X.K (wB g y)):=
 (qM G W R V T E .nil rW D b I a).imp' λM H Q Z=>by
  obtain⟨F,m,h,S,d,B,r,l,q,k⟩:=Z;obtain⟨n,o,A,q⟩:=ah q;split at q;case h_2=>cases q
  rename_i P K C;cases q;refine⟨F,m,h,S,n,o,r,l,A,λxs w c i s1 s p1=>?_⟩;show qL X.K g (xs++[]) i Q E0;rw[dB];refine⟨w,[],n.map .p,[],P,K,⟨rfl,by simp,by simp,by simp,by simp,s.ft⟩,dA.ofP p1,C,λv u m2 z s2 r2 p2=>?_⟩;obtain⟨r3,s3⟩:=s.join s2 r2;have t:=RD.sh (m:=c) p2;rw[s.len]at t;exact k v u (c++m2) z (s1.trans s3) r3 t
end
end Ev
namespace Ev
open PySem PySem.Spec PyProof.Rows L2
def dJ(g:GF)(ps:List P):Option P:=match g (ps.map .p) [] with
 |some (d,S)=>(toP 9 d S).map (·.1)
 |none=>none
@[simp] noncomputable def jw:Option (Fl×Lc×aB)->Option (D×aB)
 |some (.rt d,_,S)=>some (d,S)
 |some (.nx,_,S)=>some (.p .non,S)
 |_=>none
def eN(p n:Nat)(b:ES):GF:=λd S=>if d.length=p then jw (b (d.map some++List.replicate (n-d.length) none) S) else none
theorem Rel.nil{K:FG}{F:Aa}{H:Hp}(f:∀a,F a->H a≠none):Rel K F H [] []:=⟨rfl,by simp,by simp,by simp,by simp,f⟩
variable{K:FG}{H:Hp}
theorem rM(h:QG K (dJ g) l H Q E):qL K g l H Q E:=by
 obtain⟨F,s,d,t,r,q,k⟩:=h;unfold dJ at q;cases e:g (s.map .p) [] with
 |none=>rw[e]at q;cases q
 |some z=>
  obtain⟨a,S⟩:=z;rw[e]at q;dsimp only at q;cases x:toP 9 a S with
  |none=>rw[x]at q;cases q
  |some j=>obtain⟨p,o⟩:=j;rw[x]at q;cases q;refine⟨F,[],s.map .p,[],a,S,.nil t,dA.ofP r,e,λv y P f u c w=>?_⟩;obtain⟨n,i,m,_,b⟩:=n_ 9 x c w;exact k v n f ((u.trans i).toGrow m.ft) b
theorem FnOk.pure(G:FnOk s w K m base pL k f d ps (qL K g)):FnOk s w K m base pL k f d ps (QG K (dJ g)):=
 FnOk.imp G λ_ _ _ _ h=>rM h
theorem dA.toSt(r:dA K F H m s k):RL K F H m (L2.start N k) (s.map some++List.replicate (N.length-s.length) none):=by
 have l:=r.length;refine⟨by unfold L2.start;simp[l],λi d e=>?_⟩;by_cases h:i < s.length
 .rw [cA (by simpa using h),dC]at e;cases q:s[i]? with
  |none=>rw[q]at e;cases e
  |some v=>rw[q]at e;cases e;obtain⟨x,a,p⟩:=r.get q;refine⟨x,?_,p⟩;unfold L2.start;rw[cA (by simpa[<- l] using h),dC,a];rfl
 .rw [cB (by simpa using h),vl]at e;split at e<;>cases e
theorem Na{P:Program}{w:World}{K:FG}{i:SV}{base:Heap}{x u:Str}{st:Stmt}{f:Addr}{p:FuncData}{N ps:LS}{k:Nat}{b:ES}(F:Fun K x u st f p)(S:FnScope N ps (aK st))
  (G:∀(c:Value) (A:Around) (o:List Env) (s:Shared) (H:Hp) (E:XK),Room k (A.deeper (envOfC u (aK st) s.heap.objs.size f c)) ->
   jq (pH pL P w K i base N u (aK st) f c A o s H E).nox (cE st) (jJ K b)):FnOk P w K i base pL (k+1) f p ps (qL K (eN ps.length N.length b)):=by
 refine F.ok S (λR H Q E h=>?_) (λc A o s H R Q E I h=>⟨_,G c A o s H E I,?_⟩)
 .obtain⟨F,m,a,S,d,C,y,r,q,k⟩:=h;rw[<- r.length];unfold eN at q;split at q
  .assumption
  .cases q
 .obtain⟨F,m,a,S,d,C,y,r,q,k⟩:=h;unfold eN at q;split at q
  .cases e:b (a.map some++List.replicate (N.length-a.length) none) S with
   |none=>rw[e]at q;cases q
   |some z=>
    obtain⟨l,L,D⟩:=z;rw[e]at q;refine⟨F,m,_,S,l,L,D,y,r.toSt,e,λT n g t B j W=>?_⟩;cases l with
    |nx=>cases q;exact k .non n g t B j rfl
    |bk=>cases q
    |ct=>cases q
    |rt V=>intro v M;cases q;exact k v n g t B j M
  .cases q
theorem G5{P:Program}{w:World}{K:FG}{g:SV}{base:Heap}{f:Addr}{x:FuncData}{ps:LS}{k:Nat}:FnOk P w K g base pL k f x ps (qL K λ_ _=>none):=by
 have n:∀v H Q E,¬qL K (λ_ _=>none) v H Q E:=λv H Q E h=>by obtain⟨F,m,b,S,d,e,_,_,q,_⟩:=h;cases q
 exact⟨λv H Q E h=>absurd h (n v H Q E),λA o s H a u v Q E _ _ _ _ h=>absurd h (n v H Q E)⟩
structure Tr where
 v:Option EV:=none
 e:Option EE:=none
 b:Option EB:=none
 w:Option EB:=none
def Tr.ofV(f:Option EV):Tr:=⟨f,f.map O,f.map λg=>bT (O g),f.map bV⟩
def Tr.ofC(f:Option EV):Tr:=⟨f,f.map O,f.map bV,f.map bV⟩
def Tr.ofE(f:Option EE):Tr:=⟨f.map vE,f,f.map bT,f.map λg=>bV (vE g)⟩
def Tr.ofB(b w:Option EB):Tr:=⟨w.map vB,w.map λg=>O (vB g),b,w⟩
structure Cn where
 N:LS
 own:LS
 deep:LS
 refs:LS
 ks:List (Str×NameKind)
 F:Str->Option GF
 G:Str->Option P
 A:Str->Str->Bool
 M:Str->Str->Option GF
 I:Str->Option GF
 E:List (Str×LS)
 R:LS
 Y:Str->Option GX
noncomputable def je:LS->Str->Option Nat
 | [],_=>none
 |y::r,x=>if y=x then some 0 else (je r x).map (·+1)
set_option tactic.hygienic true in
theorem sf:∀{N:LS}{x:Str}{i:Nat},je N x=some i->N[i]? = some x
 | [],_,_,h=>by cases h
 |y::r,x,i,h=>by
  unfold je at h;split at h
  .rename_i e;cases h;simp[e]
  .cases q:je r x with
   |none=>rw[q]at h;cases h
   |some j=>rw[q]at h;cases h;simpa using sf q
theorem o9:∀{N:LS}{x:Str}{i:Nat},N.Nodup->N[i]? = some x->je N x=some i
 | [],_,_,_,h=>by simp at h
 |y::r,x,0,_,h=>by
  have:y=x:=by simpa using h
  unfold je;rw[am this]
 |y::r,x,i+1,d,h=>by
  have a:r[i]? = some x:=by simpa using h
  have n:¬y=x:=λe=>by subst e;exact(cz.mp d).1 (a9 a)
  unfold je;rw[au n,o9 (cz.mp d).2 a];rfl
noncomputable def bE(s:List (Str×NameKind))(x:Str)(l:List NameKind):Bool:=match s.lookup x with
 |some k=>l.contains k
 |none=>false
noncomputable def cO(x:Str):Bool:=!(x == ("__debug__":Str)) && !(x == ("__classdict__":Str))
noncomputable def NU(E:List (Str×LS))(t:Str):Bool:=E.any (λx=>decide (x.1=t)) ||decide (t=("ValueError":Str))
noncomputable def i_(E:List (Str×LS))(R:LS)(t c:Str):Option Bool:=if R.contains c=true then (E.lookup c).map λa=>a.contains t else none
noncomputable def G_:List (Str×Str):=[("NotPossible","place")]
def Tz:Operator->Option (P->P->Option P)
 | .Add=>some kX
 | .Sub=>some Nn
 | .Mult=>some pf
 | .FloorDiv=>some zC
 | .Mod=>some Np
 | .Pow=>some No
 |_=>none
def N3:CmpOp->Option (P->P->Option P)
 | .Lt=>some Sx
 | .LtE=>some Qj
 | .Gt=>some Sz
 | .GtE=>some SD
 |_=>none
def Nq:CmpOp->Option (D->D->aB->Option P)
 | .Eq=>some HL
 | .NotEq=>some G4
 | .In=>some K6
 | .Is=>some tj
 | .IsNot=>some dN
 |_=>none
def rG:List (Option EV)->Option iQ
 | []=>some bf
 |a::r=>a.bind λf=>(rG r).map λg=>bc f g
def pq:List (Option EE)->Option nP
 | []=>some jD
 |a::r=>a.bind λf=>(pq r).map λg=>bY f g
def xl(o:BoolOp):List (Option EB)->Option EB
 | []=>none
 | [a]=>a
 |a::r=>a.bind λf=>(xl o r).map λg=>match o with | .And=>jI f g | .Or=>CV f g
def RH(o:Option (Option EV)):Option EO:=match o with
 |none=>some di
 |some a=>a.map cC
noncomputable def GJ(t:Str):Option String:=if t=("int":Str) then some "int" else if t=("bool":Str) then some "bool" else none
def Hy(f:Str):Option (List P->Option P):=
 if f=("int":Str) then some cv else if f=("list":Str) then some kY else if f=("tuple":Str) then some eX else if f=("abs":Str) then some pj else none
noncomputable def Ks:LS:=["len","isinstance","int","bool","tuple","list","str","max","min","dict","range","abs","enumerate","sorted","all","any","sum","set","zip"]
noncomputable def t6(a s:List (Str×NameKind)):List (Str×NameKind):=a.map λ(n,k)=>if (k == .free && s.lookup n == some .cell) then (n,.cell) else (n,k)
def zK(u:Cn)(j:Scope)(o:LS)(a:List Nat)(n:Nat):Bool:=
 decide (j.kind=.function) && j.names.all (λx=>x.2 != .cell) && j.names.all (λx=>x.2 != .local ||j.names.lookup x.1 == some .local)
  && j.names.all (λx=>x.2 != .free ||(j.names.lookup x.1 == some .free && (u.ks.lookup x.1 == some .cell ||u.ks.lookup x.1 == some .free)))
  && decide (u.N=o.take u.N.length) && decide (o.length=u.N.length+n)
  && j.names.all (λx=>x.2 != .local ||match je u.N x.1 with|some i=>a.contains i|none=>true)
def xR(u:Cn)(f g:Str):Bool:=decide (f=g) && bE u.ks f [.globalImplicit]
variable{B:Type}
noncomputable def ir:List B->Option B
 | [a]=>some a
 |_=>none
noncomputable def sZ{B:Type}:List B->Option (B×B)
 | [a,b]=>some (a,b)
 |_=>none
theorem cn{B:Type}{l:List B}{a:B}(h:ir l=some a):l=[a]:=by
 unfold ir at h;split at h
 .cases h;rfl
 .cases h
theorem lu{B:Type}{l:List B}{a b:B}(h:sZ l=some (a,b)):l=[a,b]:=by
 unfold sZ at h;split at h
 .cases h;rfl
 .cases h
theorem af{B e:Type}{x:Option B}{f:B->Option e}{r:e}(h:x.bind f=some r):∃a,x=some a/\f a=some r:=by
 cases x with
 |none=>cases h
 |some a=>exact⟨a,rfl,h⟩
theorem av{B e:Type}{x:Option B}{f:B->e}{r:e}(h:x.map f=some r):∃a,x=some a/\r=f a:=by
 cases x with
 |none=>cases h
 |some a=>cases h;exact⟨a,rfl,rfl⟩
theorem DT{B:Type}{c:Prop}[Decidable c]{f:c->Option B}{x:B}(h:(if q:c then f q else none)=some x):c:=by
 by_cases q:c
 .exact q
 .rw [dif_neg q]at h;cases h
section
variable{e:Expr}
noncomputable def y'(e:Expr):Option Str:=if h:e.ctorIdx=23 then Expr.Name.elim e h λx _=>some x else none
theorem jc{x:Str}(h:y' e=some x):∃p,e=.Name x p:=by have c:=DT h;revert h;exact Expr.Name.elim e c λ_ p h=>by cases h;exact⟨p,rfl⟩
noncomputable def kK(e:Expr):Option (Ab):=if h:e.ctorIdx=25 then Expr.Tuple.elim e h λs _ _=>some s else none
theorem ip{s:Ab}(h:kK e=some s):∃c p,e=.Tuple s c p:=by have c:=DT h;revert h;exact Expr.Tuple.elim e c λ_ c p h=>by cases h;exact⟨c,p,rfl⟩
noncomputable def GO(e:Expr):Option (Ab):=if h:e.ctorIdx=24 then Expr.List.elim e h λs _=>some s else none
theorem xQ{s:Ab}(h:GO e=some s):∃p,e=.List s p:=by have c:=DT h;revert h;exact Expr.List.elim e c λ_ p h=>by cases h;exact⟨p,rfl⟩
noncomputable def Qr(e:Expr):Option (Expr×Str×Pos):=if h:e.ctorIdx=20 then Expr.Attribute.elim e h λo m p=>some (o,m,p) else none
theorem zM{o:Expr}{m:Str}{p:Pos}(h:Qr e=some (o,m,p)):e=.Attribute o m p:=by have c:=DT h;revert h;exact Expr.Attribute.elim e c λ_ _ _ h=>by cases h;rfl
noncomputable def RW(e:Expr):Option (Expr×Expr):=if h:e.ctorIdx=21 then Expr.Subscript.elim e h λo i _=>some (o,i) else none
theorem Ma{o i:Expr}(h:RW e=some (o,i)):∃p,e=.Subscript o i p:=by have c:=DT h;revert h;exact Expr.Subscript.elim e c λ_ _ p h=>by cases h;exact⟨p,rfl⟩
noncomputable def Td(e:Expr):Option (Option Expr×Option Expr×Option Expr):=if h:e.ctorIdx=26 then Expr.Slice.elim e h λi j k _=>some (i,j,k) else none
theorem L_{i j k:Option Expr}(h:Td e=some (i,j,k)):∃p,e=.Slice i j k p:=by have c:=DT h;revert h;exact Expr.Slice.elim e c λ_ _ _ p h=>by cases h;exact⟨p,rfl⟩
noncomputable def Tx(e:Expr):Option Const:=if h:e.ctorIdx=19 then Expr.Constant.elim e h λc _ _=>some c else none
theorem Nr{c:Const}(h:Tx e=some c):∃j p,e=.Constant c j p:=by have c:=DT h;revert h;exact Expr.Constant.elim e c λ_ j p h=>by cases h;exact⟨j,p,rfl⟩
noncomputable def SG(e:Expr):Option (Expr×Ab×Pos):=if h:e.ctorIdx=16 then Expr.Call.elim e h λf a k p=>if k.isEmpty=true then some (f,a,p) else none else none
theorem Hx{f:Expr}{a:Ab}{p:Pos}(h:SG e=some (f,a,p)):e=.Call f a [] p:=by
 have c:=DT h;revert h;exact Expr.Call.elim e c λ_ _ k _ h=>by
  cases k with
  |nil=>cases h;rfl
  |cons _ _=>cases h
end
def nB(e:Expr):Option (Str×Ab):=(SG e).bind λz=>(y' z.1).map λr=>(r,z.2.1)
theorem fO{e:Expr}{r:Str}{a:Ab}(h:nB e=some (r,a)):∃p c,e=.Call (.Name r p) a [] c:=by obtain⟨⟨f,s,c⟩,x,n⟩:=af h;obtain⟨m,k,b⟩:=av n;obtain⟨p,rfl⟩:=jc k;cases b;exact⟨p,c,Hx x⟩
def Q9(e:Expr):Option ((Expr×Str×Pos)×Ab×Pos):=(SG e).bind λz=>(Qr z.1).map λr=>(r,z.2)
variable{e:Expr}
theorem NC(h:Q9 e=some ((s,m,p),k,b)):e=.Call (.Attribute s m p) k [] b:=by obtain⟨⟨f,a,c⟩,x,n⟩:=af h;obtain⟨q,r,t⟩:=av n;cases t;cases zM r;exact Hx x
def K0(u:Cn)(f:Str)(a:Expr):Option Expr:=(nB a).bind λz=>(ir z.2).bind λb=>if (decide (f=("list":Str)) && xR u z.1 "range")=true then some b else none
def ET(u:Cn)(f:Str)(a:Expr):Option (Expr×Expr):=(nB a).bind λz=>(sZ z.2).bind λb=>if (decide (f=("dict":Str)) && xR u z.1 "zip")=true then some b else none
def Fi(u:Cn)(T:Expr->Tr)(t e:Expr):Option iQ:=(nB e).elim ((T e).v.map jf) λz=>if xR u z.1 "range"=true then (ir z.2).bind λa=>(T a).v.map iM
  else if xR u z.1 "enumerate"=true then (ir z.2).bind λa=>if (kK t).isSome=true then (T a).v.map ug else none
  else (T e).v.map jf
def LR(N:LS)(s:List (Str×NameKind))(k:List NameKind)(e:Expr):Option jK:=(y' e).bind λx=>if bE s x k=true then (je N x).map ak else none
def Fh(N:LS)(s:List (Str×NameKind))(k:List NameKind):Ab->Option (List jK)
 | []=>some []
 |e::r=>(LR N s k e).bind λg=>(Fh N s k r).map λh=>g::h
def Ff(N:LS)(s:List (Str×NameKind))(k:List NameKind)(e:Expr):Option jK:=(kK e).elim (LR N s k e) λh=>(Fh N s k h).map aW
def iu(e:Expr):LS:=((kK e).getD [e]).filterMap y'
noncomputable def pI(N:LS):LS->LS
 | []=>[]
 |t::r=>if (N.contains t ||(pI N r).contains t)=true then pI N r else t::pI N r
def SH(N:LS)(a:LS):List Nat:=a.filterMap λt=>je N t
def n0(u:Cn)(T:Cn->Expr->Tr)(l t iter:Expr)(i:Ab)(j:Scope):Option EV:=
 if (zK u j (u.N++pI u.N (iu t)) (SH u.N (iu t)) (pI u.N (iu t)).length && decide (u.N++pI u.N (iu t)).Nodup)=true then
  (Fi u (T u) t iter).bind λh=>(Ff (u.N++pI u.N (iu t)) (t6 j.names u.ks) [.local] t).bind λg=>
   (match i with | []=>some iN | [c]=>(T ⟨u.N++pI u.N (iu t),u.own.filter (λx=>!(iu t).contains x),[],u.refs,t6 j.names u.ks,u.F,u.G,u.A,u.M,u.I,u.E,u.R,u.Y⟩ c).b|_=>none).bind λc=>
   (T ⟨u.N++pI u.N (iu t),u.own.filter (λx=>!(iu t).contains x),[],u.refs,t6 j.names u.ks,u.F,u.G,u.A,u.M,u.I,u.E,u.R,u.Y⟩ l).v.map λe=>bO h (SH u.N (iu t)) (pI u.N (iu t)).length g c e
 else none
def xP(u:Cn):Nat->Expr->Bool
 |0,_=>false
 |n+1,e=>(y' e).any (u.own.contains ·) ||(RW e).any (λz=>xP u n z.1) ||(Qr e).any (λz=>xP u n z.1) ||(Q9 e).any λz=>decide (z.1.2.1=("setdefault":Str)) && xP u n z.1.1
def KR(a:Ab):Option Expr:=(sZ a).bind λz=>(GO z.2).bind λe=>if e.isEmpty=true then some z.1 else none
def zj(e:Expr):Bool:=[20,21,23].contains e.ctorIdx ||(Q9 e).isSome
noncomputable def ji(e:Expr):Bool:=e.ctorIdx == 8
def NN(u:Cn)(o:Option EE)(os:Expr)(m:Str)(s:List (Option EE))(p c:Pos):Tr:=
 if (zj os && (p.endLine == c.line) && decide (s.length < 29))=true then .ofE (o.bind λx=>(pq s).map λa=>eA u.M x m a) else {}
def MQ(u:Cn)(o:Expr)(m:Str)(n:Str)(a c:Pos):Bool:=decide (m=n) && xP u 4 o && zj o && (a.endLine == c.line)
def Ue(a:Ab):Option (Expr×Str):=(sZ a).bind λz=>(y' z.2).map λt=>(z.1,t)
def Q6(s:List Comprehension):Option (Expr×Expr×Ab):=(ir s).bind λg=>if g.is_async=0 then some (g.target,g.iter,g.ifs) else none
def S_(u:Cn)(T:Expr->Tr)(f:Str)(s:Ab):Tr:=if (bE u.ks f [.globalImplicit] && cO f && !s.isEmpty)=true then
  (u.I f).elim ((u.F f).elim
   ((ir s).elim
    ((Ue s).elim {} λz=>if (decide (f=("isinstance":Str)) && bE u.ks z.2 [.globalImplicit])=true then (GJ z.2).elim (if (NU u.E z.2 && cO z.2)=true then .ofV ((T z.1).e.map λx=>oX (i_ u.E u.R z.2) x) else {}) (λt=>.ofV ((T z.1).e.map λx=>E_ t x)) else {})
    λa=>if f=("len":Str) then .ofV ((T a).e.map fh) else if f=("sorted":Str) then .ofV ((T a).e.map E9) else
     (K0 u f a).elim ((ET u f a).elim (.ofV ((Hy f).bind λg=>(rG [(T a).v]).map λx=>cP g x)) λz=>.ofE ((T z.1).v.bind λx=>(T z.2).v.map λy=>zu x y)) λb=>.ofV ((T b).v.map OE))
   λg=>if u.refs.contains f=true then .ofV ((pq (s.map λx=>(T x).e)).map λa=>cK g a) else .ofV ((rG (s.map λx=>(T x).v)).map λa=>cP (dJ g) a))
  λg=>.ofE ((pq (s.map λx=>(T x).e)).map λa=>sJ g f a)
 else {}
def Ta(u:Cn)(T:Expr->Tr)(o:Expr)(m:Str)(p:Pos)(s:Ab)(c:Pos):Tr:=(ir s).elim
  (if (decide (m=("get":Str)) && zj o && (p.endLine == c.line))=true then (sZ s).elim {} (fun z=>.ofV ((T o).v.bind fun x=>(T z.1).v.bind fun y=>(T z.2).v.map fun z=>Fa x y z)) else
   (KR s).elim (NN u (T o).e o m (s.map λx=>(T x).e) p c) λa=>if MQ u o m "setdefault" p c=true then .ofE ((T o).e.bind λx=>(T a).v.map λy=>nw x y (cZ bf)) else NN u (T o).e o m (s.map λx=>(T x).e) p c)
  λa=>if MQ u o m "append" p c=true then .ofE ((T o).e.bind λx=>(T a).e.map λy=>bA x y) else
   if MQ u o m "extend" p c=true then .ofE ((T o).e.bind λx=>(T a).v.map λy=>fN x y) else
   if (decide (m=("index":Str)) && zj o && (p.endLine == c.line))=true then .ofV ((T o).v.bind λx=>(T a).v.map λy=>yS x y) else
   (kK a).elim (NN u (T o).e o m (s.map λx=>(T x).e) p c) λe=>if MQ u o m "get" p c=true then .ofE ((T o).e.bind λx=>(rG (e.map λz=>(T z).v)).map λy=>um x y) else NN u (T o).e o m (s.map λx=>(T x).e) p c
def TW(u:Cn)(T:Expr->Tr)(t:Cn->Expr->Tr)(e:Expr):Tr:=match e with
  | .Constant c _ _=>match c with
   | .int i=>.ofV (some (vC (.int i)))
   | .bool i=>.ofV (some (vC (.bl i)))
   | .none=>.ofV (some (vC .non))
   | .str i=>.ofV (some (vC (.str i)))
   |_=>{}
  | .Name x _=>if (bE u.ks x [.local,.cell,.free] && cO x)=true then .ofE ((je u.N x).map aN) else
    if (bE u.ks x [.globalImplicit] && cO x)=true then .ofV ((u.G x).bind λv=>if GP v=true then none else some (vC v)) else {}
  | .BinOp a p b _=>.ofV ((Tz p).bind λg=>(T a).v.bind λx=>(T b).v.map λy=>nY g x y)
  | .UnaryOp p a _=>match p with
   | .USub=>.ofV ((T a).v.map (Db nz))
   | .Not=>.ofB ((T a).b.map tU) ((T a).w.map tU)
   |_=>{}
  | .BoolOp p s _=>.ofB (xl p (s.map λx=>(T x).b)) (xl p (s.map λx=>(T x).w))
  | .Compare a h m _=>(ir h).elim (.ofC ((sZ h).bind λo=>(sZ m).bind λz=>(N3 o.1).bind λg=>(N3 o.2).bind λw=>(T a).v.bind λx=>(T z.1).v.bind λy=>(T z.2).v.map λz=>nZ g w x y z))
    λp=>(ir m).elim {} λb=>(N3 p).elim (.ofC ((Nq p).bind λg=>(T a).e.bind λx=>(T b).e.map λy=>fy g x y)) λg=>.ofC ((T a).v.bind λx=>(T b).v.map λy=>nY g x y)
  | .IfExp c a b _=>{ Tr.ofV ((T c).b.bind λq=>(T a).v.bind λx=>(T b).v.map λy=>OF q x y) with b:=none }
  | .Tuple s _ _=>.ofV ((rG (s.map λx=>(T x).v)).map aR)
  | .List s _=>.ofV ((rG (s.map λx=>(T x).v)).map bq)
  | .Dict k S _=>if (k.isEmpty && S.isEmpty)=true then { e:=some pb,v:=some (vE pb) } else {}
  | .Subscript a i _=>(Td i).elim (if xP u 4 a=true then (kK i).elim (.ofE ((T a).e.bind λx=>(T i).v.map λy=>lP x y)) λs=>.ofE ((T a).e.bind λx=>(rG (s.map λz=>(T z).v)).map λy=>x8 x y) else .ofV ((T a).v.bind λx=>(T i).v.map λy=>nY tR x y))
    λz=>if z.2.2.isSome=true then {} else .ofV ((T a).v.bind λx=>(RH (z.1.map λy=>(T y).v)).bind λy=>(RH (z.2.1.map λz=>(T z).v)).map λz=>eF x y z)
  | .Call r n k d=>if k.isEmpty=true then (y' r).elim ((Qr r).elim {} λz=>Ta u T z.1 z.2.1 z.2.2 n d) (λf=>S_ u T f n) else {}
  | .Attribute o f _=>if zj o=true then (if f=("place":Str) then .ofE ((T o).e.map λx=>QY G_ x f) else .ofE ((T o).e.map λx=>eB u.A x f)) else {}
  | .ListComp l H j _=>(Q6 H).elim {} λz=>.ofV (n0 u t l z.1 z.2.1 z.2.2 j)
  |_=>{}
def tr(u:Cn):Nat->Expr->Tr
 |0,_=>{}
 |n+1,e=>TW u (λx=>tr u n x) (λh x=>tr h n x) e
def QE(u:Cn)(n _k:Nat)(e:Expr):Option EE:=(nB e).elim (tr u n e).e λz=>if (bE u.ks z.1 [.globalImplicit] && cO z.1 && !z.2.isEmpty && u.deep.contains z.1)=true then
   (u.F z.1).elim (tr u n e).e λg=>if u.own.contains z.1=true then (rG (z.2.map λx=>(tr u n x).v)).map λa=>wB g a else (pq (z.2.map λx=>(tr u n x).e)).map λa=>ka g a
  else (tr u n e).e
structure ExsOk(K:FG)(mg:SV)(E:List (Str×LS))(R:LS):Prop where
 own:∀c,(E.any λx=>decide (x.1=c))=true->∃C,a_ K mainGlobals c=some (some (.ref C))/\mg c=some (.ref C)
 val:mg ("ValueError":Str)=none
 non:∀t C,(E.any λx=>decide (x.1=t))=true->mg t=some (.ref C)->bD K (.type "NoneType") (.ref C)=some false
 nonV:bD K (.type "NoneType") (.type "ValueError")=some false
 cl:∀c anc C,R.contains c=true->E.lookup c=some anc->a_ K mainGlobals c=some (some (.ref C))->ExcCl K C/\mU K (.ref C) (.ref C)=some true/\bD K (.ref C) (.type "ValueError")=some (anc.contains ("ValueError":Str)) /\
  ∀t T,(E.any λx=>decide (x.1=t))=true->mg t=some (.ref T)->bD K (.ref C) (.ref T)=some (anc.contains t)/\(anc.contains t=true->gp K (.ref C) (.ref T)=some true)
 rE:∀c,R.contains c=true->(E.any λx=>decide (x.1=c))=true
 rs:∀c C,R.contains c=true->(G_.lookup c).isNone=true->a_ K mainGlobals c=some (some (.ref C))->mg c=some (.ref C)/\SW K C
 zE:∀c f,G_.lookup c=some f->(E.any λx=>decide (x.1=c))=true
 ri:∀c f C,G_.lookup c=some f->a_ K mainGlobals c=some (some (.ref C))->ExcCl K C/\w9 K C f
noncomputable def D0(m:SV)(t:Str):Value:=(m t).getD (.type "ValueError")
theorem zG(h:ExsOk K m E R)(q:NU E t=true):(∃C,m t=some (.ref C)/\D0 m t=.ref C/\(E.any λx=>decide (x.1=t))=true)\/(t="ValueError"/\m t=none/\D0 m t=.type "ValueError"):=by
 unfold NU at q;rcases Bool.or_eq_true_iff.mp q with q|q
 .obtain⟨C,_,e⟩:=h.own t q;exact .inl ⟨C,e,by unfold D0;rw[e];rfl,q⟩
 .cases be q;exact .inr ⟨rfl,h.val,by unfold D0;rw[h.val];rfl⟩
set_option tactic.hygienic true in
theorem ND{K:FG}{m:SV}{E:List (Str×LS)}{R:LS}(h:ExsOk K m E R){t:Str}(q:NU E t=true):AnsOk K (i_ E R t) (D0 m t) where
 non:=by
  rcases zG h q with ⟨C,s,x,n⟩|⟨_,_,x⟩
  .rw [x];exact h.non t C n s
  .rw [x];exact h.nonV
 exc:=λc b C e w=>by
  unfold i_ at e;split at e;case isFalse=>cases e
  rename_i f;obtain⟨a,k,rfl⟩:=eQ.mp e;obtain⟨r,p,v,d⟩:=h.cl c a C f k w;refine⟨r,p,?_⟩;rcases zG h q with ⟨T,s,x,n⟩|⟨rfl,_,x⟩
  .rw [x];exact(d t T n s).1
  .rw [x];exact v
structure XOk(Γ:Cn)(X:Cx):Prop where
 hN:X.N=Γ.N
 nd:X.N.Nodup
 ks:X.e.scope.names=Γ.ks
 kd:X.e.scope.kind=.function
 calm:X.c=true
 hu:X.A.units+64 < cLine
 fns:∀x g,Γ.F x=some g->∃k f fd ps,FnOk X.p X.w X.K X.g X.b pL k f fd ps (qL X.K g)/\Room k X.A/\X.g x=some (.ref f)/\dZ X.K (.ref f)=true/\Binds X.K fd ps []
 blt:∀x ∈ Ks,X.g x=none
 glb:∀x v,Γ.G x=some v->nL X.w X.K X.g x v
 attrs:Rc X.K Γ.A
 meths:Q' X Γ.M
 mks:∀c g,Γ.I c=some g->∃C k f fd ps,kA X.K c C/\X.g c=some (.ref C)/\Mk X.K C f/\FnOk X.p X.w X.K X.g X.b pL k f fd ps (qL X.K g)/\Room (k+1) X.A/\Binds X.K fd ps []
 exs:ExsOk X.K X.g Γ.E Γ.R
 ys:∀x gx,Γ.Y x=some gx->Hq X.K gx/\∃k f fd ps,FnOk X.p X.w X.K X.g X.b (zR X.p X.w) k f fd ps (NP X.K gx)/\Room k X.A/\X.g x=some (.ref f)/\dZ X.K (.ref f)=true/\Binds X.K fd ps []
structure Good(X:Cx)(ex:Expr)(t:Tr):Prop where
 v:∀f,t.v=some f->PE X ex (tV X.K f)
 e:∀f,t.e=some f->PE X ex (tE X.K f)
 b:∀f,t.b=some f->PT X ex (tQ X.K f)
 w:∀f,t.w=some f->PE X ex (tV X.K (vB f))
section
variable{X:Cx}{e:Expr}
theorem Good.no:Good X e {}:=⟨λ_ h=>(by cases h),λ_ h=>(by cases h),λ_ h=>(by cases h),λ_ h=>(by cases h)⟩
theorem Good.el{B:Type}{o:Option B}{b:Tr}{f:B->Tr}(h:∀a,o=some a->Good X e (f a))(x:o=none->Good X e b):Good X e (o.elim b f):=by
 cases o with
 |none=>exact x rfl
 |some a=>exact h a rfl
theorem Good.ite{c:Prop}[Decidable c]{a b:Tr}(h:c->Good X e a)(x:Good X e b):Good X e (if c then a else b):=by
 by_cases q:c
 .rw [am q];exact h q
 .rw [au q];exact x
def HH(e:Expr):Prop:=∀env w,isTrue e env w=(do let v <- w;standAt e.pos;holding [v] (truthy v))
theorem Good.ofV{t:Option EV}(h:∀f,t=some f->PE X e (tV X.K f))(p:HH e):Good X e (.ofV t) where
 v:=h
 e:=λf q=>by
  cases t with
  |none=>cases q
  |some g=>cases q;exact NK (h _ rfl)
 b:=λf q=>by
  cases t with
  |none=>cases q
  |some g=>cases q;exact yT (NK (h _ rfl)) (p _)
 w:=λf q=>by
  cases t with
  |none=>cases q
  |some g=>cases q;exact BR (h _ rfl)
theorem Good.ofC{t:Option EV}(h:∀f,t=some f->PE X e (tV X.K f))(x:∀f,t=some f->PT X e (tQ X.K (bV f))):Good X e (.ofC t) where
 v:=h
 e:=λf q=>by
  cases t with
  |none=>cases q
  |some g=>cases q;exact NK (h _ rfl)
 b:=λf q=>by
  cases t with
  |none=>cases q
  |some g=>cases q;exact x _ rfl
 w:=λf q=>by
  cases t with
  |none=>cases q
  |some g=>cases q;exact BR (h _ rfl)
theorem Good.ofE{t:Option EE}(h:∀f,t=some f->PE X e (tE X.K f))(p:HH e):Good X e (.ofE t) where
 v:=λf q=>by
  cases t with
  |none=>cases q
  |some g=>cases q;exact Rp (h _ rfl)
 e:=h
 b:=λf q=>by
  cases t with
  |none=>cases q
  |some g=>cases q;exact yT (h _ rfl) (p _)
 w:=λf q=>by
  cases t with
  |none=>cases q
  |some g=>cases q;exact BR (Rp (h _ rfl))
theorem Good.ofB{b w:Option EB}(h:∀f,b=some f->PT X e (tQ X.K f))(hw:∀f,w=some f->PE X e (tV X.K (vB f))):Good X e (.ofB b w) where
 v:=λf q=>by
  cases w with
  |none=>cases q
  |some g=>cases q;exact hw _ rfl
 e:=λf q=>by
  cases w with
  |none=>cases q
  |some g=>cases q;exact NK (hw _ rfl)
 b:=h
 w:=hw
end
theorem ku{B x:Type}{o:Option B}{b r:x}{f:B->x}(h:o.elim b f=r):(∃a,o=some a/\f a=r)\/(o=none/\b=r):=by
 cases o with
 |none=>exact .inr ⟨rfl,h⟩
 |some a=>exact .inl ⟨a,rfl,h⟩
def fW(e:Expr):Prop:=∀s env,starEach (e::s) env=(false,eval e env)::starEach s env
structure RdE(e:Expr):Prop where
 st:fW e
 ix:nK e
 mr:∀op,behindInMarks op e=false
 ms:∀op op' b,lastMarks [op,op'] [b,e]=false
 ps:sU e
 sw:ji e=false->∀t l env,swapsWith e t l env=pure false
 fs:∀env x,foldedSetIterable e env x=pure x
variable{u:Cn}{n:Nat}
theorem rd_of(h:(tr u n e).v.isSome=true\/(tr u n e).e.isSome=true):RdE e:=by
 cases n with
 |zero=>rcases h with h|h<;>cases h
 |succ n=>cases e<;>first|(rcases h with h|h<;>cases h;done)|exact⟨λ_ _=>rfl,λ_ _=>rfl,λ_=>rfl,λ_ _ _=>rfl,λ_ _ _ _=>rfl,λc _ _ _=>(by first|rfl|cases c),λ_ _=>rfl⟩
theorem ja{u:Cn}{n:Nat}{e:Expr}{f:EV}(h:(tr u n e).v=some f):RdE e:=rd_of (.inl (by rw[h];rfl))
theorem rR{u:Cn}{n:Nat}{e:Expr}{f:EE}(h:(tr u n e).e=some f):RdE e:=rd_of (.inr (by rw[h];rfl))
variable{env:Env}
theorem hX(h:∀e ∈ s,fW e):(backTo p (starEach s env)).any (·.1)=false:=by
 induction s with
 |nil=>rfl
 |cons e s i=>
  rw[h e aH s env];have:=i λx a=>h x (aI _ a)
  unfold backTo at this ⊢;rw[aE,gf,this];rfl
section
variable{u:Cn}{X:Cx}(h:XOk u X)
include h
theorem XOk.gl(q:bE u.ks x [.globalImplicit]=true):Gl X x:=by
 unfold Gl Env.kindOf;rw[h.ks];unfold bE at q;cases e:u.ks.lookup x with
 |none=>rw[e]at q;cases q
 |some k=>rw[e]at q;cases k<;>first|rfl|cases q
theorem XOk.vis(q:bE u.ks x [.local,.cell,.free]=true):HN X.e.scope x:=by
 unfold HN;rw[h.ks];unfold bE at q;cases e:u.ks.lookup x with
 |none=>rw[e]at q;cases q
 |some k=>rw[e]at q;cases k<;>first|exact .inl rfl|exact .inr (.inl rfl)|exact .inr (.inr rfl)|cases q
theorem XOk.loc(q:bE u.ks x [.local,.cell]=true):L2.Loc X.e.scope x:=by
 unfold L2.Loc;rw[h.ks];unfold bE at q;cases e:u.ks.lookup x with
 |none=>rw[e]at q;cases q
 |some k=>rw[e]at q;cases k<;>first|exact .inl rfl|exact .inr rfl|cases q
theorem XOk.local(q:bE u.ks x [.local]=true):X.e.scope.names.lookup x=some .local:=by
 rw[h.ks];unfold bE at q;cases e:u.ks.lookup x with
 |none=>rw[e]at q;cases q
 |some k=>rw[e]at q;cases k<;>first|rfl|cases q
omit h in
theorem bF{x:Str}(q:cO x=true):(x == ("__debug__":Str))=false/\(x == ("__classdict__":Str))=false:=by unfold cO at q;rw[az]at q;exact⟨by simpa using q.1,by simpa using q.2⟩
theorem XOk.get(q:je u.N x=some i):X.N[i]? = some x:=by rw[h.hN];exact sf q
omit h in
theorem gq{u:Cn}{n:Nat}:∀{s:Ab}{k:iQ},(∀e ∈ s,Good X e (tr u n e))->rG (s.map λx=>(tr u n x).v)=some k->PA X s (sW X.K k)/\∀e ∈ s,fW e
 | [],k,_,q=>by cases q;exact⟨NF,λ_ z=>by cases z⟩
 |e::s,k,g,q=>by
  obtain⟨f,b,p⟩:=af q;obtain⟨r,v,rfl⟩:=av p;obtain⟨m,t⟩:=gq (λx a=>g x (aI _ a)) v;have b:(tr u n e).v=some f:=b;have c:fW e:=(ja b).st;refine⟨Ld ((g e aH).v f b) m (c _ _),λx a=>?_⟩;rcases aP.mp a with a|a
  .subst a;exact c
  .exact t x a
omit h in
theorem j3{u:Cn}{n:Nat}:∀{s:Ab}{k:nP},(∀e ∈ s,Good X e (tr u n e))->pq (s.map λx=>(tr u n x).e)=some k->PA X s (yy X.K k)/\∀e ∈ s,fW e
 | [],k,_,q=>by cases q;exact⟨Qe,λ_ z=>by cases z⟩
 |e::s,k,g,q=>by
  obtain⟨f,b,p⟩:=af q;obtain⟨r,v,rfl⟩:=av p;obtain⟨m,t⟩:=j3 (λx a=>g x (aI _ a)) v;have b:(tr u n e).e=some f:=b;have c:fW e:=(rR b).st;refine⟨Nk ((g e aH).e f b) m (c _ _),λx a=>?_⟩;rcases aP.mp a with a|a
  .subst a;exact c
  .exact t x a
omit h in
theorem xj{o:BoolOp}{p:Pos}{u:Cn}{n:Nat}:∀{s:Ab}{f:EB},(∀e ∈ s,Good X e (tr u n e))->xl o (s.map λx=>(tr u n x).b)=some f->PW X (.BoolOp o s p) (tQ X.K f)
 | [],f,_,q=>by cases q
 | [a],f,g,q=>by
  cases o with
  |And=>exact Oi ((g a aH).b f q)
  |Or=>exact Rk ((g a aH).b f q)
 |a::b::s,f,g,q=>by
  obtain⟨x,k,m⟩:=af q;obtain⟨r,t,rfl⟩:=av m;have i:=xj (s:=b::s) (p:=p) (λx c=>g x (aI _ c)) t;cases o with
  |And=>exact Rn ((g a aH).b x k) i
  |Or=>exact TK ((g a aH).b x k) i
omit h in
theorem xk{o:BoolOp}{p:Pos}{u:Cn}{n:Nat}:∀{s:Ab}{f:EB},(∀e ∈ s,Good X e (tr u n e))->xl o (s.map λx=>(tr u n x).w)=some f->PE X (.BoolOp o s p) (tV X.K (vB f))
 | [],f,_,q=>by cases q
 | [a],f,g,q=>Oy ((g a aH).w f q)
 |a::b::s,f,g,q=>by
  obtain⟨x,k,m⟩:=af q;obtain⟨r,t,rfl⟩:=av m;have i:=xk (s:=b::s) (p:=p) (λx c=>g x (aI _ c)) t;cases o with
  |And=>exact RF ((g a aH).w x k) i
  |Or=>exact TM ((g a aH).w x k) i
omit h in
theorem Fg{u:Cn}{n:Nat}{o:Option Expr}{f:EO}(g:∀e,Good X e (tr u n e))(q:RH (o.map λy=>(tr u n y).v)=some f):PO X o (tO X.K f):=by
 cases o with
 |none=>cases q;exact MO
 |some e=>obtain⟨x,a,rfl⟩:=av (show((tr u n e).v).map cC=some f from q);exact MN ((g e).v x a)
theorem Ny{o:Operator}{g:P->P->Option P}(q:Tz o=some g):pJ X (binaryOp o) g:=by cases o<;>first|(cases q;exact MK)|(cases q;exact Pn)|(cases q;exact MJ)|(cases q;exact JI)|(cases q;exact Pr)|(cases q;exact Po)|cases q
omit h in
theorem oO{o:CmpOp}{g:P->P->Option P}(q:N3 o=some g):pJ X (compareOp o) g:=by cases o<;>first|(cases q;exact R_)|(cases q;exact R')|(cases q;exact Sa)|(cases q;exact Sb)|cases q
theorem CO{o:CmpOp}{g:D->D->aB->Option P}(q:Nq o=some g):jL X (compareOp o) (rE X.K g):=by cases o<;>first|(cases q;exact Pw h.hu)|(cases q;exact Pp h.hu)|(cases q;exact Pt h.hu)|(cases q;exact Ps)|(cases q;exact Ge)|cases q
theorem Ko{f:Str}{g:GF}{a:Expr}{s:Ab}{x:iQ}{b o:Pos}(t:u.F f=some g)(q:bE u.ks f [.globalImplicit]=true)(d:cO f=true)(c:PA X (a::s) (sW X.K x))(n:∀e ∈ a::s,fW e) :
  PE X (.Call (.Name f b) (a::s) [] o) (tV X.K (cP (dJ g) x)):=by
 obtain⟨k,i,j,l,G,w,v,p,m⟩:=h.fns f g t;exact Ox (FnOk.pure G) w (h.gl q) v p m c (bF d).1 (n a aH _ _) (hX λe r=>n e (aI _ r))
theorem yn{f:Str}{g:GF}{a:Expr}{s:Ab}{x:nP}{c o:Pos}(w:u.F f=some g)(t:bE u.ks f [.globalImplicit]=true)(v:cO f=true)(m:PA X (a::s) (yy X.K x))(n:∀e ∈ a::s,fW e) :
  PE X (.Call (.Name f c) (a::s) [] o) (tV X.K (cK g x))/\PE X (.Call (.Name f c) (a::s) [] o) (tE X.K (ka g x)):=by
 obtain⟨k,i,j,l,G,d,q,p,r⟩:=h.fns f g w;exact⟨II G d (h.gl t) q p r m (bF v).1 (n a aH _ _) (hX fun e b=>n e (aI _ b)),
  LC G d (h.gl t) q p r m (bF v).1 (n a aH _ _) (hX λe b=>n e (aI _ b))⟩
set_option tactic.hygienic true in
theorem Nz{f:Str}{g:List P->Option P}{a:Expr}{n:Ab}{m:iQ}{t p:Pos}(x:Hy f=some g)(b:bE u.ks f [.globalImplicit]=true)(k:PA X (a::n) (sW X.K m))(r:∀e ∈ a::n,fW e) :
  PE X (.Call (.Name f t) (a::n) [] p) (tV X.K (cP g m)):=by
 have s:=r a aH n X.e;have c:=hX (env:=X.e) (p:=p) λe s=>r e (aI _ s);unfold Hy at x;split at x
 .rename_i e;subst e;cases x;exact Ls (h.gl b) (h.blt _ (by decide)) k s c
 split at x
 .rename_i e;subst e;cases x;exact Lr (h.gl b) (h.blt _ (by decide)) k s c
 split at x
 .rename_i e;subst e;cases x;exact IG (h.gl b) (h.blt _ (by decide)) k s c
 split at x
 .rename_i e;subst e;cases x;exact Ol (h.gl b) (h.blt _ (by decide)) k s c
 .cases x
set_option tactic.hygienic true in
theorem M5{t:Str}{T:String}{a:Expr}{f:EE}{r s p:Pos}(x:GJ t=some T)(b:bE u.ks ("isinstance":Str) [.globalImplicit]=true)(k:bE u.ks t [.globalImplicit]=true)(n:PE X a (tE X.K f))(q:fW a) :
  PE X (.Call (.Name "isinstance" r) [a,.Name t s] [] p) (tV X.K (E_ T f)):=by
 have c:starEach [a,.Name t s] X.e=[(false,eval a X.e),(false,eval (.Name t s) X.e)]:=by rw[q];rfl
 have m:=h.blt ("isinstance":Str) (by decide);unfold GJ at x;split at x
 .rename_i e;subst e;cases x;exact Og (λ_=>rfl) (h.gl b) m (h.gl k) (h.blt _ (by decide)) AS n (by decide) (by decide) c
 split at x
 .rename_i e;subst e;cases x;exact Og (λ_=>rfl) (h.gl b) m (h.gl k) (h.blt _ (by decide)) Iy n (by decide) (by decide) c
 .cases x
omit h in
theorem qS{f g:Str}(q:xR u f g=true):f=g/\bE u.ks f [.globalImplicit]=true:=by unfold xR at q;rw[az]at q;exact⟨be q.1,q.2⟩
set_option tactic.hygienic true in
theorem GI{n:Nat}{m e:Expr}{f:iQ}(g:∀x,Good X x (tr u n x))(q:Fi u (λx=>tr u n x) m e=some f):PI X m e (tI X.K f):=by
 have plain:((tr u n e).v.map jf=some f)->PI X m e (tI X.K f):=λq=>by obtain⟨x,s,rfl⟩:=av q;exact iS ((g e).v x s)
 have d:=ku q;clear q;rcases d with ⟨⟨i,v⟩,z,q⟩|⟨_,q⟩
 .obtain⟨j,o,rfl⟩:=fO z;dsimp only at q;split at q
  .rename_i r;obtain⟨rfl,r⟩:=qS r;obtain⟨a,b,k⟩:=af q;clear q;cases cn b;obtain⟨x,s,rfl⟩:=av k;exact Ui (h.gl r) (h.blt ("range":Str) (by decide)) ((g a).v x s) ((ja s).st _ _)
  .split at q
   .rename_i r;obtain⟨rfl,r⟩:=qS r;obtain⟨a,b,k⟩:=af q;clear q;cases cn b;split at k
    .rename_i t;obtain⟨x,s,rfl⟩:=av k;obtain⟨w,t⟩:=uS.mp t;obtain⟨c,p,rfl⟩:=ip t;exact iE (h.gl r) (h.blt ("enumerate":Str) (by decide)) ((g a).v x s) ((ja s).st _ _)
    .cases k
   .exact plain q
 .exact plain q
set_option tactic.hygienic true in
omit h in
theorem C7{f:Str}{a b c:Expr}(q:ET u f a=some (b,c)):f="dict"/\∃r p x,a=.Call (.Name r p) [b,c] [] x/\xR u r "zip"=true:=by
 obtain⟨⟨r,m⟩,z,n⟩:=af q;obtain⟨⟨t,v⟩,k,s⟩:=af n;clear q n;obtain⟨p,x,rfl⟩:=fO z;cases lu k;split at s
 .rename_i e;cases s;simp only[az]at e;exact⟨be e.1,r,p,x,rfl,e.2⟩
 .cases s
set_option tactic.hygienic true in
omit h in
theorem Gs{f:Str}{a b:Expr}(q:K0 u f a=some b):f="list"/\∃r p c,a=.Call (.Name r p) [b] [] c/\xR u r "range"=true:=by
 obtain⟨⟨r,m⟩,z,s⟩:=af q;obtain⟨t,k,e⟩:=af s;clear q s;obtain⟨p,n,rfl⟩:=fO z;cases cn k;split at e
 .rename_i x;cases e;simp only[az]at x;exact⟨be x.1,r,p,n,rfl,x.2⟩
 .cases e
omit h in
theorem sg{n:Nat}{t e:Expr}{f:iQ}(q:Fi u (λx=>tr u n x) t e=some f)(env:Env)(x:Value):foldedSetIterable e env x=pure x:=by
 have s:=ku q;clear q;rcases s with ⟨⟨b,a⟩,z,q⟩|⟨_,q⟩
 .obtain⟨c,p,rfl⟩:=fO z;rfl
 .obtain⟨x,k,rfl⟩:=av q;exact(ja k).fs _ _
theorem Hz(q:zK u j o a n=true):BlockOk X j o a n:=by
 unfold zK at q;simp only[az]at q;obtain⟨⟨⟨⟨⟨⟨b,c⟩,m⟩,r⟩,p⟩,v⟩,d⟩:=q;have k:u.N=o.take u.N.length:=be p;refine⟨be b,λx e=>?_,λx e l=>?_,λx e l=>?_,?_,?_,λx e l i f=>?_⟩
 .simpa using bw.mp c x e
 .have:=bw.mp m x e;rw[l]at this;simpa using this
 .have:=bw.mp r x e;rw[l]at this;have t:j.names.lookup x.1=some .free/\(u.ks.lookup x.1=some .cell\/u.ks.lookup x.1=some .free):=by simpa using this
  refine⟨t.1,?_⟩;unfold Env.kindOf;rw[h.ks];exact t.2
 .rw [h.hN];exact k
 .rw [h.hN];exact be v
 .have:=bw.mp d x e;rw[l]at this;have s:je u.N x.1=some i:=o9 (by rw[<- h.hN];exact h.nd) (by rw[<- h.hN];exact f);rw[s]at this;simpa using this
end
set_option tactic.hygienic true in
theorem KZ{X:Cx}{N:LS}{s:List (Str×NameKind)}{k:List NameKind}{e:Expr}{g:jK}(f:X.N=N)(d:X.N.Nodup)(b:∀x,bE s x k=true->L2.Loc X.e.scope x/\(X.fn x=true\/X.e.scope.names.lookup x=some .local))(q:LR N s k e=some g):∃x p,e=.Name x p/\PG X (.Name x p) (gT X.K g):=by
 obtain⟨x,m,h⟩:=af q;clear q;obtain⟨p,rfl⟩:=jc m;split at h
 .rename_i c;obtain⟨i,r,rfl⟩:=av h;obtain⟨a,n⟩:=b _ c;exact⟨x,p,rfl,M_ i d (by rw[f];exact sf r) a n⟩
 .cases h
theorem tg_ok{X:Cx}{N:LS}{n:List (Str×NameKind)}{k:List NameKind}{e:Expr}{g:jK}(v:X.c=true)(b:X.N=N)(d:X.N.Nodup)(m:∀x,bE n x k=true->L2.Loc X.e.scope x/\(X.fn x=true\/X.e.scope.names.lookup x=some .local))(q:Ff N n k e=some g):PG X e (gT X.K g):=by
 have all:∀{s:Ab}{h:List jK},Fh N n k s=some h->GsOk X s h:=by
  intro s;induction s with
  |nil=>intro h q;cases q;exact .nil
  |cons e s i=>intro h q;obtain⟨g,f,t⟩:=af q;obtain⟨r,u,rfl⟩:=av t;clear q t;obtain⟨x,p,rfl,a⟩:=KZ b d m f;exact .cons a (i u)
 have w:=ku q;clear q;rcases w with ⟨s,z,q⟩|⟨_,q⟩
 .obtain⟨c,p,rfl⟩:=ip z;obtain⟨h,f,rfl⟩:=av q;exact M9 v (all f)
 .obtain⟨x,p,rfl,a⟩:=KZ b d m q;exact a
variable{j:Scope}
theorem FE(h:env.scope.kind=.function):(relabel j env).names=t6 j.names env.scope.names:=by unfold relabel t6 Env.kindOf;rw[h];simp
variable{X:Cx}{o:LS}{a:List Nat}
theorem XOk.inn(h:XOk u X)(B:BlockOk X j o a n)(d:o.Nodup)(s:Shared)(H:Hp)(C:Addr)(f:List Addr) :
  XOk ⟨o,[],[],u.refs,t6 j.names u.ks,u.F,u.G,u.A,u.M,u.I,u.E,u.R,u.Y⟩ (Ev.inn X j o s H C f) where
 hN:=rfl
 nd:=d
 ks:=by show(relabel j X.e).names=_;rw[FE h.kd,h.ks]
 kd:=B.kind
 calm:=h.calm
 hu:=h.hu
 fns:=h.fns
 blt:=h.blt
 glb:=h.glb
 attrs:=h.attrs
 meths:=h.meths
 mks:=h.mks
 exs:=h.exs
 ys:=h.ys
theorem sR(B:BlockOk X j o a n)(I:Inv X q z H s):closureFor j X.e=pure (oQ j X.e):=by
 have all:∀x ∈ j.names,x.2=.free->∃c,X.e.cells.lookup x.1=some c:=λx w f=>I.o.has x.1 (B.fr x w f).2;unfold closureFor oQ;have m:∀(l:List (Str×NameKind))(h:List (Str×Addr)),(∀x ∈ l,x.2=.free->∃c,X.e.cells.lookup x.1=some c) ->
   (forIn l h fun (x:Str×NameKind) (r:List (Str×Addr))=>(do
    if x.2 == .free then do
     let c <- cellOf X.e x.1
     pure (ForInStep.yield ((x.1,c)::r))
    else pure (ForInStep.yield r):Sem (ForInStep (List (Str×Addr)))))=pure ((((l.filter λx=>x.2 == .free).map λx=>(x.1,(X.e.cells.lookup x.1).getD 0)).reverse)++h):=by
  intro l;induction l with
  |nil=>intro h _;rfl
  |cons x l i=>
   intro h f;rw[jT];by_cases e:(x.2 == NameKind.free)=true
   .obtain⟨c,t⟩:=f x aH (by simpa using e);rw[am e,vk (p:=λ(x:Str×NameKind)=>x.2 == .free) e,aE,List.reverse_cons,gi];have d:cellOf X.e x.1=pure c:=by unfold cellOf;rw[t]
    rw[d,t];show(forIn l ((x.1,c)::h) _:Sem _)=_;rw[i ((x.1,c)::h) λy b=>f y (aI _ b)];rfl
   .rw [au e,vj (p:=λ(x:Str×NameKind)=>x.2 == .free) e];show(forIn l h _:Sem _)=_;rw[i h λy b=>f y (aI _ b)]
 have k:=m j.names [] all;rw [dB] at k;show (Bind.bind (forIn j.names [] fun (x:Str×NameKind) (r:List (Str×Addr))=>(do
    if x.2 == .free then do
     let c <- cellOf X.e x.1
     pure (ForInStep.yield ((x.1,c)::r))
    else pure (ForInStep.yield r):Sem (ForInStep (List (Str×Addr))))) λv=>pure v:Sem (List (Str×Addr)))=_
 rw[k];rfl
theorem LA{X:Cx}{j:Scope}{o:LS}{a:List Nat}{n:Nat}{e iter t:Expr}{i:Ab}{k:Pos}{m:iQ}{g:jK}{c:EB}{b:EV}(B:BlockOk X j o a n)(h:X.c=true)
  (w:PI X t iter (tI X.K m)) (d:∀s H C f,PG (inn X j o s H C f) t (gT X.K g)) (r:∀s H C f,PIfs (inn X j o s H C f) i c) (v:∀s H C f,PE (inn X j o s H C f) e (tV X.K b))
  (u:∀x,foldedSetIterable iter X.e x=pure x) :
  PE X (.ListComp e [⟨t,iter,i,0⟩] j k) (tV X.K (bO m a n g c b)):=λp s l H Q I q=>
 Ov B h w d r v (sR B I) u p s l H Q I q
theorem Ll{X:Cx}{j:Scope}{o:LS}{a:List Nat}{n:Nat}(i:Nat){x:Str}{u p:Pos}{e iter t:Expr}{f:Ab}{c:Pos}{d:iQ}{g:jK}{r:EB}{v:EV}(N:X.N.Nodup)(B:BlockOk X j o a n)(h:X.c=true)
  (F:PI X t iter (tI X.K d)) (S:∀s H C k,PG (inn X j o s H C k) t (gT X.K g)) (l:∀s H C k,PIfs (inn X j o s H C k) f r) (y:∀s H C k,PE (inn X j o s H C k) e (tV X.K v))
  (w:swapsWith (.ListComp e [⟨t,iter,f,0⟩] j c) (some (.Name x u)) p.line X.e=pure true)
  (K:∀x,foldedSetIterable iter X.e x=pure x) (m:X.N[i]? = some x) (P:L2.Loc X.e.scope x)
  (z:X.fn x=true\/X.e.scope.names.lookup x=some .local) :
  PS X (.Assign [.Name x u] (.ListComp e [⟨t,iter,f,0⟩] j c) p) (jJ X.K (ar i (O (bO d a n g r v)))):=λb s A H D I q=>
 Oe i N B h F S l y (sR B I) w K m P z b s A H D I q
def xa(n:Nat):Prop:=∀(u:Cn)(X:Cx),XOk u X->∀e,Good X e (tr u n e)
theorem XOk.own(h:XOk u X)(o:LS):XOk ⟨u.N,o,u.deep,u.refs,u.ks,u.F,u.G,u.A,u.M,u.I,u.E,u.R,u.Y⟩ X:=⟨h.hN,h.nd,h.ks,h.kd,h.calm,h.hu,h.fns,h.blt,h.glb,h.attrs,h.meths,h.mks,h.exs,h.ys⟩
set_option tactic.hygienic true in
theorem yf{u:Cn}{X:Cx}(h:XOk u X){n:Nat}(G:xa n){l t iter:Expr}{b:Ab}{j:Scope}{f:EV}(q:n0 u (λw x=>tr w n x) l t iter b j=some f) :
  ∃o a m S g y z,BlockOk X j o a m/\PI X t iter (tI X.K S)/\(∀s H C p,PG (inn X j o s H C p) t (gT X.K g))/\(∀s H C p,PIfs (inn X j o s H C p) b y)/\(∀s H C p,PE (inn X j o s H C p) l (tV X.K z)) /\
   (∀x,foldedSetIterable iter X.e x=pure x)/\f=bO S a m g y z:=by
 unfold n0 at q;generalize N:u.N++pI u.N (iu t)=o at q;generalize D:SH u.N (iu t)=a at q;generalize M:(pI u.N (iu t)).length=m at q;split at q
 .rename_i v;rw[az]at v;obtain⟨E,P,q⟩:=af q;obtain⟨A,I,q⟩:=af q;obtain⟨c,d,q⟩:=af q;obtain⟨e,L,rfl⟩:=av q;have B:BlockOk X j o a m:=Hz h v.1;have K:o.Nodup:=be v.2;have i:=λs H C p=>(h.inn B K s H C p).own (u.own.filter (λx=>!(iu t).contains x))
  refine⟨o,a,m,E,A,c,e,B,GI h (G u X h) P,λs H C p=>?_,λs H C p=>?_,λs H C p=>?_,λx=>sg P _ x,rfl⟩
  .exact tg_ok h.calm rfl K (λx F=>⟨.inl ((i s H C p).local F),.inr ((i s H C p).local F)⟩) I
  .cases b with
   |nil=>cases d;exact PIfs.none
   |cons k r=>
    cases r with
    |nil=>exact PIfs.one ((G _ _ (i s H C p) k).b c d)
    |cons _ _=>cases d
  .exact (G _ _ (i s H C p) l).v e L
 .cases q
theorem ye{u:Cn}{X:Cx}(h:XOk u X){n:Nat}(G:xa n){e t iter:Expr}{k:Ab}{j:Scope}{p:Pos}{f:EV}(q:n0 u (λr x=>tr r n x) e t iter k j=some f) :
  PE X (.ListComp e [⟨t,iter,k,0⟩] j p) (tV X.K f)/\∀(i:Nat){x:Str}{c s:Pos},X.N.Nodup->swapsWith (.ListComp e [⟨t,iter,k,0⟩] j p) (some (.Name x c)) s.line X.e=pure true->X.N[i]? = some x->L2.Loc X.e.scope x->(X.fn x=true\/X.e.scope.names.lookup x=some .local) ->
   PS X (.Assign [.Name x c] (.ListComp e [⟨t,iter,k,0⟩] j p) s) (jJ X.K (ar i (O f))):=by
 obtain⟨o,a,m,K,P,S,F,B,v,d,w,g,l,rfl⟩:=yf h G q;exact⟨LA B h.calm v d w g l,λi x c s N H b z y=>Ll i N B h.calm v d w g H l b z y⟩
set_option tactic.hygienic true in
theorem Fv{s:Ab}{a:Expr}(h:KR s=some a):∃p,s=[a,.List [] p]:=by
 obtain⟨⟨c,b⟩,e,f⟩:=af h;obtain⟨m,n,x⟩:=af f;obtain⟨p,rfl⟩:=xQ n;split at x
 .rename_i k;cases x;cases fF.mp k;exact⟨p,lu e⟩
 .cases x
theorem r9{u:Cn}{o:Expr}{m n:Str}{a c:Pos}(h:MQ u o m n a c=true):m=n/\zj o=true/\(a.endLine == c.line)=true:=by unfold MQ at h;simp only[az]at h;exact⟨be h.1.1.1,h.1.2,h.2⟩
theorem cS{o:Expr}{x:Str}{env:Env}(h:zj o=true):attributeBase o x env (eval o env)=eval o env:=by
 cases o with
 |Call f a k p=>
  cases f with
  |Name x q=>cases k<;>cases h
  |_=>rfl
 |_=>rfl
theorem J'(h:∀e ∈ s,fW e)(l:s.length < 29):methodCallForm (s.length+([]:List Keyword).length) (backTo p (starEach s env)) (backToKw p (keywordEach [] env))=true:=by
 unfold methodCallForm;have a:=hX (env:=env) (p:=p) h;have n:(backTo p (starEach s env)).all (λx=>!x.1)=true:=by
  rw[bw];intro x f;cases b:x.1 with
  |false=>rfl
  |true=>have:(backTo p (starEach s env)).any (·.1)=true:=mN.mpr ⟨x,f,b⟩;rw[a]at this;cases this
 rw[n];have k:(backToKw p (keywordEach [] env))=[]:=rfl;rw[k];simp;lia
set_option tactic.hygienic true in
theorem vR{u:Cn}{X:Cx}(h:XOk u X){n:Nat}(g:∀x,Good X x (tr u n x)){o:Expr}{m:Str}{r:Ab}{p k:Pos}:Good X (.Call (.Attribute o m p) r [] k) (NN u (tr u n o).e o m (r.map λx=>(tr u n x).e) p k):=by
 unfold NN;split
 .rename_i c;simp only[az]at c;have l:r.length < 29:=by have:=be c.2;rwa [bn]at this
  refine .ofE (λf q=>?_) λ_ _=>rfl;obtain⟨x,t,q⟩:=af q;obtain⟨a,v,rfl⟩:=av q;obtain⟨d,s⟩:=j3 (λe _=>g e) v;have b:=MR (o:=o) (y:=m) (j:=p) (N:=k) (r:=r) (v:=X.e) (cS c.1.1) (J' s l) c.1.2;cases r with
  |nil=>cases v;exact Lv h.meths ((g o).e x t) b
  |cons e i=>exact Op h.meths ((g o).e x t) d (s e aH _ _) (hX λy w=>s y (aI _ w)) b
 .exact .no
theorem SF(h:XOk u X)(q:NU u.E t=true)(k:bE u.ks t [.globalImplicit]=true)(o:cO t=true):∃v,Q7 (D0 X.g t)=some v/\PE X (.Name t p) (tC v):=by
 rcases zG h.exs q with ⟨C,e,x,_⟩|⟨rfl,e,x⟩
 .exact⟨.ref C,by rw[x];rfl,Cg (h.gl k) e rfl (bF o).1⟩
 .exact⟨.ty "ValueError",by rw[x];rfl,Ci (h.gl k) e PyProof.Rows.Boot.«ValueError» rfl (by decide) (by decide)⟩
theorem JX{u:Cn}{X:Cx}(h:XOk u X){t:Str}{a:Expr}{f:EE}{e x p:Pos}(q:NU u.E t=true)(k:bE u.ks t [.globalImplicit]=true)(o:cO t=true)(n:bE u.ks ("isinstance":Str) [.globalImplicit]=true)(s:PE X a (tE X.K f))(m:fW a) :
  PE X (.Call (.Name "isinstance" e) [a,.Name t x] [] p) (tV X.K (oX (i_ u.E u.R t) f)):=by
 obtain⟨v,b,c⟩:=SF h (p:=x) q k o;exact Of b (ND h.exs q) (h.gl n) (h.blt ("isinstance":Str) (by decide)) s c (by rw[m];rfl) rfl
theorem JR{u:Cn}{X:Cx}(h:XOk u X){f:Str}{g:GF}{a:Expr}{s:Ab}{x:nP}{b p:Pos}(q:u.I f=some g)(v:bE u.ks f [.globalImplicit]=true)(w:cO f=true)(m:PA X (a::s) (yy X.K x))(n:∀e ∈ a::s,fW e) :
  PE X (.Call (.Name f b) (a::s) [] p) (tE X.K (sJ g f x)):=by
 obtain⟨C,k,j,l,y,c,d,mk,G,i,r⟩:=h.mks f g q;exact Oq mk G i (h.gl v) d c r m (bF w).1 (n a aH _ _) (hX λe t=>n e (aI _ t))
set_option tactic.hygienic true in
theorem Ho{g:List Comprehension}{t iter:Expr}{i:Ab}(h:Q6 g=some (t,iter,i)):g=[⟨t,iter,i,0⟩]:=by
 obtain⟨⟨a,b,c,d⟩,x,p⟩:=af h;split at p
 .rename_i hd;cases p;cases (show d=0 from hd);exact cn x
 .cases p
section
variable{u:Cn}{X:Cx}(h:XOk u X){n:Nat}(g:∀x,Good X x (tr u n x))
include h g
theorem LW{f:Str}{w:Ab}{D C:Pos}:Good X (.Call (.Name f D) w [] C) (S_ u (λx=>tr u n x) f w):=by
 refine .ite (λk=>?_) .no;simp only[az,p0]at k;cases w with
 |nil=>cases k.2
 |cons a w=>
 refine .el (λE j=>?_) λ_=>.el (λE j=>.ite (λ_=>?_) ?_) λ_=>.el (λK l=>?_) λ_=>.el (λ⟨K,t⟩ l=>?_) λ_=>.no
 .refine .ofE (λf q=>?_) λ_ _=>rfl;obtain⟨x,s,rfl⟩:=av q;obtain⟨p,v⟩:=j3 (λe _=>g e) s;exact JR h j k.1.1 k.1.2 p v
 .refine .ofV (λf q=>?_) λ_ _=>rfl;obtain⟨x,s,rfl⟩:=av q;obtain⟨p,v⟩:=j3 (λe _=>g e) s;exact(yn h j k.1.1 k.1.2 p v).1
 .refine .ofV (λf q=>?_) λ_ _=>rfl;obtain⟨x,s,rfl⟩:=av q;obtain⟨p,v⟩:=gq (λe _=>g e) s;exact Ko h j k.1.1 k.1.2 p v
 .cases cn l;refine .ite (λH=>?_) (.ite (λH=>?_) (.el (λb z=>?_) λ_=>.el (λ⟨b,c⟩ z=>?_) λ_=>?_))
  .subst H;refine .ofV (λf q=>?_) λ_ _=>rfl
   obtain⟨x,s,rfl⟩:=av q;exact Ry (h.gl k.1.1) (h.blt _ (by decide)) ((g _).e x s) ((rR s).st _ _)
  .subst H;refine .ofV (λf q=>?_) λ_ _=>rfl
   obtain⟨x,s,rfl⟩:=av q;exact E5 (h.gl k.1.1) (h.blt _ (by decide)) ((g _).e x s) ((rR s).st _ _)
  .obtain⟨rfl,r,L,B,rfl,d⟩:=Gs z;refine .ofV (λf q=>?_) λ_ _=>rfl;obtain⟨x,s,rfl⟩:=av q;obtain⟨rfl,d⟩:=qS d;exact IH h.calm (h.gl k.1.1) (h.blt _ (by decide)) (h.gl d) (h.blt _ (by decide)) ((g _).v x s) ((ja s).st _ _)
  .obtain⟨rfl,r,L,B,rfl,d⟩:=C7 z;refine .ofE (λf q=>?_) λ_ _=>rfl;obtain⟨x,s,q⟩:=af q;obtain⟨y,m,rfl⟩:=av q;obtain⟨rfl,d⟩:=qS d;have F:starEach [c] X.e=[(false,eval c X.e)]:=(ja m).st _ _;exact Ly h.calm (h.gl k.1.1) (h.blt _ (by decide)) (h.gl d) (h.blt _ (by decide)) ((g _).v x s) ((g _).v y m) (by rw[(ja s).st,F]) F IC
  .refine .ofV (λf q=>?_) λ_ _=>rfl;obtain⟨o,s,q⟩:=af q;obtain⟨x,m,rfl⟩:=av q;obtain⟨p,v⟩:=gq (s:=[a]) (λe _=>g e) m;exact Nz h s k.1.1 p v
 .refine .ite (λi=>?_) .no;rw[az]at i;cases be i.1;obtain⟨⟨p,v⟩,P,G⟩:=af l;obtain⟨M,A,I⟩:=av G;cases I;obtain⟨N,rfl⟩:=jc A;cases lu P;refine .el (λT s=>?_) λ_=>.ite (λS=>?_) .no
  .refine .ofV (λf q=>?_) λ_ _=>rfl;obtain⟨x,m,rfl⟩:=av q;exact M5 h s k.1.1 i.2 ((g _).e x m) (rR m).st
  .rw [az]at S;refine .ofV (λf q=>?_) λ_ _=>rfl;obtain⟨x,m,rfl⟩:=av q;exact JX h S.1 i.2 S.2 k.1.1 ((g _).e x m) (rR m).st
theorem LY{o:Expr}{m:Str}{i:Ab}{w j:Pos}:Good X (.Call (.Attribute o m w) i [] j) (Ta u (λx=>tr u n x) o m w i j):=by
 have l:X.A.units+1 < cLine:=by have:=h.hu;lia
 refine .el (λa d=>?_) λ_=>?_
 .cases cn d;refine .ite (λs=>?_) (.ite (λs=>?_) (.ite (λs=>?_) (.el (λA K=>.ite (λs=>?_) (vR h g)) λ_=>vR h g)))
  .obtain⟨rfl,t,v⟩:=r9 s;refine .ofE (λf q=>?_) λ_ _=>rfl;obtain⟨x,r,q⟩:=af q;obtain⟨y,k,rfl⟩:=av q;exact IL ((g _).e x r) ((g _).e y k) ((rR k).st _ _) (cS t) v
  .obtain⟨rfl,t,v⟩:=r9 s;refine .ofE (λf q=>?_) λ_ _=>rfl;obtain⟨x,r,q⟩:=af q;obtain⟨y,k,rfl⟩:=av q;exact IK ((g _).e x r) ((g _).v y k) ((ja k).st _ _) (cS t) v
  .simp only[az]at s;cases be s.1.1;refine .ofV (λf q=>?_) λ_ _=>rfl;obtain⟨x,r,q⟩:=af q;obtain⟨y,k,rfl⟩:=av q;exact Lw h.hu ((g _).v x r) ((g _).v y k) ((ja k).st _ _) (cS s.1.2) s.2
  .obtain⟨c,p,rfl⟩:=ip K;obtain⟨rfl,t,v⟩:=r9 s;refine .ofE (λf q=>?_) λ_ _=>rfl;obtain⟨x,r,q⟩:=af q;obtain⟨y,k,rfl⟩:=av q;exact Ou l ((g _).e x r) (gq (λe _=>g e) k).1 ⟨cS t,rfl,v,rfl⟩
 .refine .ite (λs=>.el (λ⟨a,b⟩ d=>?_) λ_=>.no) (.el (λa d=>.ite (λs=>?_) (vR h g)) λ_=>vR h g)
  .simp only[az]at s;cases be s.1.1;cases lu d;refine .ofV (λf q=>?_) λ_ _=>rfl;obtain⟨x,r,q⟩:=af q;obtain⟨y,k,q⟩:=af q;obtain⟨z,S,rfl⟩:=av q;have P:starEach [b] X.e=[(false,eval b X.e)]:=(ja S).st _ _;have F:starEach [a,b] X.e=[(false,eval a X.e),(false,eval b X.e)]:=by rw[(ja k).st,P]
   exact Lu l ((g _).v x r) ((g _).v y k) ((g _).v z S) ⟨cS s.1.2,by rw[F];rfl,s.2,by rw[F];rfl⟩
  .obtain⟨p,rfl⟩:=Fv d;obtain⟨rfl,t,v⟩:=r9 s;refine .ofE (λf q=>?_) λ_ _=>rfl;obtain⟨x,r,q⟩:=af q;obtain⟨y,k,rfl⟩:=av q;have H:=(ja k).st;exact IJ ((g _).e x r) ((g _).v y k) (KE NF) ⟨cS t,by rw[H];rfl,v,by rw[H];rfl⟩
end
set_option tactic.hygienic true in
theorem lK:∀n,xa n
 |0=>λu X h e=>Good.no
 |n+1=>by
  have G:=lK n;intro u X h e;have g:=G u X h;cases e with
  |Constant c k p=>
   cases c with
   |int i=>exact .ofV (λf q=>by cases q;exact RB) λ_ _=>rfl
   |bool i=>exact .ofV (λf q=>by cases q;exact TU) λ_ _=>rfl
   |none=>exact .ofV (λf q=>by cases q;exact Rv) λ_ _=>rfl
   |str i=>exact .ofV (λf q=>by cases q;exact Rr) λ_ _=>rfl
   |_=>exact .no
  |Name x p=>
   refine .ite (λw=>?_) (.ite (λw=>?_) .no)
   .rw [az]at w;refine .ofE (λf q=>?_) λ_ _=>rfl;obtain⟨i,r,rfl⟩:=av q;exact Om i (h.get r) (h.vis w.1) (bF w.2).1 (bF w.2).2
   .rw [az]at w;refine .ofV (λf q=>?_) λ_ _=>rfl;obtain⟨v,r,q⟩:=af q;split at q
    .cases q
    .rename_i hd;cases q;exact Ot (h.gl w.1) ((h.glb _ v r).1 (by simpa using hd)) (bF w.2).1
  |BinOp a l b p=>refine .ofV (λf q=>?_) λ_ _=>rfl;obtain⟨o,r,q⟩:=af q;obtain⟨x,t,q⟩:=af q;obtain⟨y,d,rfl⟩:=av q;exact TN (Ny h r) ((g _).v x t) ((g _).v y d)
  |UnaryOp l a p=>
   cases l with
   |USub=>refine .ofV (λf q=>?_) λ_ _=>rfl;obtain⟨x,r,rfl⟩:=av q;exact Rw ((g _).v x r)
   |Not=>
    refine .ofB (λf q=>?_) λf q=>?_
    .obtain⟨x,r,rfl⟩:=av q;exact Rl ((g _).b x r)
    .obtain⟨x,r,rfl⟩:=av q;exact Ru ((g _).w x r)
   |_=>exact .no
  |BoolOp l K p=>exact .ofB (λf q=>(xj (λe _=>g e) q).pt) λf q=>xk (λe _=>g e) q
  |Compare a H F p=>
   refine .el (λl A=>?_) λ_=>?_
   .cases cn A;refine .el (λb T=>?_) λ_=>.no
    cases cn T;refine .el (λP r=>?_) λ_=>?_
    .have s:∀f,((tr u n a).v.bind λx=>(tr u n b).v.map λy=>nY P x y)=some f->PE X (.Compare a [l] [b] p) (tV X.K f)/\PT X (.Compare a [l] [b] p) (tQ X.K (bV f)):=λf q=>by
      obtain⟨x,t,q⟩:=af q;obtain⟨y,d,rfl⟩:=av q;exact⟨RE (oO r) ((g _).v x t) ((g _).v y d) ((ja d).mr _),Rm (oO r) ((g _).v x t) ((g _).v y d) ((ja d).mr _)⟩
     exact .ofC (λf q=>(s f q).1) λf q=>(s f q).2
    .have s:∀f,((Nq l).bind λg=>(tr u n a).e.bind λx=>(tr u n b).e.map λy=>fy g x y)=some f->PE X (.Compare a [l] [b] p) (tV X.K f)/\PT X (.Compare a [l] [b] p) (tQ X.K (bV f)):=λf q=>by
      obtain⟨o,r,q⟩:=af q;obtain⟨x,t,q⟩:=af q;obtain⟨y,d,rfl⟩:=av q;exact⟨Ow (CO h r) ((g _).e x t) ((g _).e y d) ((rR d).mr _),Oh (CO h r) ((g _).e x t) ((g _).e y d) ((rR d).mr _)⟩
     exact .ofC (λf q=>(s f q).1) λf q=>(s f q).2
   .have s:∀f,((sZ H).bind λo=>(sZ F).bind λz=>(N3 o.1).bind λg=>(N3 o.2).bind λP=>(tr u n a).v.bind λx=>(tr u n z.1).v.bind λy=>(tr u n z.2).v.map λz=>nZ g P x y z)=some f->PE X (.Compare a H F p) (tV X.K f)/\PT X (.Compare a H F p) (tQ X.K (bV f)):=λf q=>by
     obtain⟨⟨o1,o2⟩,M,I⟩:=af q;obtain⟨⟨b,c⟩,N,p1⟩:=af I;clear q I;cases lu M;cases lu N;obtain⟨o,r,q⟩:=af p1;obtain⟨o',t,q⟩:=af q;obtain⟨x,d,q⟩:=af q;obtain⟨y,L,q⟩:=af q;obtain⟨z,S,rfl⟩:=av q;exact⟨LB (oO r) (oO t) ((g _).v x d) ((g _).v y L) ((g _).v z S) ((ja S).ms _ _ _),Lm (oO r) (oO t) ((g _).v x d) ((g _).v y L) ((g _).v z S) ((ja S).ms _ _ _)⟩
    exact .ofC (λf q=>(s f q).1) λf q=>(s f q).2
  |IfExp c a b p=>
   have D:∀f,((tr u n c).b.bind λq=>(tr u n a).v.bind λx=>(tr u n b).v.map λy=>OF q x y)=some f->PE X (.IfExp c a b p) (tV X.K f):=λf q=>by obtain⟨o,r,q⟩:=af q;obtain⟨x,t,q⟩:=af q;obtain⟨y,d,rfl⟩:=av q;exact TR ((g _).b o r) ((g _).v x t) ((g _).v y d)
   refine⟨D,λf q=>?_,λf q=>(by cases q),λf q=>?_⟩
   .obtain⟨x,r,rfl⟩:=av (show lj O _=some f from q);exact NK (D _ r)
   .obtain⟨x,r,rfl⟩:=av (show lj bV _=some f from q);exact BR (D _ r)
  |Tuple K c p=>refine .ofV (λf q=>?_) λ_ _=>rfl;obtain⟨x,r,rfl⟩:=av q;exact Rq (gq (λe _=>g e) r).1
  |List K p=>refine .ofV (λf q=>?_) λ_ _=>rfl;obtain⟨x,r,rfl⟩:=av q;exact Rx (gq (λe _=>g e) r).1
  |Dict ks vs p=>refine .ite (λw=>?_) .no;rw[az]at w;cases fF.mp w.1;cases fF.mp w.2;exact⟨λf q=>(by cases q;exact Rp E6),λf q=>(by cases q;exact E6),λf q=>(by cases q),λf q=>(by cases q)⟩
  |Subscript a i p=>
   have B:X.A.units+1 < cLine:=by have:=h.hu;lia
   refine .el (λ⟨lo,hi,st⟩ Z=>?_) λ_=>.ite (λ_=>.el (λK R=>?_) λ_=>?_) ?_
   .obtain⟨p,rfl⟩:=L_ Z;cases st with
    |some _=>exact .no
    |none=>refine .ofV (λf q=>?_) λ_ _=>rfl;obtain⟨x,r,q⟩:=af q;obtain⟨y,t,q⟩:=af q;obtain⟨z,d,rfl⟩:=av q;exact Rt ((g _).v x r) (Fg g t) (Fg g d)
   .obtain⟨c,p,rfl⟩:=ip R;refine .ofE (λf q=>?_) λ_ _=>rfl;obtain⟨x,r,q⟩:=af q;obtain⟨y,t,rfl⟩:=av q;exact Rz B ((g _).e x r) (gq (λe _=>g e) t).1 λ_ _=>rfl
   .refine .ofE (λf q=>?_) λ_ _=>rfl;obtain⟨x,r,q⟩:=af q;obtain⟨y,t,rfl⟩:=av q;exact RA B ((g _).e x r) ((g _).v y t) (ja t).ix
   .refine .ofV (λf q=>?_) λ_ _=>rfl;obtain⟨x,r,q⟩:=af q;obtain⟨y,t,rfl⟩:=av q;exact TQ B ((g _).v x r) ((g _).v y t) (ja t).ix
  |Call fn as ks cp=>
   refine .ite (λW=>?_) .no;cases fF.mp W;refine .el (λf V=>?_) λ_=>.el (λ⟨o,m,ap⟩ A=>?_) λ_=>.no
   .obtain⟨fp,rfl⟩:=jc V;exact LW h g
   .cases zM A;exact LY h g
  |Attribute o f p=>
   refine .ite (λw=>.ite (λ_=>?_) ?_) .no
   .refine .ofE (λf q=>?_) λ_ _=>rfl;obtain⟨x,r,rfl⟩:=av q;exact TL (λc C z E=>⟨(h.exs.ri c _ C z E).1,(h.exs.ri c _ C z E).2.1⟩) ((g _).e x r) (cS w)
   .refine .ofE (λf q=>?_) λ_ _=>rfl;obtain⟨x,r,rfl⟩:=av q;exact RC h.attrs ((g _).e x r) (cS w)
  |ListComp Q gs j p=>refine .el (λ⟨tg,iter,ifs⟩ hz=>?_) λ_=>.no;cases Ho hz;exact .ofV (λf q=>(ye h G q).1) λ_ _=>rfl
  |_=>exact .no
set_option tactic.hygienic true in
theorem rF{u:Cn}{X:Cx}(h:XOk u X){n k:Nat}{e:Expr}{f:EE}(q:QE u n k e=some f):PE X e (tE X.K f)/\(ji e=false->∀t l env,swapsWith e t l env=pure false):=by
 have g:=lK n u X h;have m:∀{e},(tr u n e).e=some f->PE X e (tE X.K f)/\(ji e=false->∀t l env,swapsWith e t l env=pure false):=λq=>⟨(g _).e f q,(rR q).sw⟩;have S:=ku q;clear q;rcases S with ⟨⟨w,r⟩,H,q⟩|⟨_,q⟩
 .obtain⟨B,K,rfl⟩:=fO H;dsimp only at q;split at q
  .rename_i c;simp only[az,p0]at c;rcases ku q with ⟨i,d,q⟩|⟨_,q⟩
   .refine⟨?_,λ_ _ _ _=>rfl⟩;cases r with
    |nil=>cases c.1.2
    |cons a F=>
     split at q
     .obtain⟨x,v,rfl⟩:=av q;obtain⟨b,s⟩:=gq (λe _=>g e) v;obtain⟨k,P,A,C,G,o,z,p,j⟩:=h.fns w i d;exact LD G o (h.gl c.1.1.1) z p j b (bF c.1.1.2).1 (s a aH _ _) (hX λe y=>s e (aI _ y))
     .obtain⟨x,v,rfl⟩:=av q;obtain⟨b,s⟩:=j3 (λe _=>g e) v;exact(yn h d c.1.1.1 c.1.1.2 b s).2
   .exact m q
  .exact m q
 .exact m q
def yW(T:Stmt->Option ES):List Stmt->Option ES
 | []=>some eM
 | [s]=>T s
 |s::r=>(T s).bind λf=>(yW T r).map λg=>ag f g
noncomputable def PQ(e:Expr):Option Unit:=if h:e.ctorIdx=6 then Expr.Dict.elim e h λk v _=>if (k.isEmpty && v.isEmpty)=true then some () else none else none
theorem J2{e:Expr}{u:Unit}(h:PQ e=some u):∃p,e=.Dict [] [] p:=by
 have c:=DT h;revert h;exact Expr.Dict.elim e c λk v p h=>by
  cases k with
  |cons _ _=>cases h
  |nil=>
   cases v with
   |cons _ _=>cases h
   |nil=>exact⟨p,rfl⟩
def NB(s:Stmt):Option (Str×Expr):=if h:s.ctorIdx=5 then Stmt.Assign.elim s h λa v _=>(ir a).bind λt=>(y' t).map λx=>(x,v) else none
theorem CZ{s:Stmt}{x:Str}{v:Expr}(h:NB s=some (x,v)):∃b e,s=.Assign [.Name x b] v e:=by
 have c:=DT h;revert h;exact Stmt.Assign.elim s c λa m e h=>by obtain⟨t,n,h⟩:=af h;obtain⟨r,k,f⟩:=av h;obtain⟨p,rfl⟩:=jc k;cases f;exact⟨p,e,by rw[cn n]⟩
def PV:ExceptHandler->Option (Str×Str×List Stmt)
 | .ExceptHandler t n b _=>t.bind λt=>n.bind λn=>(y' t).map λc=>(c,n,b)
theorem J4{e:ExceptHandler}{c n:Str}{b:List Stmt}(h:PV e=some (c,n,b)):∃k o,e=.ExceptHandler (some (.Name c k)) (some n) b o:=by obtain⟨t,m,x,p⟩:=e;obtain⟨q,rfl,h⟩:=af (show(t.bind λt=>m.bind λn=>(y' t).map λc=>(c,n,x))=_ from h);obtain⟨r,rfl,h⟩:=af h;obtain⟨f,a,s⟩:=av h;obtain⟨p,rfl⟩:=jc a;cases s;exact⟨_,_,rfl⟩
def KL(u:Cn)(T:Expr->Tr)(D:Expr->Option EE)(b:List Stmt)(p:List ExceptHandler)(e m:List Stmt):Option ES:=if (e.isEmpty && m.isEmpty)=true then
  (ir b).bind λs=>(NB s).bind λx=>(nB x.2).bind λf=>(ir p).bind λh=>(PV h).bind λc=>(ir c.2.2).bind λq=>(NB q).bind λy=>(y' y.2).bind λz=>(u.Y f.1).bind λg=>
   if (bE u.ks x.1 [.local,.cell] && bE u.ks y.1 [.local,.cell] && bE u.ks f.1 [.globalImplicit] && cO f.1 && !f.2.isEmpty && bE u.ks c.1 [.globalImplicit] && cO c.1 && (u.E.any λw=>decide (w.1=c.1)) && bE u.ks c.2.1 [.local] && decide (z=c.2.1) && cO c.2.1)=true then
    (je u.N x.1).bind λi=>(je u.N y.1).bind λj=>(je u.N c.2.1).bind λk=>(if u.own.contains x.1=true then D x.2 else (T x.2).e).bind λt=>(pq (f.2.map λw=>(T w).e)).map λa=>
     y3 (ar i t) (fH g a) (λr=>u.R.contains r && (u.E.lookup r).any λn=>n.contains c.1) k (ar j (aN k))
   else none
 else none
noncomputable def Me(s:Stmt):Option Expr:=if h:s.ctorIdx=3 then Stmt.Return.elim s h λr _=>r else none
theorem B_{s:Stmt}{e:Expr}(h:Me s=some e):∃p,s=.Return (some e) p:=by have c:=DT h;revert h;exact Stmt.Return.elim s c λr p h=>⟨p,by cases (show r=some e from h);rfl⟩
def LN(u:Cn)(e:Expr):Option (Ab):=if u.own.contains ("return":Str)=true then kK e else none
theorem IW{u:Cn}{e:Expr}{s:Ab}(h:LN u e=some s):∃c p,e=.Tuple s c p:=by
 unfold LN at h;split at h
 .exact ip h
 .cases h
def Fe(T:Expr->Tr)(b:List Stmt)(h:List ExceptHandler)(l f:List Stmt):Option ES:=if (l.isEmpty && f.isEmpty)=true then
  (ir h).bind λ_=>(ir b).bind λs=>(Me s).bind λe=>(T e).e.map aS
 else none
def S7(u:Cn)(n:Nat)(t v:Expr):Option ES:=
 (y' t).elim ((RW t).elim ((Qr t).elim (if ji v=true then none else (kK t).bind fun _=>if (kK v).isSome=true then none else (Ff u.N u.ks [.local,.cell] t).bind fun g=>(tr u n v).v.map fun z=>vW g z)
   λz=>if ((PQ v).isSome && u.deep.contains z.2.1)=true then (tr u n z.1).e.map λx=>o4 u.A x z.2.1 zv else if ji v=true then none else (tr u n z.1).e.bind λx=>(QE u n 5 v).map λy=>o4 u.A x z.2.1 y)
  λz=>if ji v=true then none else (tr u n z.1).e.bind λx=>(tr u n v).v.bind λw=>(kK z.2).elim ((tr u n z.2).v.map λy=>ju x y w) λe=>(rG (e.map λz=>(tr u n z).v)).map λy=>Fx x y w)
 λx=>if bE u.ks x [.local,.cell]=true then (je u.N x).bind λi=>if (u.deep.contains x && !ji v)=true then (QE u n 5 v).map (ar i) else (if u.own.contains x=true then GO v else none).elim ((tr u n v).e.map (ar i)) λe=>(rG (e.map λy=>(tr u n y).v)).map λa=>ar i (cZ a)
  else none
def KN(u:Cn):Nat->Stmt->Option ES
 |0,_=>none
 |n+1,st=>match st with
  | .Assign a v _=>(ir a).bind λt=>S7 u n t v
  | .Return r _=>r.bind λe=>(LN u e).elim ((tr u n e).e.map aS) λm=>(pq (m.map λx=>(tr u n x).e)).map λh=>aS (ul h)
  | .Break _=>some RY
  | .Expr e _=>if ji e=true then none else (tr u n e).e.map cf
  | .Raise ..=>some vX
  | .Try b s l f _=>(KL u (λy=>tr u n y) (λy=>QE u n 5 y) b s l f).elim (Fe (λy=>tr u n y) b s l f) some
  | .If c h b _=>(tr u n c).b.bind λq=>(yW (KN u n) h).bind λx=>(yW (KN u n) b).map λy=>dQ q x y
  | .For k iter o l _=>if l.isEmpty=false then none else (Ff u.N u.ks [.local,.cell] k).bind λg=>(Fi u (λy=>tr u n y) k iter).bind λi=>(yW (KN u n) o).map λb=>bW i g b
  |_=>none
theorem Gj{e:Ab}{c:Nat}{p:Pos}{v:Expr}{env:Env}(h:¬(kK v).isSome=true):swappedStores [.Tuple e c p] v env=pure none:=by cases v<;>first|rfl|exact absurd rfl h
theorem I_{u:Cn}{n:Nat}{l:Expr}{g:List Comprehension}{j:Scope}{p:Pos}{f:EE}(h:(tr u n (.ListComp l g j p)).e=some f) :
  ∃k t iter i s,n=k+1/\g=[⟨t,iter,i,0⟩]/\n0 u (λa x=>tr a k x) l t iter i j=some s/\f=O s:=by
 cases n with
 |zero=>cases h
 |succ n=>
  replace h:((Q6 g).elim {} λz=>Tr.ofV (n0 u (λa x=>tr a n x) l z.1 z.2.1 z.2.2 j)).e=some f:=h;cases e:Q6 g with
  |none=>rw[e]at h;cases h
  |some z=>rw[e]at h;obtain⟨x,q,rfl⟩:=av (show lj O _=some f from h);exact⟨n,_,_,_,x,rfl,Ho e,q,rfl⟩
theorem mY{X:Cx}{T:Stmt->Option ES}(h:∀st f,T st=some f->PS X st (jJ X.K f)):∀{a:List Stmt}{f:ES},yW T a=some f->jq X a (jJ X.K f)
 | [],f,q=>by cases q;exact Rh
 | [s],f,q=>EW (h s f q)
 |s::t::r,f,q=>by obtain⟨x,e,q⟩:=af q;obtain⟨y,n,rfl⟩:=av q;exact Od (h s x e) (mY h n)
theorem XOk.more(h:XOk u X)(E:VP)(p:PN):XOk u (gH X E p):=⟨h.hN,h.nd,h.ks,h.kd,h.calm,h.hu,h.fns,h.blt,h.glb,h.attrs,h.meths,h.mks,h.exs,h.ys⟩
structure OnStack(X:Cx):Prop where
 stk:X.k=X.e::X.o
 frm:X.e.frame=some X.e.locals
 ex:X.ex=[]
theorem Ky{u:Cn}{X:Cx}(h:XOk u X){n:Nat}{a:Ab}{s:nP}(q:pq (a.map λw=>(tr u n w).e)=some s):PA X a (yy X.K s)/\∀e ∈ a,fW e:=j3 (λe _=>lK n u X h e) q
theorem ym{u:Cn}{X:Cx}(h:XOk u X){n:Nat}{f:Str}{v q:Pos}{r:Ab}{s:nP}{g:GX}(d:u.Y f=some g)(m:bE u.ks f [.globalImplicit]=true)(t:cO f=true)(p:r.isEmpty=false)(H:pq (r.map λw=>(tr u n w).e)=some s):PE X (.Call (.Name f v) r [] q) (Jd X (fH g s)):=by
 obtain⟨l,k,S,F,K,G,o,z,y,i⟩:=h.ys f g d;obtain⟨b,x⟩:=Ky h H;cases r with
 |nil=>cases p
 |cons a c=>exact Lo G l o (h.gl m) z y i b (bF t).1 (x a aH _ _) (hX λe j=>x e (aI _ j))
theorem LO{u:Cn}{X:Cx}(h:XOk u X)(r:∀x,X.fn x=true)(K:OnStack X){n:Nat}{x y c f v:Str}{Q F H A np yp zp z o P:Pos}{a:Ab}{M:GX}{i j k:Nat}{L:EE}{B:nP}(hY:u.Y f=some M)
  (D:bE u.ks x [.local,.cell]=true) (T:bE u.ks y [.local,.cell]=true) (V:bE u.ks f [.globalImplicit]=true) (W:cO f=true) (Z:a.isEmpty=false) (c6:bE u.ks c [.globalImplicit]=true) (c7:cO c=true) (G:(u.E.any λw=>decide (w.1=c))=true) (I:bE u.ks v [.local]=true) (t:cO v=true)
  (J:je u.N x=some i) (qj:je u.N y=some j) (N:je u.N v=some k) (q1:∀E p,PE (gH X E p) (.Call (.Name f F) a [] H) (tE X.K L)) (q2:pq (a.map λw=>(tr u n w).e)=some B) :
  PS X (.Try [.Assign [.Name x Q] (.Call (.Name f F) a [] H) A] [.ExceptHandler (some (.Name c np)) (some v) [.Assign [.Name y yp] (.Name v zp) z] o] [] [] P) (jJ X.K (y3 (ar i L) (fH M B) (λm=>u.R.contains m && (u.E.lookup m).any λs=>s.contains c) k (ar j (aN k)))):=by
 obtain⟨R,ns2,g⟩:=h.exs.own c G;have d:swapsWith (.Call (.Name f F) a [] H) (some (.Name x Q)) A.line X.e=pure false:=rfl;refine N7 K.stk K.frm K.ex h.nd (h.gl c6) g (bF c7).1 (h.get N) (h.local I) (λE p=>?_) (λE p=>?_) (λe=>?_) λm C q ns=>?_
 .have b:=h.more E p;exact EW (X:=gH X E p) (C8 (X:=gH X E p) i b.nd (q1 E p) (b.get J) (b.loc D) d (.inl (r x)))
 .have b:=h.more E p;exact m5 (Oz (X:=gH X E p) i b.nd (ym b hY V W Z q2) (b.get J) (b.loc D) d (.inl (r x)))
 .exact EW (X:=gL X e) (C8 (X:=gL X e) j h.nd (Om (X:=gL X e) k (h.get N) (.inl (h.local I)) (bF t).1 (bF t).2) (h.get qj) (h.loc T) rfl (.inl (r y)))
 .obtain⟨hR,l⟩:=p9.mp (show(u.R.contains m && (u.E.lookup m).any λs=>s.contains c)=true from q);cases S:u.E.lookup m with
  |none=>rw[S]at l;cases l
  |some s=>rw[S]at l;exact((h.exs.cl m s C hR S ns).2.2.2 c R G g).2 l
set_option tactic.hygienic true in
theorem LU{u:Cn}{X:Cx}(h:XOk u X)(r:∀x,X.fn x=true){n:Nat}{t v:Expr}{R:Pos}{f:ES}(q:S7 u n t v=some f):PS X (.Assign [t] v R) (jJ X.K f):=by
 have g:=lK n u X h;have E:X.A.units+1 < cLine:=by have:=h.hu;lia
 rcases ku q with ⟨x,M,S⟩|⟨_,S⟩
 .clear q;obtain⟨Q,rfl⟩:=jc M;split at S
  .rename_i D;obtain⟨i,J,q⟩:=af S;split at q
   .rename_i hd;rw[az]at hd;obtain⟨W,m,rfl⟩:=av q;exact C8 i h.nd (rF h m).1 (h.get J) (h.loc D) ((rF h m).2 (by simpa using hd.2) _ _ _) (.inl (r x))
   .rcases ku q with ⟨G,l,q⟩|⟨_,q⟩
    .split at l
     .obtain⟨a,m,rfl⟩:=av q;obtain⟨p,rfl⟩:=xQ l;exact C8 i h.nd (KE (gq (λe _=>g e) m).1) (h.get J) (h.loc D) rfl (.inl (r x))
     .cases l
    .obtain⟨W,m,rfl⟩:=av q;cases I:ji v with
     |false=>exact C8 i h.nd ((g v).e W m) (h.get J) (h.loc D) ((rR m).sw I _ _ _) (.inl (r x))
     |true=>
      have c:v.ctorIdx=8:=eq_of_beq I;clear q I S;revert m;refine Expr.ListComp.elim v c fun a gs c d m=>?_;obtain⟨k,T,iter,P,f',rfl,rfl,F,rfl⟩:=I_ m;have V:=ye (p:=d) h (lK k) F;have A:swapsWith (.ListComp a [⟨T,iter,P,0⟩] c d) (some (.Name x Q)) R.line X.e=pure (X.e.blockKind == .function && X.e.kindOf x == some .local && Q.line == (Expr.ListComp a [⟨T,iter,P,0⟩] c d).pos.line
       && !(c.names.any λ(n,k)=>n == x && (k == .local ||k == .cell))):=rfl
      revert A;generalize (X.e.blockKind == .function && X.e.kindOf x == some .local && Q.line == (Expr.ListComp a [⟨T,iter,P,0⟩] c d).pos.line && !(c.names.any λ(n,k)=>n == x && (k == .local ||k == .cell)))=b;intro A;cases b with
      |true=>exact V.2 i h.nd A (h.get J) (h.loc D) (.inl (r x))
      |false=>exact C8 i h.nd (NK V.1) (h.get J) (h.loc D) A (.inl (r x))
  .cases S
 rcases ku S with ⟨⟨o,i⟩,N,K⟩|⟨_,K⟩
 .clear q S;obtain⟨p,rfl⟩:=Ma N;split at K
  .cases K
  rename_i H;obtain⟨x,m,j⟩:=af K;obtain⟨w,C,B⟩:=af j;have A:=(ja C).sw (by simpa using H);have q0:=ku B;clear K j B;rcases q0 with ⟨G,Z,q⟩|⟨_,q⟩
  .obtain⟨c,p,rfl⟩:=ip Z;obtain⟨y,F,rfl⟩:=av q;exact N9 E ((g o).e x m) (gq (λe _=>g e) F).1 ((g v).v w C) (A _ _ _)
  .obtain⟨y,F,rfl⟩:=av q;exact Oa E ((g o).e x m) ((g i).v y F) ((g v).v w C) (A _ _ _) rfl (ja F).ps
 rcases ku K with ⟨⟨o,f,ap⟩,N,j⟩|⟨_,j⟩
 .clear q S K;cases zM N;split at j
  .rename_i hd;rw[az]at hd;obtain⟨s,E⟩:=uS.mp hd.1;obtain⟨p,rfl⟩:=J2 E;obtain⟨x,m,rfl⟩:=av j;exact Ob h.attrs ((g o).e x m) Lz rfl
  split at j
  .cases j
  .rename_i H;obtain⟨x,m,q⟩:=af j;obtain⟨z,F,rfl⟩:=av q;exact Ob h.attrs ((g o).e x m) (rF h F).1 ((rF h F).2 (by simpa using H) _ _ _)
 .clear q S K;split at j
  .cases j
  rename_i H;obtain⟨G,l,B⟩:=af j;clear j;obtain⟨c,p,rfl⟩:=ip l;split at B
  .cases B
  .rename_i L;obtain⟨gg,m,q⟩:=af B;obtain⟨z,C,rfl⟩:=av q;exact Rf ((g v).v z C) (tg_ok h.calm h.hN h.nd (λx M=>⟨h.loc M,.inl (r x)⟩) m) (show swapsWith v (some (.Tuple G c p)) R.line X.e=pure false from(ja C).sw (by simpa using H) _ _ _) (Gj L) rfl
set_option tactic.hygienic true in
theorem vQ{u:Cn}{X:Cx}(h:XOk u X)(l:∀x,X.fn x=true)(W:PassesOwn (model X.p X.w) X.A X.e X.xe)(hs:OnStack X):∀n (st:Stmt) (f:ES),KN u n st=some f->PS X st (jJ X.K f)
 |0,st,f,q=>by cases q
 |n+1,st,f,q=>by
  have N:=vQ h l W hs n;have g:=lK n u X h;cases st with
  |Assign a Q sp=>obtain⟨t,o,w⟩:=af q;clear q;cases cn o;exact LU h l w
  |Return r p=>
   obtain⟨e,o,w⟩:=af q;cases (show r=some e from o);clear q o;rcases ku w with ⟨es,L,q⟩|⟨_,q⟩
   .obtain⟨x,m,rfl⟩:=av q;obtain⟨c,p,rfl⟩:=IW L;exact Lj (Oo (j3 (λe _=>g e) m).1)
   .obtain⟨x,m,rfl⟩:=av q;exact Lj ((g _).e x m)
  |Break p=>cases q;exact TJ
  |Expr e p=>
   replace q:(if ji e=true then none else (tr u n e).e.map cf)=some f:=q;split at q
   .cases q
   .rename_i M;obtain⟨x,m,rfl⟩:=av q;exact Oc ((g _).e x m) ((rR m).sw (by simpa using M) _ _ _)
  |Raise e c p=>cases q;exact Lk
  |Try b hd F fin p=>
   rcases ku q with ⟨f0,d,w⟩|⟨_,d⟩
   .cases w;unfold KL at d;split at d
    .rename_i H;rw[az]at H;cases fF.mp H.1;cases fF.mp H.2;obtain⟨s,o,w⟩:=af d;obtain⟨⟨x,v⟩,C,P⟩:=af w;obtain⟨⟨f,R⟩,D,A⟩:=af P;obtain⟨hh,b4,p3⟩:=af A;obtain⟨⟨c,nm,bb⟩,b5,p4⟩:=af p3;obtain⟨s2,b6,p5⟩:=af p4;obtain⟨⟨y,v2⟩,b7,p6⟩:=af p5;obtain⟨z,b8,p7⟩:=af p6;obtain⟨gx,hY,B⟩:=af p7;clear q d w P A p3 p4 p5 p6 p7;obtain⟨fp,cp,rfl⟩:=fO D;obtain⟨xp,ap,rfl⟩:=CZ C;obtain⟨zp,rfl⟩:=jc b8;obtain⟨yp,ap2,rfl⟩:=CZ b7;cases cn b6;obtain⟨np,Z,rfl⟩:=J4 b5;cases cn o;cases cn b4;dsimp only at B;split at B
     .rename_i V;simp only[az,p0]at V;obtain⟨⟨⟨⟨⟨⟨⟨⟨⟨⟨c1,c2⟩,c3⟩,c4⟩,c5⟩,c6⟩,c7⟩,c8⟩,c9⟩,G⟩,I⟩:=V;obtain⟨i,J,q⟩:=af B;obtain⟨j,qj,q⟩:=af q;obtain⟨kk,qk,q⟩:=af q;obtain⟨fe,m,q⟩:=af q;obtain⟨as,K,rfl⟩:=av q;cases be G;refine LO h l hs hY c1 c2 c3 c4 c5 c6 c7 c8 c9 I J qj qk (λE S=>?_) K;split at m
      .exact (rF (h.more E S) m).1
      .exact (lK n u _ (h.more E S) _).e fe m
     .cases B
    .cases d
   .unfold Fe at d;split at d
    .rename_i H;rw[az]at H;cases fF.mp H.1;cases fF.mp H.2;obtain⟨hh,o,w⟩:=af d;obtain⟨s,C,P⟩:=af w;obtain⟨e,D,A⟩:=af P;obtain⟨x,m,rfl⟩:=av A;cases cn o;cases cn C;obtain⟨p,rfl⟩:=B_ D;exact N8 λE S=>EW (X:=gH X E S) (Lj (X:=gH X E S) ((lK n u _ (h.more E S) e).e x m))
    .cases d
  |If c k b p=>obtain⟨c,m,q⟩:=af q;obtain⟨x,K,q⟩:=af q;obtain⟨y,q3,rfl⟩:=av q;exact TH ((g _).b c m) (mY N K) (mY N q3)
  |For tg iter T F p=>
   cases F with
   |cons _ _=>cases q
   |nil=>obtain⟨gg,d,q⟩:=af q;obtain⟨it,m,q⟩:=af q;obtain⟨b,K,rfl⟩:=av q;exact Ri W h.calm (GI h g m) (tg_ok h.calm h.hN h.nd (λx hx=>⟨h.loc hx,.inl (l x)⟩) d) (mY N K) λx=>sg m _ x
  |_=>cases q
def Ja(T:Stmt->Option ES)(h:Stmt->EX):List Stmt->EX
 | []=>yx
 | [s]=>h s
 |s::r=>match T s with
  |some f=>rh f (h s) (Ja T h r)
  |none=>h s
def OJ(u:Cn)(e c:Option Expr):Option EX:=if c.isSome=true then none else e.bind λe=>(nB e).bind λz=>if (z.2.isEmpty && u.R.contains z.1 && (G_.lookup z.1).isNone && bE u.ks z.1 [.globalImplicit] && cO z.1)=true then some (yP z.1) else none
def Jb(u:Cn)(n:Nat)(e:Expr):Option EX:=(nB e).bind λz=>(u.Y z.1).bind λg=>(pq (z.2.map λw=>(tr u n w).e)).bind λa=>if (bE u.ks z.1 [.globalImplicit] && cO z.1 && !z.2.isEmpty)=true then some (fH g a) else none
def LX(u:Cn)(n:Nat)(e:Expr):Option EX:=(Q9 e).bind λz=>(ir z.2.1).bind λa=>if MQ u z.1.1 z.1.2.1 "append" z.1.2.2 z.2.2=true then (tr u n z.1.1).e.bind λf=>(Jb u n a).map λx=>rj f x else none
def PX:ExceptHandler->Option (Str×List Stmt)
 | .ExceptHandler t n b _=>if n.isNone=true then t.bind λt=>(y' t).map λc=>(c,b) else none
set_option tactic.hygienic true in
theorem J5{e:ExceptHandler}{c:Str}{b:List Stmt}(h:PX e=some (c,b)):∃f o,e=.ExceptHandler (some (.Name c f)) none b o:=by
 obtain⟨t,n,x,p⟩:=e;replace h:(if n.isNone=true then t.bind λt=>(y' t).map λc=>(c,x) else none)=some (c,b):=h;split at h
 .rename_i k;rw[Ay.mp k];obtain⟨r,rfl,h⟩:=af h;obtain⟨m,a,s⟩:=av h;obtain⟨p,rfl⟩:=jc a;cases s;exact⟨_,_,rfl⟩
 .cases h
def PP(e:Expr):Option Unit:=(Tx e).bind λc=>if c.ctorIdx=Const.none.ctorIdx then some () else none
theorem JZ(h:PP e=some s):∃j p,e=.Constant .none j p:=by obtain⟨c,x,a⟩:=af h;obtain⟨j,p,rfl⟩:=Nr x;cases c<;>first|exact⟨j,p,rfl⟩|cases a
def Tf(s:Stmt):Option (Str×Str):=if h:s.ctorIdx=16 then Stmt.Raise.elim s h λe c _=>e.bind λe=>c.bind λc=>(nB e).bind λz=>(ir z.2).bind λa=>(y' a).bind λx=>(PP c).map λ_=>(z.1,x) else none
theorem Mc{s:Stmt}{d x:Str}(h:Tf s=some (d,x)):∃f b n j k p,s=.Raise (some (.Call (.Name d f) [.Name x b] [] n)) (some (.Constant .none j k)) p:=by
 have c:=DT h;revert h;exact Stmt.Raise.elim s c λe c z h=>by obtain⟨e,rfl,m⟩:=af h;obtain⟨c,rfl,r⟩:=af m;obtain⟨⟨H,o⟩,w,t⟩:=af r;obtain⟨a,g,q⟩:=af t;obtain⟨S,i,v⟩:=af q;obtain⟨u,l,y⟩:=av v;clear h m r t q v;cases y;obtain⟨f,n,rfl⟩:=fO w;obtain⟨b,rfl⟩:=jc i;cases cn g;obtain⟨j,k,rfl⟩:=JZ l;exact⟨f,b,n,j,k,z,rfl⟩
def OI(u:Cn)(n:Nat)(b:List Stmt)(r:List ExceptHandler)(l x:List Stmt):Option EX:=if (l.isEmpty && x.isEmpty)=true then
  (ir r).bind λh=>(PX h).bind λc=>(ir c.2).bind λt=>(Tf t).bind λd=>(G_.lookup d.1).bind λf=>(ir b).bind λs=>(Me s).bind λe=>(Jb u n e).bind λm=>(je u.N d.2).bind λi=>
   if (bE u.ks c.1 [.globalImplicit] && cO c.1 && (u.E.any λw=>decide (w.1=c.1)) && bE u.ks d.1 [.globalImplicit] && cO d.1 && bE u.ks d.2 [.local,.cell,.free] && cO d.2)=true then
    some (xh m (λk=>u.R.contains k && (u.E.lookup k).any λa=>a.contains c.1) i d.1 f)
   else none
 else none
noncomputable def Tt(s:Stmt):Option Expr:=if h:s.ctorIdx=24 then Stmt.Expr.elim s h λe _=>some e else none
theorem Nd{s:Stmt}{e:Expr}(h:Tt s=some e):∃p,s=.Expr e p:=by have c:=DT h;revert h;exact Stmt.Expr.elim s c λ_ p h=>by cases h;exact⟨p,rfl⟩
def OK(u:Cn)(n:Nat)(t iter:Expr)(o l:List Stmt):Option EX:=if l.isEmpty=false then none else (Ff u.N u.ks [.local,.cell] t).bind λg=>(Fi u (λy=>tr u n y) t iter).bind λi=>(ir o).bind λs=>(Tt s).bind λe=>(KN u n s).map λb=>Lx i g b ((LX u n e).getD yx)
def S6(u:Cn)(n:Nat)(st:Stmt):EX:=match st with
 | .Raise e c _=>(OJ u e c).getD yx
 | .Return e _=>(e.bind λe=>Jb u n e).getD yx
 | .Expr e _=>(LX u n e).getD yx
 | .Try b h l f _=>(OI u n b h l f).getD yx
 | .For t iter o l _=>(OK u n t iter o l).getD yx
 |_=>yx
theorem nq{X:Cx}{E:XK}{st:Stmt}{o:Option EX}(h:∀f,o=some f->PS X st (tX X E f)):PS X st (tX X E (o.getD yx)):=by
 cases o with
 |none=>exact OA
 |some f=>exact h f rfl
set_option tactic.hygienic true in
theorem B1{X:Cx}{E:XK}{T:Stmt->Option ES}{a:Stmt->EX}(e:∀st f,T st=some f->PS X st (jJ X.K f))(x:∀st,PS X st (tX X E (a st))):∀h:List Stmt,jq X h (tX X E (Ja T a h))
 | []=>Ro
 | [s]=>KD (x s)
 |s::t::r=>by
  unfold Ja;split
  .rename_i k n;exact Ln (e s k n) (x s) (B1 e x (t::r))
  .exact (m7 (x s) (oh (X:=X))).imp' λ_ _ _ z=>z
set_option tactic.hygienic true in
theorem vS{u:Cn}{X:Cx}(h:XOk u X){n:Nat}{e:Expr}{f:EX}(q:Jb u n e=some f):PE X e (Jd X f)/\(∀env,starEach [e] env=[(false,eval e env)])/\∀t l env,swapsWith e t l env=pure false:=by
 obtain⟨⟨r,m⟩,b,x⟩:=af q;obtain⟨g,s,a⟩:=af x;obtain⟨v,k,p⟩:=af a;clear q x a;obtain⟨_,_,rfl⟩:=fO b;split at p
 .rename_i c;cases p;simp only[az,p0]at c;exact⟨ym h s c.1.1 c.1.2 c.2 k,λ_=>rfl,λ_ _ _=>rfl⟩
 .cases p
set_option tactic.hygienic true in
theorem B2(h:XOk u X)(l:Leaves X E):PS X (.Expr e p) (tX X E ((LX u n e).getD yx)):=nq λf q=>by
 obtain⟨⟨⟨o,m,y⟩,H,S⟩,b,s⟩:=af q;obtain⟨a,k,x⟩:=af s;clear q s;cases NC b;cases cn k;split at x
 .rename_i w;obtain⟨rfl,v,d⟩:=r9 w;obtain⟨t,i,g⟩:=af x;obtain⟨F,j,rfl⟩:=av g;obtain⟨c,r,_⟩:=vS h j;exact(LH (E3 ((lK n u X h _).e t i) c (r _) (cS v) d) rfl).imp' λ_ _ _ z=>OO l z
 .cases x
set_option tactic.hygienic true in
theorem LQ{u:Cn}{X:Cx}{E:XK}(h:XOk u X)(t:∀x,X.fn x=true)(T:PassesOwn (model X.p X.w) X.A X.e X.xe)(hs:OnStack X)(w:Leaves X E)(hr:X.A.depth+5 < recursionLimit)(n:Nat)(st:Stmt):PS X st (tX X E (S6 u n st)):=by
 cases st with
 |Raise e c p=>
  refine nq λf q=>?_;unfold OJ at q;split at q
  .cases q
  rename_i hn;cases c with
  |some _=>exact absurd rfl hn
  |none=>
   obtain⟨e,rfl,y⟩:=af q;obtain⟨⟨c,as⟩,K,k⟩:=af y;clear q y;obtain⟨_,_,rfl⟩:=fO K;split at k
   .rename_i r;cases k;simp only[az]at r;obtain⟨⟨⟨⟨h0,R⟩,hz⟩,h2⟩,h3⟩:=r;cases fF.mp h0;obtain⟨C,S,_⟩:=h.exs.own _ (h.exs.rE _ R);obtain⟨m,q⟩:=h.exs.rs _ C R hz S;exact IM w h.calm (h.gl h2) S m q (bF h3).1
   .cases k
 |Return e p=>refine nq λf q=>?_;obtain⟨e,rfl,q⟩:=af q;exact(KG (vS h q).1).imp' λ_ _ _ z=>OO w z
 |Expr e p=>exact B2 h w
 |Try b hd l fin p=>
  refine nq λf q=>?_;unfold OI at q;split at q
  .rename_i A;rw[az]at A;cases fF.mp A.1;cases fF.mp A.2;obtain⟨hh,K,y⟩:=af q;obtain⟨⟨c,sb⟩,b2,k⟩:=af y;obtain⟨s2,b3,W⟩:=af k;obtain⟨⟨d,x⟩,b4,Z⟩:=af W;obtain⟨Q,I,p4⟩:=af Z;obtain⟨s,b6,p5⟩:=af p4;obtain⟨e,b7,p6⟩:=af p5;obtain⟨fx,b8,p7⟩:=af p6;obtain⟨i,b9,F⟩:=af p7;clear q y k W Z p4 p5 p6 p7;obtain⟨np,V,rfl⟩:=J5 b2;obtain⟨np2,xp,cp,j,kp,rp,rfl⟩:=Mc b4;cases cn K;cases cn b3;cases cn b6;obtain⟨p,rfl⟩:=B_ b7;dsimp only at F;split at F
   .rename_i r;cases F;simp only[az]at r;obtain⟨⟨⟨⟨⟨⟨c1,c2⟩,M⟩,c4⟩,c5⟩,c6⟩,N⟩:=r;obtain⟨C2,ns2,m⟩:=h.exs.own c M;obtain⟨D,g,G⟩:=h.exs.own d (h.exs.zE d Q I);refine LG w hr (h.gl c1) m (bF c2).1 (h.gl c4) g G (bF c5).1 (h.exs.ri d Q D I g).2 (λE pn=>m5 (KG (vS (h.more E pn) b8).1)) (λe=>rT (h.get b9) (h.vis c6) (bF N).1 (bF N).2) rfl λo C v S=>?_
    obtain⟨hR,H⟩:=p9.mp (show(u.R.contains o && (u.E.lookup o).any λa=>a.contains c)=true from v);cases P:u.E.lookup o with
    |none=>rw[P]at H;cases H
    |some a=>rw[P]at H;exact((h.exs.cl o a C hR P S).2.2.2 c C2 M m).2 H
   .cases F
  .cases q
 |For tg iter L l p=>
  refine nq λf q=>?_;unfold OK at q;split at q
  .cases q
  rename_i B;obtain⟨gg,q0,q⟩:=af q;obtain⟨it,q1,q⟩:=af q;obtain⟨s,q2,q⟩:=af q;obtain⟨e,q4,q⟩:=af q;obtain⟨b,q3,rfl⟩:=av q;cases cn q2;obtain⟨p,rfl⟩:=Nd q4;cases l with
  |cons _ _=>exact absurd rfl B
  |nil=>exact OB T h.calm (GI h (lK n u X h) q1) (tg_ok h.calm h.hN h.nd (λx hx=>⟨h.loc hx,.inl (t x)⟩) q0) (EW (vQ h t T hs n _ _ q3)) (KD (B2 h w)) λx=>sg q1 _ x
 |_=>exact OA
structure Df where
 name:Str
 short:Str
 cls:Str
 st:Stmt
 N:LS
 ps:LS
 own:LS
 deep:LS
 refs:LS
noncomputable abbrev At:=List (Str×LS)
noncomputable def aT(T:At)(c f:Str):Bool:=T.any λx=>decide (x.1=c) && x.2.contains f
noncomputable def fT(D:List Df)(h:Str->GF)(x:Str):Option GF:=if (D.any λd=>decide (d.name=x) && d.cls.cps.isEmpty)=true then some (h x) else none
noncomputable def QS(c m:Str)(d:Df):Bool:=decide (d.cls=c) && decide (d.short=m) && !d.cls.cps.isEmpty
def mT(D:List Df)(h:Str->GF)(c m:Str):Option GF:=if m=("__init__":Str) then none else (D.find? (QS c m)).map λd=>h d.name
def Sn(D:List Df)(h:Str->GF)(c:Str):Option GF:=(D.find? (QS c "__init__")).map λd=>h d.name
noncomputable abbrev Ex:=List (Str×LS)
noncomputable abbrev P3:=(Str->GF)×(Str->Option GF)×(Str->GX)
noncomputable def Rj(D:List Df)(h:Str->GX)(x:Str):Option GX:=if (D.any λd=>decide (d.name=x) && d.cls.cps.isEmpty)=true then some (h x) else none
def NT(G:Str->Option P)(T:At)(E:Ex)(R:LS)(D:List Df)(p:P3)(d:Df):Cn:=⟨d.N,d.own,d.deep,d.refs,(aK d.st).names,fT D p.1,G,aT T,mT D p.1,p.2.1,E,R,Rj D p.2.2⟩
def wY(G:Str->Option P)(T:At)(E:Ex)(R:LS)(D:List Df)(p:P3)(d:Df):ES:=(yW (KN (NT G T E R D p d) 60) (cE d.st)).getD vX
def yr(G:Str->Option P)(T:At)(E:Ex)(R:LS)(D:List Df)(p:P3)(d:Df):EX:=Ja (KN (NT G T E R D p d) 60) (S6 (NT G T E R D p d) 60) (cE d.st)
noncomputable def j_(R:LS)(g:GX):GX:=λd S=>(g d S).bind λz=>if R.contains z.1.1=true then some z else none
noncomputable def rL(n:Nat)(x:Str):Bool:=decide (x=("ends_on":Str)) && Nat.ble 14 n
def lg(G:Str->Option P)(T:At)(E:Ex)(R:LS)(D:List Df):Nat->P3
 |0=>(λ_ _ _=>none,λ_=>none,λ_ _ _=>none)
 | n+1=>(fun x=>cond (rL n x) ((lg G T E R D n).1 x) (match D.find? fun d=>decide (d.name=x) with
  |some d=>eN d.ps.length d.N.length (wY G T E R D (lg G T E R D n) d)
  |none=>λ_ _=>none),Sn D (lg G T E R D n).1,λx=>match D.find? λd=>decide (d.name=x) with
  |some d=>j_ R (fnX d.ps.length d.N.length (yr G T E R D (lg G T E R D n) d))
  |none=>λ_ _=>none)
noncomputable def Lh(G:Str->Option P)(T:At)(E:Ex)(R:LS)(D:List Df)(n:Nat):Str->GF:=(lg G T E R D n).1
noncomputable def Qw(G:Str->Option P)(T:At)(E:Ex)(R:LS)(D:List Df)(n:Nat):Str->GX:=(lg G T E R D n).2.2
theorem Dq{G:Str->Option P}{T:At}{E:Ex}{R:LS}{D:List Df}{n:Nat}{x:Str}(h:rL n x=true):Lh G T E R D (n+1) x=Lh G T E R D n x:=by show cond (rL n x) _ _=_;rw[h];rfl
set_option tactic.hygienic true in
theorem xU{R:LS}{g:GX}{d:List D}{S:aB}{z:XV×aB}(h:j_ R g d S=some z):g d S=some z/\R.contains z.1.1=true:=by
 obtain⟨y,e,q⟩:=Ax.mp h;split at q
 .rename_i c;cases q;exact⟨e,c⟩
 .cases q
def QI(d:Df):Bool:=decide ((aK d.st).kind=.function) && !(aK d.st).isCoroutine && !(aK d.st).isGenerator && decide d.N.Nodup && decide (d.N.take d.ps.length=d.ps)
 && d.ps.all (λx=>(aK d.st).names.lookup x == some .local ||(aK d.st).names.lookup x == some .cell) && (aK d.st).names.all (λy=>y.2 != .free)
theorem Fw{d:Df}(h:QI d=true):FnScope d.N d.ps (aK d.st):=by
 unfold QI at h;simp only[az]at h;obtain⟨⟨⟨⟨⟨⟨a,e⟩,s⟩,n⟩,k⟩,f⟩,b⟩:=h;refine⟨be a,by simpa using e,by simpa using s,be n,be k,λx c=>?_,λy m=>?_⟩
 .have:=bw.mp f x c;simpa using this
 .have:=bw.mp b y m;simpa using this
structure DOk(K:FG)(mg:SV)(d:Df)(f:Addr)(fd:FuncData):Prop where
 fn:Fun K d.short d.name d.st f fd
 bd:Binds K fd d.ps []
 gl:d.cls.cps.isEmpty=true->mg d.name=some (.ref f)
 cl:d.cls.cps.isEmpty=false->∃C,kA K d.cls C/\mg d.cls=some (.ref C)/\Cls K C/\(d.short=("__init__":Str)->Mk K C f)/\(d.short≠("__init__":Str)->Meth K C d.short f)
structure TOk(w:World)(G:Str->Option P)(T:At)(E:Ex)(R:LS)(D:List Df)(K:FG)(mg:SV):Prop where
 ex:ExsOk K mg E R
 fn:∀d ∈ D,∃f fd,DOk K mg d f fd
 sc:D.all QI=true
 un:(D.map (·.name)).Nodup
 z:∀x ∈ Ks,mg x=none
 gl:∀x v,G x=some v->nL w K mg x v
 at':Rc K (aT T)
theorem mn:∀{D:List Df}{d:Df},(D.map (·.name)).Nodup->d ∈ D->(D.find? λe=>decide (e.name=d.name))=some d
 | [],_,_,h=>by cases h
 |a::r,d,x,h=>by
  rw[aE,cz]at x;rcases aP.mp h with h|h
  .subst h;simp
  .have n:¬a.name=d.name:=λz=>x.1 (by rw[z];exact bj.mpr ⟨d,h,rfl⟩);rw[List.find?_cons_of_neg (by simpa using n)];exact mn x.2 h
set_option tactic.hygienic true in
theorem HE{D:List Df}{x:Str}{a:Str->GF}{g:GF}(h:fT D a x=some g):∃d ∈ D,d.name=x/\d.cls.cps.isEmpty=true/\g=a x:=by
 unfold fT at h;split at h
 .rename_i c;cases h;obtain⟨d,hd,e⟩:=mN.mp c;rw[az]at e;exact⟨d,hd,be e.1,e.2,rfl⟩
 .cases h
theorem GN(h:QS c m d=true):d.cls=c/\d.short=m/\d.cls.cps.isEmpty=false:=by unfold QS at h;simp only[az]at h;exact⟨be h.1.1,be h.1.2,by simpa using h.2⟩
set_option tactic.hygienic true in
theorem HF{D:List Df}{x:Str->GF}{c m:Str}{g:GF}(h:mT D x c m=some g):m≠("__init__":Str)/\∃d ∈ D,d.cls=c/\d.short=m/\d.cls.cps.isEmpty=false/\g=x d.name:=by
 unfold mT at h;split at h
 .cases h
 .rename_i n;obtain⟨d,q,rfl⟩:=av h;obtain⟨a,e,s⟩:=GN (u9 q);exact⟨n,d,qx q,a,e,s,rfl⟩
theorem HG{D:List Df}{x:Str->GF}{c:Str}{g:GF}(h:Sn D x c=some g):∃d ∈ D,d.cls=c/\d.short=("__init__":Str)/\d.cls.cps.isEmpty=false/\g=x d.name:=by unfold Sn at h;obtain⟨d,q,rfl⟩:=av h;obtain⟨a,e,s⟩:=GN (u9 q);exact⟨d,qx q,a,e,s,rfl⟩
set_option tactic.hygienic true in
theorem Qt{D:List Df}{x:Str}{a:Str->GX}{g:GX}(h:Rj D a x=some g):∃d ∈ D,d.name=x/\d.cls.cps.isEmpty=true/\g=a x:=by
 unfold Rj at h;split at h
 .rename_i c;cases h;obtain⟨d,hd,e⟩:=mN.mp c;rw[az]at e;exact⟨d,hd,be e.1,e.2,rfl⟩
 .cases h
theorem D2{K:FG}{m:SV}{E:Ex}{R:LS}(h:ExsOk K m E R)(g:GX):Hq K (j_ R g):=λd S c x q=>by obtain⟨C,n,_⟩:=h.own c.1 (h.rE c.1 (xU q).2);exact⟨C,n⟩
theorem cond_ok{B:Type}{c:Bool}{a b:B}{p:B->Prop}(h:p b)(x:p a):p (cond c a b):=by cases c<;>assumption
theorem CJ {G:Str->Option P}{T:At}{E:Ex}{R:LS}{D:List Df}{Pg:Program}{w:World}{K:FG}{mg:SV}{base:Heap} (Tk:TOk w G T E R D K mg):∀n,(∀d ∈ D,
  ∀f fd,Fun K d.short d.name d.st f fd->FnOk Pg w K mg base pL n f fd d.ps (qL K (Lh G T E R D n d.name))/\FnOk Pg w K mg base (zR Pg w) n f fd d.ps (NP K (Qw G T E R D n d.name))) /\
  (∀x,Hq K (Qw G T E R D n x)) /\
  ∀c g,(lg G T E R D n).2.1 c=some g->∃m,n=m+1/\∃C f fd ps,kA K c C/\mg c=some (.ref C)/\Mk K C f/\FnOk Pg w K mg base pL m f fd ps (qL K g)/\Binds K fd ps []
 |0=>by
  have no:∀x vs H Q E0,¬NP K (Qw G T E R D 0 x) vs H Q E0:=λx vs H Q E0 h=>by obtain⟨F,m,ds,S,c,S',_,_,q,_⟩:=h;cases (show(none:Option (XV×aB))=some (c,S') from q)
  refine⟨λd hd f fd hF=>⟨G5,λvs H Q E0 h=>absurd h (no _ vs H Q E0),λA outer s H args us vs Q E0 _ _ _ _ h=>absurd h (no _ vs H Q E0)⟩,λx=>λds S c S' q=>?_,λc g h=>?_⟩
  .cases (show(none:Option (XV×aB))=some (c,S') from q)
  .cases (show(none:Option GF)=some g from h)
 |n+1=>by
  have ih:=CJ (Pg:=Pg) (w:=w) (base:=base) Tk n;refine⟨λd hd f fd hF=>?_,λx=>?_,λc g h=>?_⟩
  .have e:Lh G T E R D (n+1) d.name=cond (rL n d.name) (Lh G T E R D n d.name) (eN d.ps.length d.N.length (wY G T E R D (lg G T E R D n) d)):=by
    show cond _ _ (match D.find? λd'=>decide (d'.name=d.name) with|some d=>eN d.ps.length d.N.length (wY G T E R D (lg G T E R D n) d)|none=>λ_ _=>none)=_;rw[mn Tk.un hd];rfl
   have ex:Qw G T E R D (n+1) d.name=j_ R (fnX d.ps.length d.N.length (yr G T E R D (lg G T E R D n) d)):=by show(match D.find? λd'=>decide (d'.name=d.name) with|some d=>j_ R (fnX d.ps.length d.N.length (yr G T E R D (lg G T E R D n) d))|none=>λ_ _=>none)=_;rw[mn Tk.un hd]
   rw[e,ex];have hsc:=Fw (bw.mp Tk.sc d hd);have XO:∀(cdv:Value)(A:Around)(outer:List Env)(s:Shared)(H:Hp)(E':XK),Room n (A.deeper (envOfC d.name (aK d.st) s.heap.objs.size f cdv)) ->
     XOk (NT G T E R D (lg G T E R D n) d) (pH (zR Pg w) Pg w K mg base d.N d.name (aK d.st) f cdv A outer s H E'):=fun cdv A outer s H E' hr=>{
    hN:=rfl
    nd:=hsc.nd
    ks:=rfl
    kd:=hsc.kind
    calm:=rfl
    hu:=by have:=hr.un;show(A.deeper (envOfC d.name (aK d.st) s.heap.objs.size f cdv)).units+64 < _;lia
    fns:=λx g hg=>by obtain⟨d',hd',hn,hc,rfl⟩:=HE hg;obtain⟨f',fd',h1⟩:=Tk.fn d' hd';subst hn;exact⟨n,f',fd',d'.ps,(ih.1 d' hd' f' fd' h1.fn).1,hr,h1.gl hc,h1.fn.kp,h1.bd⟩
    blt:=Tk.z
    glb:=Tk.gl
    attrs:=Tk.at'
    meths:=λc m g hg=>by obtain⟨hm,d',hd',rfl,rfl,hc,rfl⟩:=HF hg;obtain⟨f',fd',h1⟩:=Tk.fn d' hd';obtain⟨C,c1,c2,c3,c4,c5⟩:=h1.cl hc;exact⟨C,n,f',fd',d'.ps,c1,c3,c5 hm,(ih.1 d' hd' f' fd' h1.fn).1,hr,h1.bd⟩
    mks:=λc g hg=>by obtain⟨m,rfl,C,f',fd',ps,c1,c2,c3,c4,c5⟩:=ih.2.2 c g hg;exact⟨C,m,f',fd',ps,c1,c2,c3,c4,hr,c5⟩
    exs:=Tk.ex
    ys:=λx gx hg=>by obtain⟨d',hd',hn,hc,rfl⟩:=Qt hg;obtain⟨f',fd',h1⟩:=Tk.fn d' hd';subst hn;exact⟨ih.2.1 d'.name,n,f',fd',d'.ps,(ih.1 d' hd' f' fd' h1.fn).2,hr,h1.gl hc,h1.fn.kp,h1.bd⟩ }
   refine⟨cond_ok (p:=λg=>FnOk Pg w K mg base pL (n+1) f fd d.ps (qL K g)) (Na (N:=d.N) hF hsc λcdv A outer s H E' hr=>?_) ((ih.1 d hd f fd hF).1.mono (lp n)),FnOk.imp (M' (N:=d.N) (b:=yr G T E R D (lg G T E R D n) d) hF hsc (λr=>r.toSt) λcdv A outer s H E' hr=>?_) λvs H Q E' h=>?_⟩
   .have X:XOk (NT G T E R D (lg G T E R D n) d) (pH pL Pg w K mg base d.N d.name (aK d.st) f cdv A outer s H E').nox:=(XO cdv A outer s H E' hr).more (λ_ _=>False) [];unfold wY;cases q:yW (KN (NT G T E R D (lg G T E R D n) d) 60) (cE d.st) with
    |none=>exact oh.imp' λD σ H hz=>by obtain⟨F,m,L,S,fl,L',S',r,l,q,k⟩:=hz;cases q
    |some b=>exact mY (λst f q=>vQ X (λ_=>rfl) PassesOwn.never ⟨rfl,rfl,rfl⟩ 60 st f q) q
   .have X:=XO cdv A outer s H E' hr;exact B1 (λst f q=>vQ X (λ_=>rfl) PassesOwn.leaving ⟨rfl,rfl,rfl⟩ 60 st f q) (λst=>LQ X (λ_=>rfl) PassesOwn.leaving ⟨rfl,rfl,rfl⟩ ⟨rfl,rfl,rfl,rfl⟩ (by have:=hr.dp;show(A.deeper (envOfC d.name (aK d.st) s.heap.objs.size f cdv)).depth+5 < _;lia) 60 st) (cE d.st)
   .obtain⟨F,m,ds,S,c,S',rl,r,q,k⟩:=h;exact⟨F,m,ds,S,c,S',rl,r,(xU q).1,k⟩
  .show Hq K (match D.find? λd'=>decide (d'.name=x) with|some d=>j_ R (fnX d.ps.length d.N.length (yr G T E R D (lg G T E R D n) d))|none=>λ_ _=>none);split
   .exact D2 Tk.ex _
   .exact λds S c S' q=>nomatch q
  .obtain⟨d,hd,rfl,hs,hc,rfl⟩:=HG (x:=(lg G T E R D n).1) h;obtain⟨f,fd,h1⟩:=Tk.fn d hd;obtain⟨C,c1,c2,c3,c4,c5⟩:=h1.cl hc;exact⟨n,rfl,C,f,fd,d.ps,c1,c2,c4 hs,(ih.1 d hd f fd h1.fn).1,h1.bd⟩
theorem xS:∀s:List Int,dt K F H (s.map .int) (s.map V.int)
 | []=>rfl
 |n::r=>⟨_,_,rfl,rfl,xS r⟩
theorem MW{K:FG}{H:Hp}{a:Addr}{n:List Int}{g:GF}{E:XK}(e:D8 H)(S:iO K H a (n.map V.int))(h:dJ g [.ro (n.map .int)]=some (.bl true)):qL K g [.ref a] H (λv _=>v=.bl true) E:=by
 refine rM ⟨λb=>b=a/\H a≠none,[.ro (n.map .int)],.bl true,λb x=>(by rw[x.1];exact x.2),⟨_,_,rfl,⟨a,_,rfl,?_,xS n⟩,rfl⟩,h,λv F k _ r=>r⟩;rcases S with S|S
 .rcases e a with z|⟨o,f,z⟩
  .rcases S with S|⟨o,S⟩<;>rw[z]at S<;>cases S
  .rcases S with S|⟨s,S⟩
   .rw [z]at S;cases S
   .exact .inl ⟨⟨rfl,by rw[z];exact λq=>nomatch q⟩,s,S⟩
 .exact .inr (.inr S)
open PySem L2
section
variable(L:Lc)(S:aB)
@[simp] theorem QZ(i:Nat):aN i L S=match L[i]? with|some (some d)=>some (d,S)|_=>none:=rfl
@[simp] theorem IQ(r:EE):fh r L S=bL (r L S) λd h=>match cV d h with|some n=>some (.int (n:Int),h)|none=>none:=by
 unfold fh;cases r L S with
 |none=>rfl
 |some z=>obtain⟨d,h⟩:=z;rw[aw,aw];cases cV d h<;>rfl
@[simp] theorem QU(i:Nat)(v:P):ak i v L=some (L.set i (some (.p v))):=rfl
end
@[simp] theorem sC(x:List B):(few x=true)=(x.length≤1000000):=by unfold few;simp
@[simp] theorem lC(n:Nat):(hV n=true)=(n≤1000000):=by unfold hV;simp
theorem bB{B:Type}{s:List B}{i:Int}{x:B}(a:0≤i)(h:s[i.toNat]? = some x):L2.atI s i=some x:=by have l:=(bz.mp h).1;unfold L2.atI L2.Cy;rw[am a,am (by lia)];exact h
@[simp] theorem Qq(x:B)(s:List B):L2.atI (x::s) 0=some x:=bB (by lia) rfl
@[simp] theorem Kv(x y:B)(s:List B):L2.atI (x::y::s) 1=some y:=bB (by lia) rfl
@[simp] theorem Q8(x y z:B)(s:List B):L2.atI (x::y::z::s) 2=some z:=bB (by lia) rfl
@[simp] theorem N4(x y z w:B)(s:List B):L2.atI (x::y::z::w::s) 3=some w:=bB (by lia) rfl
@[simp] theorem Q2(x:List P)(i:Int):tR (.tup x) (.int i)=L2.atI x i:=rfl
@[simp] theorem Q3(x:List P)(i:Int):tR (.lst x) (.int i)=L2.atI x i:=rfl
@[simp] theorem Sy(x:List P)(i:Int):tR (.ro x) (.int i)=L2.atI x i:=rfl
@[simp] theorem Q4(k:List cj)(v:List P)(x:Str):tR (.dct k v) (.str x)=cF (.inr x) k v:=rfl
@[simp] theorem Ql(i j:Int):zF (.int i) (.int j)=some (.bl (decide (i=j))):=rfl
@[simp] theorem Qk(i j:Str):zF (.str i) (.str j)=some (.bl (decide (i=j))):=rfl
@[simp] theorem Q5(i j:Bool):zF (.bl i) (.bl j)=some (.bl (decide (i=j))):=rfl
@[simp] theorem Q1(i j:Int):dNe (.int i) (.int j)=some (.bl (!decide (i=j))):=rfl
@[simp] theorem Q0(i j:Str):dNe (.str i) (.str j)=some (.bl (!decide (i=j))):=rfl
@[simp] theorem Sw(i j:Bool):dNe (.bl i) (.bl j)=some (.bl (!decide (i=j))):=rfl
@[simp] theorem Qm(i j:Int):wT (.int i) (.int j)=some (.int (i+j)):=rfl
@[simp] theorem Qi(i j:Int):wS (.int i) (.int j)=if fY i j=true then some (.int (i * j)) else none:=rfl
@[simp] theorem NV(x:List P)(n:Int):pf (.tup x) (.int n)=if (hV (x.length * n.toNat) && decide (n.natAbs < 1000000))=true then some (.tup (List.replicate n.toNat x).flatten) else none:=rfl
@[simp] theorem NW(x:Str)(n:Int):pf (.str x) (.int n)=wS (.str x) (.int n):=rfl
@[simp] theorem Qh(i:Int):nz (.int i)=some (.int (-i)):=rfl
theorem aO(a n:Nat)(b:ES)(ps:List P):dJ (eN a n b) ps=if ps.length=a then match b (ps.map (λp=>some (.p p))++List.replicate (n-ps.length) none) [] with
 |some (.rt d,_,S)=>(toP 9 d S).map (·.1)
 |some (.nx,_,_)=>some .non
 |_=>none else none:=by
 unfold dJ eN;rw[bn,mL];by_cases h:ps.length=a
 .rw [am h,am h];show (match jw (b (ps.map (fun p=>some (D.p p))++List.replicate (n-ps.length) none) []) with
   |some (d,S)=>(toP 9 d S).map (λ(x:P×aB)=>x.1)
   |none=>none)=_
  cases b (ps.map (λp=>some (D.p p))++List.replicate (n-ps.length) none) [] with
  |none=>rfl
  |some z=>obtain⟨f,L,S⟩:=z;cases f<;>simp[jw]
 .rw [au h,au h]
theorem cg{g:jK}{b:ES}{v:P}{r:List P}{L h L2:Lc}{S x:aB}(a:g v L=some h)(e:b h S=some (.nx,L2,x)):bu g b (v::r) L S=bu g b r L2 x:=by simp[bu,a,e]
theorem sB{g:jK}{b:ES}{v:P}{r:List P}{L h L2:Lc}{S x:aB}{d:D}(a:g v L=some h)(e:b h S=some (.rt d,L2,x)):bu g b (v::r) L S=some (.rt d,L2,x):=by simp[bu,a,e]
section
variable(L:Lc)(S:aB)
@[simp] theorem JW(a:EV):iM a L S=bL (a L S) λx h=>match x with | .int n=>if (decide (n.natAbs < 1000000))=true then some (intsFrom 0 n.toNat,h) else none|_=>none:=by
 unfold iM;cases a L S with
 |none=>rfl
 |some z=>obtain⟨x,h⟩:=z;cases x<;>first|rfl|simp
@[simp] theorem P7(g:List jK)(v:List P):aW g (.tup v) L=ss g v L:=rfl
@[simp] theorem P5:ss [] [] L=some L:=rfl
@[simp] theorem NS(g:jK)(s:List jK)(v:P)(h:List P):ss (g::s) (v::h) L=match g v L with|some k=>ss s h k|none=>none:=rfl
@[simp] theorem Sl(T:String)(i:Int):PM T (.p (.int i))=some (T == "int"):=rfl
@[simp] theorem RG(v:P):I0 (.p v) S=yV v:=rfl
@[simp] theorem QD(b:Bool):yV (.bl b)=some b:=rfl
@[simp] theorem OH(i:Int):yV (.int i)=some (i != 0):=rfl
@[simp] theorem Tp(x y:P):HL (.p x) (.p y) S=(CH x y).map .bl:=rfl
@[simp] theorem P8(x y:P):G4 (.p x) (.p y) S=(Gm x y).map .bl:=rfl
end
@[simp] theorem QX(i j:Int):CH (.int i) (.int j)=some (decide (i=j)):=rfl
@[simp] theorem QW(i j:Str):CH (.str i) (.str j)=some (decide (i=j)):=rfl
@[simp] theorem Su(i j:Bool):CH (.bl i) (.bl j)=some (decide (i=j)):=rfl
@[simp] theorem QQ(i j:Int):Gm (.int i) (.int j)=some (!decide (i=j)):=rfl
@[simp] theorem QP(i j:Str):Gm (.str i) (.str j)=some (!decide (i=j)):=rfl
@[simp] theorem Se(i j:Bool):Gm (.bl i) (.bl j)=some (!decide (i=j)):=rfl
@[simp] theorem N1(i j:Int):kX (.int i) (.int j)=some (.int (i+j)):=rfl
@[simp] theorem NZ(x y:Str):kX (.str x) (.str y)=wT (.str x) (.str y):=rfl
@[simp] theorem N0(x y:List P):kX (.lst x) (.lst y)=if hV (x.length+y.length)=true then some (.lst (x++y)) else none:=rfl
@[simp] theorem NY(i j:Int):pf (.int i) (.int j)=if fY i j=true then some (.int (i * j)) else none:=rfl
@[simp] theorem NX(x:List P)(n:Int):pf (.lst x) (.int n)=if (hV (x.length * n.toNat) && decide (n.natAbs < 1000000))=true then some (.lst (List.replicate n.toNat x).flatten) else none:=rfl
theorem Hc(h:dh 20 v=true):CH v v=some true:=by
 unfold CH;have e:cb (pd v) (pd v)=true:=pO _ (gy 20 v h).1;cases q:zF v v with
 |none=>simp[h,e]
 |some z=>
  cases v with
  |int i=>cases q;simp
  |str i=>cases q;simp
  |bl i=>cases q;simp
  |non=>cases q
  |tup _=>cases q
  |lst _=>cases q
  |ro _=>cases q
  |dct _ _=>cases h
theorem xG(h:dh 20 v=true):Gm v v=some false:=by
 unfold Gm;have e:cb (pd v) (pd v)=true:=pO _ (gy 20 v h).1;cases q:dNe v v with
 |none=>simp[h,e]
 |some z=>
  cases v with
  |int i=>cases q;simp
  |str i=>cases q;simp
  |bl i=>cases q;simp
  |non=>cases q
  |tup _=>cases q
  |lst _=>cases q
  |ro _=>cases q
  |dct _ _=>cases h
theorem qT(h:dh 20 (.lst s)=true):CH (.lst s) (.lst [])=some s.isEmpty:=by unfold CH;have e:dh 20 (.lst [])=true:=rfl;show(if (dh 20 (.lst s) && dh 20 (.lst []))=true then some (cb (pd (.lst s)) (pd (.lst []))) else none)=_;rw[h,e];cases s<;>rfl
theorem lz(h:dh 20 (.lst s)=true):Gm (.lst s) (.lst [])=some (!s.isEmpty):=by unfold Gm;have e:dh 20 (.lst [])=true:=rfl;show(if (dh 20 (.lst s) && dh 20 (.lst []))=true then some (!PyData.eqv (pd (.lst s)) (pd (.lst []))) else none)=_;rw[h,e];cases s<;>rfl
section
variable{L:Lc}{S:aB}
@[simp high] theorem Uv(d:D):aN 0 (some d::L) S=some (d,S):=rfl
@[simp high] theorem Uu(a:Option D)(i:Nat):aN (i+1) (a::L) S=aN i L S:=rfl
@[simp ↓ high] theorem Us(x y:s):(if few ([]:List B)=true then x else y)=x:=rfl
@[simp ↓ high] theorem Ur(a:B)(x y:s):(if few ([a]:List B)=true then x else y)=x:=rfl
@[simp ↓ high] theorem Uq(a h:B)(x y:s):(if few ([a,h]:List B)=true then x else y)=x:=rfl
@[simp ↓ high] theorem Up(a h e:B)(x y:s):(if few ([a,h,e]:List B)=true then x else y)=x:=rfl
@[simp ↓ high] theorem Uo(a h e s:B)(x y:k):(if few ([a,h,e,s]:List B)=true then x else y)=x:=rfl
@[simp ↓ high] theorem Um(a h e s n:B)(x y:k):(if few ([a,h,e,s,n]:List B)=true then x else y)=x:=rfl
@[simp ↓ high] theorem Ul(a h e s n k:B)(x y:f):(if few ([a,h,e,s,n,k]:List B)=true then x else y)=x:=rfl
@[simp ↓ high] theorem Uk(a h e s n k f:B)(x y:b):(if few ([a,h,e,s,n,k,f]:List B)=true then x else y)=x:=rfl
@[simp high] theorem UD(v:P)(S:aB):toP 9 (.p v) S=some (v,S):=rfl
@[simp ↓ high] theorem TB(x:Option (B×aB))(f:B->aB->Option k):bL x f=match x with|some (s,S)=>f s S|none=>none:=rfl
@[simp ↓ high] theorem Uf(x y:s):(if true=true then x else y)=x:=rfl
@[simp ↓ high] theorem Ug(x y:s):(if false=true then x else y)=y:=rfl
end
end Ev
namespace My
open PySem L2 Ev
noncomputable abbrev U(x:P):Option D:=some (.p x)
noncomputable abbrev J(x:Int):Option D:=some (.p (.int x))
noncomputable abbrev qs(x:Str):Option D:=some (.p (.str x))
noncomputable abbrev ql(x:List P):Option D:=some (.p (.lst x))
noncomputable abbrev qt(x:List P):Option D:=some (.p (.tup x))
noncomputable abbrev qr(x:Nat):Option D:=some (.ref x)
@[simp] abbrev vv(k:Nat):EV:=vE (aN k)
@[simp] abbrev vi(i:Int):EV:=vC (.int i)
@[simp] abbrev vt(x:Str):EV:=vC (.str x)
@[simp] abbrev v1(a:EV):iQ:=bc a bf
@[simp] abbrev v2(a b:EV):iQ:=bc a (bc b bf)
@[simp] abbrev v3(a b c:EV):iQ:=bc a (bc b (bc c bf))
@[simp] abbrev v4(a b c d:EV):iQ:=bc a (bc b (bc c (bc d bf)))
@[simp] abbrev v5(a b c d e:EV):iQ:=bc a (bc b (bc c (bc d (bc e bf))))
@[simp] abbrev v6(a b c d e f:EV):iQ:=bc a (bc b (bc c (bc d (bc e (bc f bf)))))
@[simp] abbrev v7(a b c d e f g:EV):iQ:=bc a (bc b (bc c (bc d (bc e (bc f (bc g bf))))))
@[simp] abbrev v8(a b c d e f g h:EV):iQ:=bc a (bc b (bc c (bc d (bc e (bc f (bc g (bc h bf)))))))
@[simp] abbrev E4(a:EE):nP:=bY a jD
@[simp] abbrev sY(a b:EE):nP:=bY a (bY b jD)
@[simp] abbrev BQ(a b c:EE):nP:=bY a (bY b (bY c jD))
@[simp] abbrev Lq(a b c d:EE):nP:=bY a (bY b (bY c (bY d jD)))
@[simp] abbrev Lp(a b c d e:EE):nP:=bY a (bY b (bY c (bY d (bY e jD))))
@[simp] abbrev SY(a b c d e f:EE):nP:=bY a (bY b (bY c (bY d (bY e (bY f jD)))))
@[simp] abbrev UB(k:Nat)(f:EV):ES:=ar k (O f)
@[simp] abbrev UC(f:EV):ES:=aS (O f)
@[simp] abbrev aV(a b:EE):EB:=bV (fy HL a b)
@[simp] abbrev fq(a b:EE):EB:=bV (fy G4 a b)
@[simp] abbrev oW:EV->EV->EV:=nY Sx
@[simp] abbrev ac:EV->EV->EV:=nY tR
@[simp] abbrev aG:EV->EV->EV:=nY zC
@[simp] abbrev E2:EV->EV->EV:=nY SD
@[simp] abbrev EZ:EV->EV->EV:=nY No
@[simp] abbrev vN:EV->EV->EV:=nY Nn
@[simp] abbrev aD:EV->EV->EV:=nY Np
@[simp] abbrev dg:EV->EV->EV:=nY pf
@[simp] abbrev ai:EV->EV->EV:=nY kX
@[simp] abbrev BO:EV->EV->EV:=nY Sz
@[simp] abbrev Oj:EV->EV->EV:=nY Qj
@[simp] abbrev cU(g:GF):iQ->EV:=cP (dJ g)
@[simp] abbrev ce:EV:=vE (aN 1)
@[simp] abbrev cI:EV:=vE (aN 0)
@[simp] abbrev eK:EV:=vE (aN 3)
@[simp] abbrev jr:EV:=vE (aN 4)
@[simp] abbrev kC:EV:=vE (aN 6)
@[simp] abbrev oV:EV:=vE (aN 8)
@[simp] abbrev nO:EV:=vE (aN 5)
@[simp] abbrev lF:EV:=vE (aN 7)
@[simp] abbrev kB:EV:=vE (aN 9)
@[simp] abbrev cY:EV:=vE (aN 2)
@[simp] abbrev j0:EV:=vE (aN 11)
@[simp] abbrev mW:EV:=vE (aN 10)
@[simp] abbrev nW:EV:=vE (aN 12)
@[simp] abbrev fX:EV:=vC (.int 0)
@[simp] abbrev cJ:EV:=vC (.int 1)
@[simp] abbrev eL:EV:=vC (.int 2)
@[simp] abbrev qJ:EV:=vC (.int 4)
@[simp] abbrev hZ:EV:=vC (.int 3)
@[simp] abbrev sX:EV:=vC (.int 5)
@[simp] abbrev d5:EE:=aN 0
@[simp] abbrev il:EE:=aN 3
@[simp] abbrev hU:EE:=aN 1
@[simp] abbrev gD:EE:=aN 2
@[simp] abbrev vO:EE:=aN 7
@[simp] abbrev lr:EE:=aN 4
@[simp] abbrev pp:EE:=aN 10
noncomputable def lG(i:Nat):Stmt:=PySem.Challenge.pw_roadsall_k30_runs_walked.main.body.getD i (.Pass ⟨0,0,0,0⟩)
noncomputable def Gv(x:Str):Option P:=if x=("HIGHEST_LETTER":Str) then some (.int 999) else if x=("NOBODY":Str) then some (.int (-1)) else none
noncomputable def QJ:LS:=["flaw_ends","Board.family_of","Board.hands_beside","takeable","targets_of","posted","sendings","step_ends","hand_ends","ends_on","Board.__init__","do_on","end_at"]
def jd(x:Str)(t k:Nat)(N o d:LS):Df:=⟨x,x,"",lG t,N,N.take k,o,d,QJ⟩
def pF:Df:=jd "_law_cell_at" 39 2 ["_law_script","_law_k"] [] []
def ya:Df:=jd "_law_mix" 40 2 ["_law_cell","_law_k","_law_turn","_law_number"] [] []
def tK:Df:=jd "_law_roads" 46 3 ["_law_script","_law_families","_law_room","_law_roads_here","_law_k","_law_one","_law_j","_law_other","_law_drawn","_law_kind"] ["_law_roads_here"] []
def wM:Df:=jd "_law_name" 42 2 ["_law_script","_law_k","_law_drawn"] [] []
def tL:Df:=jd "_law_cells" 43 3 ["_law_script","_law_family_here","_law_most","_law_cells_here","_law_k","_law_drawn","_law_low","_law_high"] ["_law_cells_here"] []
def x':Df:=jd "_law_sum" 44 2 ["_law_drawn","_law_names","_law_name_here"] [] []
def tJ:Df:=jd "_law_sends" 47 6 ["_law_drawn","_law_family_here","_law_names","_law_whos","_law_roads_here","_law_most","_law_goals","_law_sends_here","_law_k","_law_some","_law_tree","_law_mark"] ["_law_sends_here"] []
def ny:Df:=jd "_law_condition" 45 2 ["_law_drawn","_law_names","_law_word","_law_plain"] [] []
def wK:Df:=jd "_law_step" 48 6 ["_law_drawn","_law_family_here","_law_rooms","_law_cells_here","_law_whos","_law_roads_here","_law_names","_law_senders","_law_take","_law_free","_law_more","_law_into","_law_who","_law_changes","_law_k","_law_name_here","_law_sends_here","_law_when"] ["_law_changes"] []
def sM:Df:=jd "_law_family" 49 6 ["_law_script","_law_k","_law_name_here","_law_crew","_law_wide","_law_roads_here","_law_cells_here","_law_drawn","_law_rooms","_law_whos","_law_steps","_law_j","_law_first"] ["_law_steps"] []
def wL:Df:=jd "_law_plan" 50 2 ["_law_script","_law_most","_law_total","_law_wide","_law_many","_law_names","_law_roads_here","_law_families","_law_k","_law_name_here","_law_crew","_law_wishes","_law_drawn","_law_family_here"] ["_law_families","_law_wishes"] []
def pG:Df:=jd "families_of" 14 1 ["plan","homes","place","family"] ["homes"] []
def wI:Df:=jd "pairs_of" 15 1 ["plan","names","pairs","road","one","name","others"] ["pairs"] []
def DX:Df:=jd "begin" 16 1 ["plan","hands","place","cells","whos"] ["hands"] []
def wQ:Df:=jd "has_flaw" 31 3 ["road","word","letters"] [] []
def oK:Df:=jd "unlike_spots" 23 2 ["kind","letters","spots"] [] []
def wH:Df:=jd "replaced" 34 3 ["row","place","thing"] [] []
def x_:Df:=jd "without" 33 2 ["row","place"] [] []
def zz:Df:=jd "flawed" 32 3 ["word","letters","spot"] [] []
def tN:Df:=jd "flaw_ends" 30 3 ["board","standing","word","ends","place","pair","road","one","other","letters","spot","roads"] ["board","ends"] []
def lH:Df:=⟨"Board.family_of","family_of","Board",(L2.bJ (lG 13) 1),["self","hand"],["self","hand"],["self"],[],QJ⟩
def tF:Df:=jd "values_of" 21 2 ["family","cells"] [] []
def wR:Df:=jd "compared" 9 3 ["word","one","other"] [] []
def wE:Df:=jd "value_of" 7 2 ["tree","values","kind","one","other"] [] []
def DV:Df:=jd "holds" 8 2 ["condition","values","kind"] [] []
def kc:Df:=⟨"Board.hands_beside","hands_beside","Board",(L2.bJ (lG 13) 2),["self","hand","name"],["self","hand","name"],["self"],[],QJ⟩
def wF:Df:=jd "takeable" 22 4 ["board","roads","hand","take","found","sender","place","kind","letters","spots"] ["board","found"] []
def oM:Df:=jd "cells_behind" 25 4 ["family","cells","step","values","given","name","amount","numbers","place","cell","number"] ["given","numbers"] []
def pD:Df:=jd "whos_behind" 26 4 ["family","whos","take","letter"] [] []
def sL:Df:=jd "targets_of" 28 5 ["board","hand","way","name","whos","others"] ["board"] []
def zy:Df:=jd "posted" 29 5 ["board","roads","hand","targets","letter","target","place","road","letters"] ["board"] []
def wG:Df:=jd "sendings" 27 6 ["board","hand","sends","values","roads","whos","ways","mark","amount","way","name","letter","further","chosen","sent","added","targets","roads_behind"] ["board","further"] []
def tG:Df:=jd "step_ends" 24 5 ["board","standing","hand","step","letter","family","room","cells","whos","roads","values","place","hands","ends","chosen","roads_behind"] ["board","ends","values"] ["values","values_of"]
def tM:Df:=jd "hand_ends" 20 3 ["board","standing","hand","family","room","cells","whos","values","ends","step","letter"] ["board","ends"] []
def yc:Df:=jd "ends_on" 19 2 ["board","standing","ends","hand"] ["board","ends"] []
def sN:Df:=⟨"Board.__init__","__init__","Board",(L2.bJ (lG 13) 0),["self","plan","place","pair","hand"],["self","plan"],["self"],["families_of","pairs_of","places","self"],QJ⟩
def tP:Df:=jd "ends_from" 18 2 ["plan","standing"] [] []
def wN:Df:=jd "_law_gone" 51 4 ["_law_script","_law_plan_here","_law_first","_law_many","_law_standings","_law_row","_law_k","_law_some","_law_deed","_law_end"] ["_law_row","_law_standings"] []
def yb:Df:=jd "_law_due" 53 2 ["_law_plan_here","_law_row","_law_standings","_law_place","_law_deed","_law_ends"] ["_law_standings"] []
def DW:Df:=jd "do_on" 17 3 ["board","standing","deed","known","end"] ["board"] []
def zA:Df:=jd "end_at" 37 4 ["board","standing","deed","place"] ["board"] []
def zx:Df:=jd "walked" 36 2 ["plan","row","board","standings","place","deed"] ["standings"] []
def tH:Df:=jd "_law_whole" 41 1 ["_law_found"] [] []
def wJ:Df:=jd "_law_told" 52 2 ["_law_plan_here","_law_row","_law_found","_law_kept","e"] ["_law_found","return"] ["walked"]
def wO:Df:=jd "_law_bent" 54 2 ["_law_drawn","_law_row","_law_at","_law_other","_law_way"] [] []
def wP:Df:=jd "law" 55 1 ["_law_script","_law_plan_here","_law_standings","_law_row","_law_rows","_law_k","_law_some","_law_handed","_law_due_here","_law_found"] ["_law_found","_law_rows","_law_told"] ["_law_found","_law_told"]
noncomputable def Att:At:=[("Board",["families","homes","members","pairs","places"])]
noncomputable def pK:Ex:=[("RoadError",["RoadError","ValueError"]),("NoPlan",["NoPlan","RoadError","ValueError"]),("NoDeed",["NoDeed","RoadError","ValueError"]),("NotPossible",["NotPossible","RoadError","ValueError"]),("TooMany",["TooMany","RoadError","ValueError"])]
noncomputable def Rs:LS:=["NoDeed","NotPossible"]
def Tb:List Df:=[pF,ya,tK,wM,tL,x',tJ,ny,wK,sM,wL,pG,wI,DX,wQ,oK,wH,x_,zz,tN,lH,tF,wR,wE,DV,kc,wF,oM,pD,sL,zy,wG,tG,tM,yc,sN,tP,wN,yb,DW,zA,zx,tH,wJ,wO,wP]
noncomputable def Y(n:Nat):Str->GF:=Lh Gv Att pK Rs Tb n
noncomputable def Xh(n:Nat):Str->GX:=Qw Gv Att pK Rs Tb n
def gS (h:Str->GF):ES:=(ag (dQ (bV (oW ce (fh d5))) (aS (O (ac cI ce))) eM)
  (aS (O fX)))
theorem kx(n:Nat):Y (n+2) "_law_cell_at"=eN 2 2 (gS (Y (n+1))):=by kernel_rfl
def iG(h:Str->GF):ES:=(ar 0 (O (aG cI (vi 2147483648))))
def k6 (h:Str->GF):ES:=(ag (dQ (bV (E2 cI (EZ (vi 10) (vi 12)))) (ag (ar 0 (O (vN (aG cI (EZ (vi 10) (vi 12))) cJ)))
  (ag (bW (iM (aD ce (vi 61))) (ak 2) (iG h))
  (aS (O (aD cI (vi 2147483648)))))) eM)
  (ag (ar 3 (O (aD (dg (ai (ai (aD cI (vi 1000003)) (dg (dg ce ce) (vi 7919))) ce) (vi 48271)) (vi 2147483629))))
  (ag (ar 3 (O (aD (dg eK eK) (vi 2147483587))))
  (aS (O (aG (aD (dg eK (ai eK eL)) (vi 2147483579)) (vi 7)))))))
theorem pa(n:Nat):Y (n+2) "_law_mix"=eN 2 4 (k6 (Y (n+1))):=by kernel_rfl
def dH (h:Str->GF):ES:=(ag (ar 8 (O (cU (h "_law_mix") (v2 (cU (h "_law_cell_at") (v2 cI qJ)) (ai (ai (vi 30) (dg qJ jr)) kC)))))
  (dQ (jI (bV (BO (aD oV qJ) fX)) (bV (oW (fh il) (vi 8)))) (ag (ar 9 (O (ac (bq (v2 (vt "row") (vt "heap"))) (aD (aG oV qJ) eL))))
  (cf (bA il (O (aR (v6 nO lF kB (ai cJ (aD (aG oV (vi 8)) cY)) (fy HL (O (aD (aG oV (vi 24)) hZ)) (O cJ)) (fy HL (O (aD (aG oV (vi 72)) hZ)) (O cJ)))))))) eM))
def f6(h:Str->GF):ES:=(bW (ug ce) (aW [ak 6,ak 7]) (dH h))
def lT (h:Str->GF):ES:=(ag (ar 3 (cZ bf))
  (ag (bW (ug ce) (aW [ak 4,ak 5]) (f6 h))
  (aS il)))
theorem tu(n:Nat):Y (n+2) "_law_roads"=eN 3 10 (lT (Y (n+1))):=by kernel_rfl
def nI (h:Str->GF):ES:=(ag (ar 2 (O (cU (h "_law_mix") (v2 (cU (h "_law_cell_at") (v2 cI cJ)) ce))))
  (aS (O (ai (dg (ac (vt "abcdefghijklmnop") ce) (ai cJ (aD cY qJ))) (ac (vt "xyz") (aD (aG cY qJ) hZ))))))
theorem ww(n:Nat):Y (n+2) "_law_name"=eN 2 3 (nI (Y (n+1))):=by kernel_rfl
def f8 (h:Str->GF):ES:=(ag (ar 5 (O (cU (h "_law_mix") (v2 (cU (h "_law_cell_at") (v2 cI (ai eL ce))) (ai eL jr)))))
  (ag (ar 6 (O (ac (bq (v4 fX fX (Db nz cJ) sX)) (aD nO qJ))))
  (ag (ar 7 (O (ai kC (ac (bq (v4 cJ eL fX cJ)) (aD (aG nO qJ) qJ)))))
  (cf (bA il (O (aR (v4 (cU (h "_law_name") (v2 cI (ai eL jr))) kC lF (ai kC (aD (aG nO (vi 16)) (ai (vN lF kC) cJ)))))))))))
def lU (h:Str->GF):ES:=(ag (ar 3 (cZ bf))
  (ag (bW (iM (aD (cU (h "_law_mix") (v2 (cU (h "_law_cell_at") (v2 cI (ai eL ce))) cJ)) (ai cY cJ))) (ak 4) (f8 h))
  (aS il)))
theorem tw(n:Nat):Y (n+2) "_law_cells"=eN 3 8 (lU (Y (n+1))):=by kernel_rfl
def eC (h:Str->GF):ES:=(ag (dQ (CV (aV hU (O (bq bf))) (aV (O (aD cI sX)) (O fX))) (aS (O (aR (v2 (vt "number") (aD (aG cI sX) hZ))))) eM)
  (ag (ar 2 (O (aR (v2 (vt "name") (ac ce (aD (aG cI sX) (fh hU)))))))
  (ag (dQ (aV (O (aD cI sX)) (O cJ)) (aS gD) eM)
  (ag (dQ (aV (O (aD cI sX)) (O eL)) (aS (O (aR (v3 (vt "plus") cY (aR (v2 (vt "number") (aD (aG cI (vi 20)) hZ))))))) eM)
  (ag (dQ (aV (O (aD cI sX)) (O hZ)) (aS (O (aR (v3 (vt "minus") (aR (v3 (vt "times") cY (aR (v2 (vt "number") (aD (aG cI (vi 20)) hZ))))) (aR (v2 (vt "number") (aD (aG cI (vi 60)) eL))))))) eM)
  (aS (O (aR (v3 (vt "minus") (aR (v2 (vt "number") cJ)) cY)))))))))
theorem fw(n:Nat):Y (n+2) "_law_sum"=eN 2 3 (eC (Y (n+1))):=by kernel_rfl
def ci (h:Str->GF):ES:=(ag (ar 9 (O (aG cI (ac (bq (v3 qJ (vi 1000) (vi 100000))) oV))))
  (ag (ar 10 (O (cU (h "_law_sum") (v2 (aD (aG kB (vi 12)) (vi 300)) cY))))
  (ag (ar 11 (O (ac (bq (v2 (vt "ma") (vt "mb"))) (aD kB eL))))
  (dQ (jI (fq il (O (bq bf))) (aV (O (aD (aG kB eL) hZ)) (O cJ))) (cf (bA vO (O (aR (v4 j0 mW (vt "who") (ac eK (aD (aG kB (vi 50)) (fh il)))))))) (dQ (fq (aN 6) (O (bq bf))) (cf (bA vO (O (aR (v4 j0 mW (ac (bq (v2 (vt "all") (vt "any"))) (dg (aD (aG kB (vi 6)) eL) (cP cv (v1 (oW oV eL))))) (ac kC (aD (aG kB hZ) (fh (aN 6))))))))) eM)))))
def lS (h:Str->GF):ES:=(ag (ar 6 (O (bO (jf jr) [] 1 (ak 12) (aV (O (ac nW fX)) hU) (ac nW cJ))))
  (ag (ar 7 (cZ bf))
  (ag (bW (iM (aD cI (ai nO cJ))) (ak 8) (ci h))
  (aS vO))))
theorem tt(n:Nat):Y (n+2) "_law_sends"=eN 6 12 (lS (Y (n+1))):=by kernel_rfl
def cG (h:Str->GF):ES:=(ag (dQ (CV (aV hU (O (bq bf))) (bV (oW (aD cI sX) eL))) (aS (O (aR (v1 (vt "true"))))) eM)
  (ag (ar 2 (O (ac (bq (v6 (vt "=") (vt "!=") (vt "<") (vt "<=") (vt ">") (vt ">="))) (aD (aG cI sX) (vi 6)))))
  (ag (ar 3 (O (aR (v4 (vt "is") cY (aR (v2 (vt "name") (ac ce (aD (aG cI (vi 30)) (fh hU))))) (cU (h "_law_sum") (v2 (aG cI (vi 90)) ce))))))
  (ag (dQ (aV (O (aD cI sX)) (O eL)) (aS (O (aR (v2 (vt "not") eK)))) eM)
  (ag (dQ (aV (O (aD cI sX)) (O hZ)) (aS (O (aR (v3 (vt "or") eK (aR (v3 (vt "and") (aR (v1 (vt "true"))) (aR (v4 (vt "is") (vt "=") (aR (v2 (vt "number") cJ)) (aR (v2 (vt "name") (ac ce fX))))))))))) eM)
  (aS il))))))
theorem dq(n:Nat):Y (n+2) "_law_condition"=eN 2 4 (cG (Y (n+1))):=by kernel_rfl
def aX (h:Str->GF):ES:=(dQ (jI (fq vO (O (bq bf))) (aV (O (aD (ac cI fX) hZ)) (O cJ))) (ag (ar 11 (O (vt "")))
  (ag (dQ (jI (fq (aN 6) (O (bq bf))) (aV (O (aD (aG (ac cI fX) hZ) eL)) (O cJ))) (ag (ar 11 (O (ac kC (Db nz cJ))))
  (ar 9 (O (eF kC di (cC (Db nz cJ)))))) eM)
  (ag (ar 12 (O (vt "")))
  (ag (dQ (jI (fq lr (O (bq bf))) (aV (O (aD (aG (ac cI fX) (vi 6)) eL)) (O cJ))) (ar 12 (O (ac jr (aD (aG (ac cI fX) (vi 200)) (fh lr))))) eM)
  (ag (ar 8 (O (aR (v4 (ac (bq (v2 (vt "ma") (vt "mb"))) (aD (aG (ac cI fX) (vi 12)) eL)) (ac lF (aD (aG (ac cI fX) (vi 24)) (fh vO))) j0 nW))))
  (ar 10 (O (bq (v1 (vt "it")))))))))) eM)
def fg(h:Str->GF):ES:=(dQ (aV (O (aD (aG (ac cI cJ) (ac (bq (v3 cJ (vi 1000) (vi 1000000))) (vv 14))) eL)) (O cJ)) (cf (bA (aN 13) (O (aR (v2 (vv 15) (cU (h "_law_sum") (v2 (aD (aG (ac cI cJ) (ac (bq (v3 eL (vi 2000) (vi 2000000))) (vv 14))) (vi 300)) (ai kC mW)))))))) eM)
def nH (h:Str->GF):ES:=(ag (ar 6 (O (bO (jf eK) [] 1 (ak 18) iN (ac (vv 18) fX))))
  (ag (ar 7 (O (bO (jf nO) [] 1 (ak 18) (aV (O (ac (vv 18) cJ)) hU) (ac (vv 18) fX))))
  (ag (ar 8 (O (vC (.non))))
  (ag (ar 9 (O (cP kY (v1 kC))))
  (ag (ar 10 (O (bq bf)))
  (ag (aX h)
  (ag (ar 13 (cZ bf))
  (ag (bW (ug kB) (aW [ak 14,ak 15]) (fg h))
  (ag (ar 16 (O (cU (h "_law_sends") (v6 (ac cI eL) ce (ai kC mW) jr nO (ai eL (cP cv (v1 (BO (fh gD) hZ))))))))
  (ag (ar 17 (O (cU (h "_law_condition") (v2 (aD (ac cI hZ) (vi 27000)) kC))))
  (aS (O (aR (v6 (ac cY (aD (aG (ac cI hZ) (vi 27000)) (fh gD))) (vv 17) oV (vv 13) (vv 16) (ac cY (aD (aG (ac cI hZ) (vi 216000)) (fh gD)))))))))))))))))
theorem wu(n:Nat):Y (n+2) "_law_step"=eN 6 18 (nH (Y (n+1))):=by kernel_rfl
def fR (h:Str->GF):ES:=(ag (ar 12 (O (dg qJ (ai (dg (vi 8) ce) j0))))
  (ag (ar 7 (O (bO (iM qJ) [] 1 (ak 13) iN (cU (h "_law_mix") (v2 (cU (h "_law_cell_at") (v2 cI (ai sX (aD (ai nW (vv 13)) (vi 24))))) (ai (ai (vi 11) nW) (vv 13)))))))
  (cf (bA pp (O (ai (aR (v1 (cU (h "_law_name") (v2 cI (ai (vi 8) j0))))) (cU (h "_law_step") (v6 lF cY oV kC kB nO))))))))
def k8 (h:Str->GF):ES:=(ag (ar 6 (O (cU (h "_law_cells") (v3 cI ce (ai eL (cP cv (v1 jr)))))))
  (ag (ar 7 (O (cU (h "_law_mix") (v2 (cU (h "_law_cell_at") (v2 cI (ai eL ce))) (vi 9)))))
  (ag (ar 8 (O (bO (iM (ai cJ (aD lF (ac (bq (v2 hZ (vi 8))) (cP cv (v1 jr)))))) [11] 0 (ak 11) iN (cU (h "_law_name") (v2 cI (ai qJ j0))))))
  (ag (ar 7 (O (cU (h "_law_mix") (v2 (cU (h "_law_cell_at") (v2 cI (ai eL ce))) (vi 8)))))
  (ag (ar 9 (O (bO (iM (aD lF (ai eL (cP cv (v1 jr))))) [11] 0 (ak 11) iN (cU (h "_law_name") (v2 cI (ai (vi 10) j0))))))
  (ag (ar 10 (cZ bf))
  (ag (bW (iM (ai cJ (aD (cU (h "_law_mix") (v2 (cU (h "_law_cell_at") (v2 cI (ai eL ce))) (vi 7))) (ac (bq (v2 hZ (vi 8))) (cP cv (v1 jr)))))) (ak 11) (fR h))
  (aS (O (aR (v6 cY eK oV kC kB mW)))))))))))
theorem sF(n:Nat):Y (n+2) "_law_family"=eN 6 13 (k8 (Y (n+1))):=by kernel_rfl
def gR (h:Str->GF):ES:=(ag (ar 10 (O (ai cJ (aD (aG cY (ac (bq (v4 qJ (vi 12) (vi 16) (vi 16))) oV)) (ac (bq (v4 (ai ce (cP cv (v1 eK))) eL cJ cJ)) (vN jr cJ))))))
  (cf (bA vO (O (cU (h "_law_family") (v6 cI oV kB mW eK kC))))))
def gQ (h:Str->GF):ES:=(ag (ar 12 (O (cU (h "_law_mix") (v2 (cU (h "_law_cell_at") (v2 cI qJ)) (ai (vi 20) oV)))))
  (ag (ar 13 (lP vO (aD nW jr)))
  (cf (bA (aN 11) (O (aR (v3 (ac (bq (v2 (vt "weak") (vt "strong"))) (aD (aG nW qJ) eL)) (ac (vv 13) fX) (ac (ac (ac (vv 13) sX) (aD (aG nW (vi 8)) (fh (O (ac (vv 13) sX))))) fX))))))))
def kg (h:Str->GF):ES:=(ag (ar 2 (O (cU (h "_law_cell_at") (v2 cI fX))))
  (ag (ar 3 (O (fy HL (O (aD (aG cY (vi 64)) (vi 8))) (O cJ))))
  (ag (ar 4 (O (ai cJ (aD cY (ac (bq (v2 eL qJ)) (cP cv (v1 eK)))))))
  (ag (ar 5 (O (bO (iM jr) [8] 0 (ak 8) iN (cU (h "_law_name") (v2 cI oV)))))
  (ag (ar 6 (O (cU (h "_law_roads") (v3 cI nO (ai eL (cP cv (v1 eK)))))))
  (ag (ar 7 (cZ bf))
  (ag (bW (ug nO) (aW [ak 8,ak 9]) (gR h))
  (ag (ar 11 (cZ bf))
  (ag (bW (iM (ai (aD (aG cY (vi 48)) hZ) (dg qJ (cP cv (v1 (vB (jI (bV eK) (aV (O (aD cY hZ)) (O cJ))))))))) (ak 8) (gQ h))
  (aS (O (aR (v3 lF kC j0)))))))))))))
theorem wv(n:Nat):Y (n+2) "_law_plan"=eN 2 14 (kg (Y (n+1))):=by kernel_rfl
def fj(h:Str->GF):ES:=(cf (fN hU (dg (bq (v1 cY)) (ac eK cJ))))
def kz (h:Str->GF):ES:=(ag (ar 1 (cZ bf))
  (ag (bW (ug (ac cI fX)) (aW [ak 2,ak 3]) (fj h))
  (aS hU)))
theorem pC(n:Nat):Y (n+2) "families_of"=eN 1 4 (kz (Y (n+1))):=by kernel_rfl
def ff (h:Str->GF):ES:=(dQ (aV (aN 5) (O (ac eK fX))) (ag (ar 6 (O (bO (iM (fh hU)) [] 1 (ak 7) (jI (fq vO lr) (aV (O (ac ce lF)) (O (ac eK cJ)))) lF)))
  (cf (fN gD (bO (jf kC) [] 1 (ak 7) iN (aR (v3 eK jr lF)))))) eM)
def ky(h:Str->GF):ES:=(bW (ug ce) (aW [ak 4,ak 5]) (ff h))
def nG (h:Str->GF):ES:=(ag (ar 1 (O (bO (jf (cU (h "families_of") (v1 cI))) [] 1 (ak 7) iN (ac (ac (ac cI fX) lF) fX))))
  (ag (ar 2 (cZ bf))
  (ag (bW (jf (ac cI cJ)) (ak 3) (ky h))
  (aS gD))))
theorem wr(n:Nat):Y (n+2) "pairs_of"=eN 1 7 (nG (Y (n+1))):=by kernel_rfl
def km (h:Str->GF):ES:=(ag (ar 3 (O (ac (ac (ac cI fX) cY) hZ)))
  (ag (ar 4 (O (ac (ac (ac cI fX) cY) qJ)))
  (cf (bA hU (O (aR (v3 fX (cP eX (v1 (bO (jf eK) [] 1 (ak 5) iN (ac nO hZ)))) (dg (aR (v1 (vi (-1)))) (fh lr)))))))))
def uE (h:Str->GF):ES:=(ag (ar 1 (cZ bf))
  (ag (bW (jf (cU (h "families_of") (v1 cI))) (ak 2) (km h))
  (aS (O (aR (v2 (cP eX (v1 ce)) (dg (aR (v1 (aR bf))) (fh (O (cU (h "pairs_of") (v1 cI)))))))))))
theorem DS(n:Nat):Y (n+2) "begin"=eN 1 5 (uE (Y (n+1))):=by kernel_rfl
def kl (h:Str->GF):ES:=(ag (dQ (aV hU (O (vt "lose"))) (aS (O (ac cI qJ))) eM)
  (aS (O (vB (jI (bV (ac cI sX)) (bV (oW (fh gD) (ac cI hZ))))))))
theorem nv(n:Nat):Y (n+2) "has_flaw"=eN 3 3 (kl (Y (n+1))):=by kernel_rfl
def fZ (h:Str->GF):ES:=(ag (ar 2 (O (OE (fh hU))))
  (ag (dQ (aV d5 (O (vt "row"))) (aS gD) eM)
  (aS (O (bO (jf cY) [] 1 (ak 3) (aV (O (yS ce (ac ce eK))) il) eK)))))
theorem jA(n:Nat):Y (n+2) "unlike_spots"=eN 2 3 (fZ (Y (n+1))):=by kernel_rfl
def nE(h:Str->GF):ES:=(aS (O (ai (ai (eF cI di (cC ce)) (aR (v1 cY))) (eF cI (cC (ai ce cJ)) di))))
theorem wq(n:Nat):Y (n+2) "replaced"=eN 3 3 (nE (Y (n+1))):=by kernel_rfl
def pk(h:Str->GF):ES:=(aS (O (ai (eF cI di (cC ce)) (eF cI (cC (ai ce cJ)) di))))
theorem x4(n:Nat):Y (n+2) "without"=eN 2 2 (pk (Y (n+1))):=by kernel_rfl
def mx (h:Str->GF):ES:=(ag (dQ (aV d5 (O (vt "lose"))) (aS (O (cU (h "without") (v2 ce cY)))) eM)
  (aS (O (ai (eF ce di (cC (ai cY cJ))) (eF ce (cC cY) di)))))
theorem sG(n:Nat):Y (n+2) "flawed"=eN 3 3 (mx (Y (n+1))):=by kernel_rfl
def f_ (h:Str->GF):ES:=(ag (ar 11 (O (cU (h "replaced") (v3 (ac ce cJ) jr (cU (h "flawed") (v3 cY kB mW))))))
  (cf (bA il (O (aR (v2 (aR (v4 cY lF oV mW)) (aR (v2 (ac ce fX) j0))))))))
def eI (h:Str->GF):ES:=(ag (vW (aW [ak 6,ak 7,ak 8]) nO)
  (ag (ar 9 (O (ac (ac ce cJ) jr)))
  (dQ (bT (O (cU (h "has_flaw") (v3 kC cY kB)))) (bW (jf (cU (h "unlike_spots") (v2 (ac kC eL) kB))) (ak 10) (f_ h)) eM)))
def jo (h:Str->GF):ES:=(ag (ar 3 (cZ bf))
  (ag (bW (ug (vE (eB (aT Att) d5 "pairs"))) (aW [ak 4,ak 5]) (eI h))
  (aS il)))
theorem tB(n:Nat):Y (n+2) "flaw_ends"=eN 3 12 (jo (Y (n+1))):=by kernel_rfl
def lI(h:Str->GF):ES:=(aS (lP (eB (aT Att) d5 "families") (vE (lP (eB (aT Att) d5 "homes") ce))))
theorem gU(n:Nat):Y (n+2) "Board.family_of"=eN 2 2 (lI (Y (n+1))):=by kernel_rfl
def lR(h:Str->GF):ES:=(aS (zu (bO (jf (ac cI hZ)) [] 1 (ak 2) iN (ac cY fX)) ce))
theorem tp(n:Nat):Y (n+2) "values_of"=eN 2 2 (lR (Y (n+1))):=by kernel_rfl
def dP (h:Str->GF):ES:=(ag (dQ (aV d5 (O (vt "="))) (aS (O (fy HL hU gD))) eM)
  (ag (dQ (aV d5 (O (vt "!="))) (aS (O (fy G4 hU gD))) eM)
  (ag (dQ (aV d5 (O (vt "<"))) (aS (O (oW ce cY))) eM)
  (ag (dQ (aV d5 (O (vt "<="))) (aS (O (Oj ce cY))) eM)
  (ag (dQ (aV d5 (O (vt ">"))) (aS (O (BO ce cY))) eM)
  (aS (O (E2 ce cY))))))))
theorem wA(n:Nat):Y (n+2) "compared"=eN 3 3 (dP (Y (n+1))):=by kernel_rfl
def eG (h:Str->GF):ES:=(ag (ar 2 (O (ac cI fX)))
  (ag (dQ (aV gD (O (vt "number"))) (aS (O (ac cI cJ))) eM)
  (ag (dQ (aV gD (O (vt "name"))) (aS (O (ac ce (ac cI cJ)))) eM)
  (ag (ar 3 (O (cU (h "value_of") (v2 (ac cI cJ) ce))))
  (ag (ar 4 (O (cU (h "value_of") (v2 (ac cI eL) ce))))
  (ag (dQ (aV gD (O (vt "plus"))) (aS (O (ai eK jr))) eM)
  (ag (dQ (aV gD (O (vt "minus"))) (aS (O (vN eK jr))) eM)
  (aS (O (dg eK jr))))))))))
theorem fM(n:Nat):Y (n+2) "value_of"=eN 2 5 (eG (Y (n+1))):=by kernel_rfl
def ig (h:Str->GF):ES:=(ag (ar 2 (O (ac cI fX)))
  (ag (dQ (aV gD (O (vt "true"))) (aS (O (vC (.bl true)))) eM)
  (ag (dQ (aV gD (O (vt "not"))) (aS (O (vB (tU (bV (cU (h "holds") (v2 (ac cI cJ) ce))))))) eM)
  (ag (dQ (aV gD (O (vt "and"))) (aS (O (vB (jI (bV (cU (h "holds") (v2 (ac cI cJ) ce))) (bV (cU (h "holds") (v2 (ac cI eL) ce))))))) eM)
  (ag (dQ (aV gD (O (vt "or"))) (aS (O (vB (CV (bV (cU (h "holds") (v2 (ac cI cJ) ce))) (bV (cU (h "holds") (v2 (ac cI eL) ce))))))) eM)
  (aS (O (cU (h "compared") (v3 (ac cI cJ) (cU (h "value_of") (v2 (ac cI eL) ce)) (cU (h "value_of") (v2 (ac cI hZ) ce)))))))))))
theorem jB(n:Nat):Y (n+2) "holds"=eN 2 3 (ig (Y (n+1))):=by kernel_rfl
def fU(h:Str->GF):ES:=(aS (O (bO (jf (vE (lP (eB (aT Att) d5 "members") cY))) [] 1 (ak 3) (fq il hU) eK)))
theorem j'(n:Nat):Y (n+2) "Board.hands_beside"=eN 3 3 (fU (Y (n+1))):=by kernel_rfl
def eZ (h:Str->GF):ES:=(ag (ar 6 (x8 (eB (aT Att) d5 "places") (v2 nO cY)))
  (ag (ar 7 (lP (lP (lP (eB (aT Att) d5 "pairs") kC) fX) eL))
  (ag (ar 8 (O (ac ce kC)))
  (ag (ar 9 (O (OF (aV vO (O (vt "row"))) (eF (OE (fh (aN 8))) di (cC cJ)) (cU (h "unlike_spots") (v2 lF oV)))))
  (cf (fN lr (bO (jf kB) [] 1 (ak 10) (aV (O (ac (ac oV mW) fX)) (O (ac eK fX))) (aR (v2 nO mW)))))))))
def kf (h:Str->GF):ES:=(ag (dQ (bV (fy tj il (O (vC (.non))))) (aS (O (bq (v1 (vC (.non)))))) eM)
  (ag (ar 4 (cZ bf))
  (ag (bW (jf (vE (eA (mT Tb h) d5 "hands_beside" (sY gD (O (ac eK cJ)))))) (ak 5) (eZ h))
  (aS lr))))
theorem nu(n:Nat):Y (n+2) "takeable"=eN 4 10 (kf (Y (n+1))):=by kernel_rfl
def gW(h:Str->GF):ES:=(ju lr nO (cU (h "value_of") (v2 kC eK)))
def a8 (h:Str->GF):ES:=(ag (ar 10 (O (Fa jr (ac kB fX) (ac ce oV))))
  (ag (dQ (jI (bV (fy K6 (O (ac kB fX)) lr)) (tU (bV (nZ Qj Qj (ac kB cJ) mW (ac kB eL))))) (aS (O (vC (.non)))) eM)
  (cf (bA vO pp))))
def gb (h:Str->GF):ES:=(ag (ar 4 pb)
  (ag (bW (jf (ac cY qJ)) (aW [ak 5,ak 6]) (gW h))
  (ag (dQ (jI (bV (fy dN (O (ac cY hZ)) (O (vC (.non))))) (fq (O (ac (ac cY hZ) eL)) (O (vt "")))) (ju lr (ac (ac cY hZ) eL) (ac eK (vt "it"))) eM)
  (ag (ar 7 (cZ bf))
  (ag (bW (ug (ac cI hZ)) (aW [ak 8,ak 9]) (a8 h))
  (aS (O (cP eX (v1 lF)))))))))
theorem jC(n:Nat):Y (n+2) "cells_behind"=eN 4 11 (gb (Y (n+1))):=by kernel_rfl
def eY (h:Str->GF):ES:=(ag (dQ (CV (bV (fy tj gD (O (vC (.non))))) (aV (O (ac cY hZ)) (O (vt "")))) (aS hU) eM)
  (aS (O (cU (h "replaced") (v3 ce (yS (ac cI qJ) (ac cY hZ)) (ac eK fX))))))
theorem gN(n:Nat):Y (n+2) "whos_behind"=eN 4 4 (eY (Y (n+1))):=by kernel_rfl
def fP (h:Str->GF):ES:=(ag (dQ (aV gD (O (vt "who"))) (aS (O (bq (v1 (aR (v2 (aR bf) (bq (v1 (ac jr (yS (ac (vE (eA (mT Tb h) d5 "family_of" (E4 hU))) qJ) eK)))))))))) eM)
  (ag (ar 5 (eA (mT Tb h) d5 "hands_beside" (sY hU il)))
  (ag (dQ (aV gD (O (vt "all"))) (aS (O (bq (v1 (aR (v2 (aR bf) nO)))))) eM)
  (aS (O (bO (jf nO) [] 1 (ak 6) iN (aR (v2 (aR (v1 kC)) (bq (v1 kC))))))))))
theorem iD(n:Nat):Y (n+2) "targets_of"=eN 5 6 (fP (Y (n+1))):=by kernel_rfl
def gC (h:Str->GF):ES:=(ag (ar 6 (um (eB (aT Att) d5 "places") (v2 cY nO)))
  (ag (dQ (CV (bV (fy tj (aN 6) (O (vC (.non))))) (bV (BO (cP pj (v1 (ac jr cJ))) (vi 999)))) (aS (O (vC (.non)))) eM)
  (ag (ar 7 (lP (lP (eB (aT Att) d5 "pairs") kC) fX))
  (ag (dQ (bV (E2 (fh (O (ac ce kC))) (ac lF hZ))) (aS (O (vC (.non)))) eM)
  (ag (ar 8 (O (ai (ac ce kC) (aR (v1 jr)))))
  (ag (dQ (aV (O (ac lF eL)) (O (vt "heap"))) (ar 8 (O (cP eX (v1 (E9 (aN 8)))))) eM)
  (ar 1 (O (cU (h "replaced") (v3 ce kC oV))))))))))
def mw (h:Str->GF):ES:=(ag (bW (jf eK) (ak 5) (gC h))
  (aS hU))
theorem sE(n:Nat):Y (n+2) "posted"=eN 5 9 (mw (Y (n+1))):=by kernel_rfl
def gP (h:Str->GF):ES:=(ag (ar 17 (O (cK (h "posted") (Lp d5 (aN 14) hU (aN 16) (aN 11)))))
  (dQ (bV (fy dN (aN 17) (O (vC (.non))))) (cf (bA (aN 12) (O (aR (v2 (ai (vv 13) (vv 15)) (vv 17)))))) eM))
def e_(h:Str->GF):ES:=(bW (jf (cK (h "targets_of") (Lp d5 hU (aN 9) pp (aN 5)))) (aW [ak 15,ak 16]) (gP h))
def gO (h:Str->GF):ES:=(ag (ar 11 (O (aR (v2 lF (cU (h "value_of") (v2 oV eK))))))
  (ag (ar 12 (cZ bf))
  (ag (bW (jf kC) (aW [ak 13,ak 14]) (e_ h))
  (ar 6 (aN 12)))))
def nD (h:Str->GF):ES:=(ag (ar 6 (O (bq (v1 (aR (v2 (aR bf) jr))))))
  (ag (bW (jf cY) (aW [ak 7,ak 8,ak 9,ak 10]) (gO h))
  (aS (aN 6))))
theorem wo(n:Nat):Y (n+2) "sendings"=eN 6 18 (nD (Y (n+1))):=by kernel_rfl
def jF(h:Str->GF):ES:=(cf (bA (aN 13) (O (aR (v2 (aR (v5 (vt "step") cY (ac eK fX) jr (vv 14))) (aR (v2 nW (vv 15))))))))
def eO (h:Str->GF):ES:=(ag (ar 5 (eA (mT Tb h) d5 "family_of" (E4 gD)))
  (ag (vW (aW [ak 6,ak 7,ak 8]) (ac (ac ce fX) cY))
  (ag (ar 9 (O (ac ce cJ)))
  (ag (ar 10 (ka (h "values_of") (sY (aN 5) vO)))
  (ag (dQ (bV (fy dN lr (O (vC (.non))))) (ag (ar 11 (x8 (eB (aT Att) d5 "places") (v2 (ac jr fX) cY)))
  (ag (ju pp (vt "it") (ac (ac (ac kB j0) (ac jr cJ)) cJ))
  (ar 9 (O (cU (h "replaced") (v3 kB j0 (cU (h "without") (v2 (ac kB j0) (ac jr cJ))))))))) eM)
  (ag (ar 7 (O (cU (h "cells_behind") (v4 nO lF eK mW))))
  (ag (dQ (bV (fy tj vO (O (vC (.non))))) (aS (O (bq bf))) eM)
  (ag (ar 8 (O (cU (h "whos_behind") (v4 nO oV (ac eK hZ) jr))))
  (ag (ar 12 (O (cU (h "replaced") (v3 (ac ce fX) cY (aR (v3 (yS (ac nO eL) (ac eK (vi 6))) lF oV))))))
  (ag (ar 13 (cZ bf))
  (ag (bW (jf (cK (h "sendings") (SY d5 gD (O (ac eK sX)) pp (aN 9) (aN 8)))) (aW [ak 14,ak 15]) (jF h))
  (aS (aN 13)))))))))))))
theorem lO(n:Nat):Y (n+2) "step_ends"=eN 5 16 (eO (Y (n+1))):=by kernel_rfl
def jG(h:Str->GF):ES:=(cf (fN (aN 8) (cK (h "step_ends") (Lp d5 hU gD (aN 9) pp))))
def eH(h:Str->GF):ES:=(dQ (jI (aV (O (ac kB cJ)) (O (ac (ac eK eL) jr))) (bT (O (cU (h "holds") (v2 (ac kB eL) lF))))) (bW (jf (cK (h "takeable") (Lq d5 (O (ac ce cJ)) gD (O (ac kB hZ))))) (ak 10) (jG h)) eM)
def jn (h:Str->GF):ES:=(ag (ar 3 (eA (mT Tb h) d5 "family_of" (E4 gD)))
  (ag (vW (aW [ak 4,ak 5,ak 6]) (ac (ac ce fX) cY))
  (ag (ar 7 (O (cU (h "values_of") (v2 eK nO))))
  (ag (ar 8 (cZ bf))
  (ag (bW (jf (ac eK sX)) (ak 9) (eH h))
  (aS (aN 8)))))))
theorem tz(n:Nat):Y (n+2) "hand_ends"=eN 3 11 (jn (Y (n+1))):=by kernel_rfl
def lb(h:Str->GF):ES:=(cf (fN gD (cK (h "hand_ends") (BQ d5 hU il))))
def lc (h:Str->GF):ES:=(ag (ar 2 (cZ bf))
  (ag (bW (iM (fh (eB (aT Att) d5 "homes"))) (ak 3) (lb h))
  (ag (cf (fN gD (cK (h "flaw_ends") (BQ d5 hU (O (vt "lose"))))))
  (ag (cf (fN gD (cK (h "flaw_ends") (BQ d5 hU (O (vt "double"))))))
  (aS gD)))))
theorem x6(n:Nat)(h:n+2=14):Y (n+2) "ends_on"=eN 2 4 (lc (Y (n+1))):=by
 obtain rfl:n=12:=by lia
 kernel_rfl
def cH(h:Str->GF):ES:=(cf (bA (nw (eB (aT Att) (aN 0) "members") (nY tR (vE (eA (mT Tb h) (aN 0) "family_of" (bY (aN 4) jD))) (vi 0)) (cZ bf)) (aN 4)))
def fS(h:Str->GF):ES:=(Fx (eB (aT Att) d5 "places") (v2 (ac eK cJ) (ac eK eL)) cY)
def iJ (h:Str->GF):ES:=(ag (o4 (aT Att) d5 "families" (O (ac ce fX)))
  (ag (o4 (aT Att) d5 "homes" (ka (h "families_of") (E4 hU)))
  (ag (o4 (aT Att) d5 "pairs" (ka (h "pairs_of") (E4 hU)))
  (ag (o4 (aT Att) d5 "places" zv)
  (ag (bW (ug (vE (eB (aT Att) d5 "pairs"))) (aW [ak 2,ak 3]) (fS h))
  (ag (o4 (aT Att) d5 "members" pb)
  (bW (iM (fh (eB (aT Att) d5 "homes"))) (ak 4) (cH h))))))))
theorem sI(n:Nat):Y (n+2) "Board.__init__"=eN 2 5 (iJ (Y (n+1))):=by kernel_rfl
def lV(x h:Str->GF):ES:=(aS (O (cK (x "ends_on") (sY (sJ (h "Board.__init__") "Board" (E4 d5)) hU))))
theorem tD(n:Nat):Y (n+2) "ends_from"=eN 2 2 (lV (Y (n+1)) (Y n)):=by kernel_rfl
def de (h:Str->GF):ES:=(ag (ar 7 (O (cU (h "ends_from") (v2 ce (vE (lP lr (Db nz cJ)))))))
  (ag (dQ (aV vO (O (bq bf))) RY eM)
  (ag (vW (aW [ak 8,ak 9]) (ac lF (aD (cU (h "_law_mix") (v2 (cU (h "_law_cell_at") (v2 cI (ai cY kC))) (vi 45))) (fh vO))))
  (ag (cf (bA (aN 5) (aN 8)))
  (cf (bA lr (aN 9)))))))
def nJ (h:Str->GF):ES:=(ag (ar 4 (cZ (v1 (cU (h "begin") (v1 ce)))))
  (ag (ar 5 (cZ bf))
  (ag (bW (iM eK) (ak 6) (de h))
  (aS (O (aR (v2 jr nO)))))))
theorem wy(n:Nat):Y (n+2) "_law_gone"=eN 4 10 (nJ (Y (n+1))):=by kernel_rfl
def cw (h:Str->GF):ES:=(ag (ar 5 (O (bO (jf (cU (h "ends_from") (v2 cI (vE (lP gD (Db nz cJ)))))) [] 2 (aW [ak 6,ak 7]) (aV (aN 6) lr) lF)))
  (ag (dQ (aV (aN 5) (O (bq bf))) (aS (O (aR (v2 (vt "refused") eK)))) eM)
  (cf (bA gD (O (ac nO fX))))))
def k_ (h:Str->GF):ES:=(ag (ar 2 (cZ (v1 (cU (h "begin") (v1 cI)))))
  (ag (bW (ug ce) (aW [ak 3,ak 4]) (cw h))
  (aS (O (aR (v2 (vt "told") cY))))))
theorem x5(n:Nat):Y (n+2) "_law_due"=eN 2 6 (k_ (Y (n+1))):=by kernel_rfl
def dO(h:Str->GF):ES:=(dQ (aV il gD) (aS lr) eM)
def jH (h:Str->GF):ES:=(ag (bW (jf (cK (h "ends_on") (sY d5 hU))) (aW [ak 3,ak 4]) (dO h))
  vX)
theorem DR(n:Nat):Y (n+2) "do_on"=eN 3 5 (jH (Y (n+1))):=by kernel_rfl
def l7 (h:Str->GF):EX:=(rh (bW (jf (cK (h "ends_on") (sY d5 hU))) (aW [ak 3,ak 4]) (dO h)) yx
  (yP "NoDeed"))
theorem yO(n:Nat):Xh (n+2) "do_on"=j_ Rs (fnX 3 5 (l7 (Y (n+1)))):=by kernel_rfl
def iI(h:Str->GF):ES:=(aS (O (cK (h "do_on") (BQ d5 hU gD))))
theorem sH(n:Nat):Y (n+2) "end_at"=eN 4 4 (iI (Y (n+1))):=by kernel_rfl
def iX(x:Str->GF)(h:Str->GX):EX:=(xh (fH (h "do_on") (BQ d5 hU gD)) (λc=>Rs.contains c && (pK.lookup c).any λa=>a.contains "NoDeed") 3 "NotPossible" "place")
theorem xg(n:Nat):Xh (n+2) "end_at"=j_ Rs (fnX 4 4 (iX (Y (n+1)) (Xh (n+1)))):=by kernel_rfl
def a6(h:Str->GF):ES:=(cf (bA il (O (cK (h "end_at") (Lq gD (lP il (Db nz cJ)) (aN 5) lr)))))
def iF (h x:Str->GF):ES:=(ag (ar 2 (sJ (x "Board.__init__") "Board" (E4 d5)))
  (ag (ar 3 (cZ (v1 (cU (h "begin") (v1 cI)))))
  (ag (bW (ug ce) (aW [ak 4,ak 5]) (a6 h))
  (aS il))))
theorem sD(n:Nat):Y (n+2) "walked"=eN 2 6 (iF (Y (n+1)) (Y n)):=by kernel_rfl
def iW (h x:Str->GF) (a:Str->GX):EX:=(rh (ar 2 (sJ (x "Board.__init__") "Board" (E4 d5))) yx
  (rh (ar 3 (cZ (v1 (cU (h "begin") (v1 cI))))) yx
  (rh (bW (ug ce) (aW [ak 4,ak 5]) (a6 h)) (Lx (ug ce) (aW [ak 4,ak 5]) (a6 h) (rj il (fH (a "end_at") (Lq gD (lP il (Db nz cJ)) (aN 5) lr))))
  yx)))
theorem xf(n:Nat):Xh (n+2) "walked"=j_ Rs (fnX 2 6 (iW (Y (n+1)) (Y n) (Xh (n+1)))):=by kernel_rfl
def tT(h:Str->GF):ES:=(aS (O (vB (jI (bV (E_ "int" d5)) (tU (bV (E_ "bool" d5)))))))
theorem tq(n:Nat):Y (n+2) "_law_whole"=eN 1 1 (tT (Y (n+1))):=by kernel_rfl
def fQ (h:Str->GF) (x:Str->GX):ES:=(ag (ar 2 (O (vC (.non))))
  (ag (ar 3 (O (vC (.non))))
  (ag (y3 (ar 2 (ka (h "walked") (sY d5 hU))) (fH (x "walked") (sY d5 hU)) (fun c=>Rs.contains c && (pK.lookup c).any fun a=>a.contains "RoadError") 4 (ar 3 lr))
  (ag (dQ (bV (fy tj il (O (vC (.non))))) (aS (ul (sY (O (vt "told")) gD))) eM)
  (ag (dQ (CV (bT (O (oX (i_ pK Rs "NoDeed") il))) (CV (bT (O (oX (i_ pK Rs "NoPlan") il))) (bT (O (oX (i_ pK Rs "TooMany") il))))) (aS (ul (sY (O (vt "wrong")) (O (vC (.non)))))) eM)
  (ag (dQ (CV (tU (bT (O (oX (i_ pK Rs "NotPossible") il)))) (CV (tU (bT (O (oX (i_ pK Rs "ValueError") il)))) (tU (bT (O (cU (h "_law_whole") (v1 (vE (QY G_ il "place"))))))))) (aS (ul (sY (O (vt "wrong")) (O (vC (.non)))))) eM)
  (aS (ul (sY (O (vt "refused")) (QY G_ il "place"))))))))))
theorem wt(n:Nat):Y (n+2) "_law_told"=eN 2 5 (fQ (Y (n+1)) (Xh (n+1))):=by kernel_rfl
def kh (h:Str->GF):ES:=(ag (ar 2 (O (aD cI (fh hU))))
  (ag (ar 3 (O (ac ce (aD (aG cI (vi 16)) (fh hU)))))
  (ag (ar 4 (O (aD (aG cI (vi 256)) qJ)))
  (ag (dQ (aV lr (O fX)) (aS (O (ai (ai (eF ce di (cC cY)) (bq (v1 eK))) (eF ce (cC (ai cY cJ)) di)))) eM)
  (ag (dQ (aV lr (O cJ)) (aS (O (ai (eF ce di (cC cY)) (eF ce (cC (ai cY cJ)) di)))) eM)
  (ag (dQ (aV lr (O eL)) (aS (O (ai (ai (eF ce di (cC cY)) (eF ce (cC cY) (cC (ai cY cJ)))) (eF ce (cC cY) di)))) eM)
  (aS (O (ai (ai (eF ce di (cC cY)) (bq (v1 (ai (ai (eF (ac ce cY) di (cC cJ)) (aR (v1 (ai (ac (ac ce cY) cJ) cJ)))) (eF (ac ce cY) (cC eL) di))))) (eF ce (cC (ai cY cJ)) di))))))))))
theorem wz(n:Nat):Y (n+2) "_law_bent"=eN 2 5 (kh (Y (n+1))):=by kernel_rfl
def iH(h:Str->GF):ES:=(cf (bA lr (O (cU (h "_law_bent") (v2 (cU (h "_law_mix") (v2 (cU (h "_law_cell_at") (v2 cI (ai (vi 50) nO))) (vi 46))) eK)))))
def kj (h:Str->GF):ES:=(ag (ar 9 (wB (h "_law_told") (v2 ce lF)))
  (ag (dQ (CV (fq (aN 9) (aN 8)) (fq vO (aN 6))) (aS (O (vC (.bl false)))) eM)
  (dQ (aV (lP (aN 9) fX) (O (vt "told"))) (ag (cf (bA (lP (aN 9) cJ) (O (vC (.non)))))
  (ar 8 (O (cU (h "_law_due") (v2 ce kC))))) eM)))
def ki (h:Str->GF):ES:=(ag (ar 7 (O (cP kY (v1 kC))))
  (ag (ar 8 (O (cU (h "_law_due") (v2 ce kC))))
  (bW (iM eL) (ak 5) (kj h))))
def wZ (h:Str->GF):ES:=(ag (ar 1 (O (cU (h "_law_plan") (v2 cI hZ))))
  (ag (vW (aW [ak 2,ak 3]) (cU (h "_law_gone") (v4 cI ce (vi 34) (vi 12))))
  (ag (ar 4 (cZ (v2 eK (bq bf))))
  (ag (dQ (fq il (O (bq bf))) (bW (iM eL) (ak 5) (iH h)) eM)
  (ag (bW (jf jr) (ak 6) (ki h))
  (aS (O (fy HL (O (cU (h "_law_told") (v2 ce eK))) (O (aR (v2 (vt "told") cY)))))))))))
theorem Kj(n:Nat):Y (n+2) "law"=eN 1 10 (wZ (Y (n+1))):=by kernel_rfl
variable{a:Type}{m:List a}{n:Nat}
theorem NQ(h:m.length=n+1):∃a r,m=a::r/\r.length=n:=by
 cases m with
 |nil=>cases h
 |cons a r=>exact⟨a,r,rfl,Nat.succ.inj h⟩
theorem Tl(h:m.length=1):∃a,m=[a]:=by obtain⟨a,r,rfl,x⟩:=NQ h;exact⟨a,by rw[g8 x]⟩
theorem PH(h:m.length=2):∃a b,m=[a,b]:=by obtain⟨a,r,rfl,x⟩:=NQ h;obtain⟨b,rfl⟩:=Tl x;exact⟨a,b,rfl⟩
theorem Si(h:m.length=3):∃a b c,m=[a,b,c]:=by obtain⟨a,r,rfl,x⟩:=NQ h;obtain⟨b,c,rfl⟩:=PH x;exact⟨a,b,c,rfl⟩
theorem Tj(h:m.length=4):∃a b c d,m=[a,b,c,d]:=by obtain⟨a,r,rfl,x⟩:=NQ h;obtain⟨b,c,d,rfl⟩:=Si x;exact⟨a,b,c,d,rfl⟩
theorem Ti(h:m.length=5):∃a b c d e,m=[a,b,c,d,e]:=by obtain⟨a,r,rfl,x⟩:=NQ h;obtain⟨b,c,d,e,rfl⟩:=Tj x;exact⟨a,b,c,d,e,rfl⟩
theorem Uc(h:m.length=6):∃a b c d e g,m=[a,b,c,d,e,g]:=by obtain⟨a,r,rfl,x⟩:=NQ h;obtain⟨b,c,d,e,g,rfl⟩:=Ti x;exact⟨a,b,c,d,e,g,rfl⟩
theorem sc:Tb.all QI=true:=by decide +kernel
theorem un:(Tb.map (·.name)).Nodup:=by decide +kernel
set_option tactic.hygienic true in
theorem G9(h:G_.lookup c=some f):c=("NotPossible":Str)/\f=("place":Str):=by
 unfold G_ eD at h;split at h
 .rename_i e;cases h;exact⟨eq_of_beq e,rfl⟩
 .cases h
def Uz(K:FG)(C:Addr):Prop:=∃f t N o x kV d p a c h s,K.lookup C=some o/\Kx.XO o C N t/\vD K Kx.JO t=true/\vA K N=true/\a_ K N "__init__"=some (some (.ref f))/\K.lookup f=some ⟨.type "function",x,.func (g_ "__init__" "NotPossible.__init__" (gB (L2.bJ (lG 4) 0)) (cE (L2.bJ (lG 4) 0)) (aK (L2.bJ (lG 4) 0)) .none kV d p a c h),s⟩/\mS K c "NotPossible.__init__"=true/\dZ K (.ref f)=true
variable{K:FG}
theorem J3(st:ExcSt K C "place")(H:Uz K C):w9 K C "place":=by
 obtain⟨f,v,N,o,S,kV,y,F,g,i,j,A,b,c,r,t,p,x,a,n⟩:=H;have q:cE (L2.bJ (lG 4) 0)=[.Assign [.Attribute (.Name "self" ⟨11,8,11,12⟩) "place" ⟨11,8,11,18⟩] (.Name "place" ⟨11,21,11,26⟩) ⟨11,8,11,26⟩]:=by kernel_rfl
 refine⟨st,f,_,["self","place"],⟨v,N,o,_,b,c,r,t,λh X=>MS X p,x,rfl⟩,λP w z base=>DF (jj (st:=(L2.bJ (lG 4) 0)) x a n) (Fw (d:=⟨"","","",(L2.bJ (lG 4) 0),["self","place"],["self","place"],[],[],[]⟩) (by decide +kernel)) q (λe k=>⟨.inl (by rw[k];decide +kernel),.inl (by rw[k];decide +kernel)⟩) (by decide +kernel) (by decide +kernel) (by decide +kernel) (by decide +kernel) λ_=>rfl,λs e u X=>?_⟩;exact(jj (st:=(L2.bJ (lG 4) 0)) x a n).binds (ps:=["self","place"]) (λ_ _ _ _ _ _ m l=>by obtain⟨_,_,rfl⟩:=PH l;rfl) s [.ref e,u] X rfl
theorem Nc{K:FG}{h:Heap}{mg:SV}(X:K.In h)(G:h.Ns mainGlobals mg){E0 V E a W:Addr}
  (b:a_ K mainGlobals "RoadError"=some (some (.ref E0))) (Z:bD K (.type "NoneType") (.ref E0)=some false)
  (m:a_ K mainGlobals "NoPlan"=some (some (.ref V))) (en1:bD K (.type "NoneType") (.ref V)=some false)
  (s:a_ K mainGlobals "NoDeed"=some (some (.ref E))) (en2:bD K (.type "NoneType") (.ref E)=some false)
  (k:a_ K mainGlobals "NotPossible"=some (some (.ref a))) (en3:bD K (.type "NoneType") (.ref a)=some false)
  (r:a_ K mainGlobals "TooMany"=some (some (.ref W))) (en4:bD K (.type "NoneType") (.ref W)=some false)
  (ev:a_ K mainGlobals "ValueError"=some none) (env:bD K (.type "NoneType") (.type "ValueError")=some false)
  (xg2:cc K (.ref E) "__getattribute__"=some (some (.builtin "BaseException.__getattribute__"))) (xh2:cc K (.ref E) "__getattr__"=some none) (gD:jY K E (.type "BaseException")=some true) (xc2:cc K (.ref E) "__class__"=some (some (.builtin "object.__class__"))) (xb2:mV K (.builtin "object.__class__") "__get__"=some (some (.builtin "getset_descriptor.__get__"))) (sY:qD K (.builtin "object.__class__")=some true) (xo2:jY K E (.type "object")=some true) (eL:(mR K E).isSome=true) (xs2:mU K (.ref E) (.ref E)=some true) (cY:bD K (.ref E) (.type "ValueError")=some true)
  (xr2:SW K E)
  (q:bD K (.ref E) (.ref E0)=some true)
  (H:gp K (.ref E) (.ref E0)=some true)
  (v:bD K (.ref E) (.ref V)=some false)
  (d:bD K (.ref E) (.ref E)=some true)
  (S:gp K (.ref E) (.ref E)=some true)
  (w:bD K (.ref E) (.ref a)=some false)
  (u:bD K (.ref E) (.ref W)=some false)
  (M:cc K (.ref a) "__getattribute__"=some (some (.builtin "BaseException.__getattribute__"))) (N:cc K (.ref a) "__getattr__"=some none) (il:jY K a (.type "BaseException")=some true) (L:cc K (.ref a) "__class__"=some (some (.builtin "object.__class__"))) (I:mV K (.builtin "object.__class__") "__get__"=some (some (.builtin "getset_descriptor.__get__"))) (BQ:qD K (.builtin "object.__class__")=some true) (Q:jY K a (.type "object")=some true) (hZ:(mR K a).isSome=true) (xs3:mU K (.ref a) (.ref a)=some true) (eK:bD K (.ref a) (.type "ValueError")=some true)
  (xr3:w9 K a "place")
  (g:bD K (.ref a) (.ref E0)=some true)
  (F:gp K (.ref a) (.ref E0)=some true)
  (i:bD K (.ref a) (.ref V)=some false)
  (j:bD K (.ref a) (.ref E)=some false)
  (l:bD K (.ref a) (.ref a)=some true)
  (P:gp K (.ref a) (.ref a)=some true)
  (o:bD K (.ref a) (.ref W)=some false)
  : ExsOk K mg pK Rs:=by
 have p:∀c:Str,(pK.any λx=>decide (x.1=c))=true->c=("RoadError":Str)\/c=("NoPlan":Str)\/c=("NoDeed":Str)\/c=("NotPossible":Str)\/c=("TooMany":Str):=λc n=>by
  simp only[pK,gf,List.any_nil,AD,u1,decide_eq_true_eq]at n;rcases n with n|n|n|n|n
  .exact .inl n.symm
  .exact .inr (.inl n.symm)
  .exact .inr (.inr (.inl n.symm))
  .exact .inr (.inr (.inr (.inl n.symm)))
  .exact .inr (.inr (.inr (.inr (n.symm))))
 have y:∀c:Str,Rs.contains c=true->c=("NoDeed":Str)\/c=("NotPossible":Str):=λc n=>by simpa[Rs] using n
 refine⟨λc n=>?_,Bx X G ev,λt C D e=>?_,env,λc B C R ea A=>?_,λc R=>?_,λc C R hz A=>?_,λc f hf=>?_,λc f C hf A=>?_⟩
 .rcases p c n with rfl|rfl|rfl|rfl|rfl
  .exact⟨_,b,bC X G b⟩
  .exact⟨_,m,bC X G m⟩
  .exact⟨_,s,bC X G s⟩
  .exact⟨_,k,bC X G k⟩
  .exact⟨_,r,bC X G r⟩
 .rcases p t D with rfl|rfl|rfl|rfl|rfl
  .cases (bC X G b).symm.trans e;exact Z
  .cases (bC X G m).symm.trans e;exact en1
  .cases (bC X G s).symm.trans e;exact en2
  .cases (bC X G k).symm.trans e;exact en3
  .cases (bC X G r).symm.trans e;exact en4
 .rcases y c R with rfl|rfl
  .cases s.symm.trans A;cases (show some (["NoDeed","RoadError","ValueError"]:LS)=some B from ea);refine⟨⟨xg2,xh2,xc2,xb2,sY,xo2,gD,eL⟩,xs2,cY,λt T D e=>?_⟩;rcases p t D with rfl|rfl|rfl|rfl|rfl
   .cases (bC X G b).symm.trans e;exact⟨q,λ_=>H⟩
   .cases (bC X G m).symm.trans e;exact⟨v,λz=>nomatch z⟩
   .cases (bC X G s).symm.trans e;exact⟨d,λ_=>S⟩
   .cases (bC X G k).symm.trans e;exact⟨w,λz=>nomatch z⟩
   .cases (bC X G r).symm.trans e;exact⟨u,λz=>nomatch z⟩
  .cases k.symm.trans A;cases (show some (["NotPossible","RoadError","ValueError"]:LS)=some B from ea);refine⟨⟨M,N,L,I,BQ,Q,il,hZ⟩,xs3,eK,λt T D e=>?_⟩;rcases p t D with rfl|rfl|rfl|rfl|rfl
   .cases (bC X G b).symm.trans e;exact⟨g,λ_=>F⟩
   .cases (bC X G m).symm.trans e;exact⟨i,λz=>nomatch z⟩
   .cases (bC X G s).symm.trans e;exact⟨j,λz=>nomatch z⟩
   .cases (bC X G k).symm.trans e;exact⟨l,λ_=>P⟩
   .cases (bC X G r).symm.trans e;exact⟨o,λz=>nomatch z⟩
 .rcases y c R with rfl|rfl<;>decide +kernel
 .rcases y c R with rfl|rfl
  .cases s.symm.trans A;exact⟨bC X G s,xr2⟩
  .exact absurd hz (by decide +kernel)
 .obtain⟨rfl,rfl⟩:=G9 hf;decide +kernel
 .obtain⟨rfl,rfl⟩:=G9 hf;cases k.symm.trans A;exact⟨⟨M,N,L,I,BQ,Q,il,hZ⟩,xr3⟩
def Fn(K:FG)(t:Nat)(x:Str):Prop:=∃(f:Addr)(o:Value)(e:Option Addr)(kV d p:Value)(a:Option Addr)(c h:Value)(s:Array (OV)),a_ K mainGlobals x=some (some (.ref f))/\K.lookup f=some ⟨o,e,.func (g_ x x (gB (lG t)) (cE (lG t)) (aK (lG t)) .none kV d p a c h),s⟩/\mS K c x=true/\dZ K (.ref f)=true
variable{x:Str}
theorem dk(X:K.In h)(G:h.Ns mainGlobals g)(H:Fn K t x)
  (b:∀(kV o p:Value)(n:Option Addr)(d e:Value)(m:LV),m.length=ps.length->bindArgs (g_ x x (gB (lG t)) (cE (lG t)) (aK (lG t)) .none kV o p n d e) ⟨m,[]⟩=pure (ps.zip m)):∃f s,DOk K g ⟨x,x,"",lG t,N,ps,i,v,j⟩ f s:=by
 obtain⟨f,w,u,kV,q,p,n,r,e,y,a,l,c,k⟩:=H;exact⟨_,_,⟨jj l c k,(jj l c k).binds b,λ_=>bC X G a,λh=>absurd (show("":Str).cps.isEmpty=false from h) (by decide +kernel)⟩⟩
def Gi(K:FG)(x:Str)(i:Int):Prop:=∃t,a_ K mainGlobals x=some (some (.int i t))
theorem K4(X:K.In h)(G:h.Ns mainGlobals g){i:Int}(H:Gi K x i):nL w K g x (.int i):=by obtain⟨t,a⟩:=H;exact .plain ⟨_,.int i,bC X G a,⟨_,rfl⟩,λ_ _=>rfl⟩ rfl
open PySem.W in
theorem NE{w:World}{K:Frag}{h:Heap}{mg:SV}(X:K.In h)(G:h.Ns mainGlobals mg)
  {C:Addr}
  {r t p:Addr}{od20 B od25 D od35 E:Option Addr}{sl20 sl25 sl35:Array (OV)}{oc20 kV20 T pm20 q N oc25 kV25 V pm25 u Q oc35 kV35 W pm35 g R:Value}
  (s:nsIn K mainGlobals "Board"=some (some (.ref C))) (b:plainGet K C Str.empty=true) (n:hasDictIn K C=true) (a:plainOver K C=true) (k:findIn K (.ref C) "__setattr__"=some (some (.builtin "object.__setattr__"))) (cf0:makesIn K C=true) (cg0:keepIn K (.ref C)=true)
  (H:findIn K (.ref C) "families"=some none)
  (S:findIn K (.ref C) "homes"=some none)
  (F:findIn K (.ref C) "members"=some none)
  (P:findIn K (.ref C) "pairs"=some none)
  (A:findIn K (.ref C) "places"=some none)
  (h0:Fn K 39 "_law_cell_at") (h1:Fn K 40 "_law_mix") (h2:Fn K 46 "_law_roads") (h3:Fn K 42 "_law_name") (h4:Fn K 43 "_law_cells") (h5:Fn K 44 "_law_sum") (h6:Fn K 47 "_law_sends") (h7:Fn K 45 "_law_condition") (h8:Fn K 48 "_law_step") (h9:Fn K 49 "_law_family") (h10:Fn K 50 "_law_plan") (h11:Fn K 14 "families_of") (h12:Fn K 15 "pairs_of") (h13:Fn K 16 "begin") (h14:Fn K 31 "has_flaw") (h15:Fn K 23 "unlike_spots") (h16:Fn K 34 "replaced") (h17:Fn K 33 "without") (h18:Fn K 32 "flawed") (h19:Fn K 30 "flaw_ends") (h21:Fn K 21 "values_of") (h22:Fn K 9 "compared") (h23:Fn K 7 "value_of") (h24:Fn K 8 "holds") (h26:Fn K 22 "takeable") (h27:Fn K 25 "cells_behind") (h28:Fn K 26 "whos_behind") (h29:Fn K 28 "targets_of") (h30:Fn K 29 "posted") (h31:Fn K 27 "sendings") (h32:Fn K 24 "step_ends") (h33:Fn K 20 "hand_ends") (h34:Fn K 19 "ends_on") (h36:Fn K 18 "ends_from") (h37:Fn K 51 "_law_gone") (h38:Fn K 53 "_law_due") (h39:Fn K 17 "do_on") (h40:Fn K 37 "end_at") (h41:Fn K 36 "walked") (h42:Fn K 41 "_law_whole") (h43:Fn K 52 "_law_told") (h44:Fn K 54 "_law_bent") (h45:Fn K 55 "law")
  (a20:findIn K (.ref C) "family_of"=some (some (.ref r))) (w20:isFn K (.ref r)=true)
  (l20:K.lookup r=some ⟨oc20,od20,.func (fnOf "family_of" "Board.family_of" (gB (L2.bJ (lG 13) 1)) (cE (L2.bJ (lG 13) 1)) (aK (L2.bJ (lG 13) 1)) .none kV20 T pm20 B q N),sl20⟩) (I:codeIn K q "Board.family_of"=true) (y:keepIn K (.ref r)=true)
  (a25:findIn K (.ref C) "hands_beside"=some (some (.ref t))) (w25:isFn K (.ref t)=true)
  (l25:K.lookup t=some ⟨oc25,od25,.func (fnOf "hands_beside" "Board.hands_beside" (gB (L2.bJ (lG 13) 2)) (cE (L2.bJ (lG 13) 2)) (aK (L2.bJ (lG 13) 2)) .none kV25 V pm25 D u Q),sl25⟩) (L:codeIn K u "Board.hands_beside"=true) (o:keepIn K (.ref t)=true)
  (a35:findIn K (.ref C) "__init__"=some (some (.ref p))) (w35:isFn K (.ref p)=true)
  (l35:K.lookup p=some ⟨oc35,od35,.func (fnOf "__init__" "Board.__init__" (gB (L2.bJ (lG 13) 0)) (cE (L2.bJ (lG 13) 0)) (aK (L2.bJ (lG 13) 0)) .none kV35 W pm35 E g R),sl35⟩) (M:codeIn K g "Board.__init__"=true) (Z:keepIn K (.ref p)=true)
  (g0:Gi K "HIGHEST_LETTER" 999) (g1:Gi K "NOBODY" (-1))
  (z:∀x ∈ Ks,nsIn K mainGlobals x=some none)
  (hex:ExsOk K mg pK Rs)
  : TOk w Gv Att pK Rs Tb K mg:=by
 refine⟨hex,λd hd=>?_,sc,un,λx j=>Bx X G (z x j),λx v i=>?_,λc f hc=>?_⟩
 .simp only[Tb,aP,eS,kt]at hd;rcases hd with rfl|rfl|rfl|rfl|rfl|rfl|rfl|rfl|rfl|rfl|rfl|rfl|rfl|rfl|rfl|rfl|rfl|rfl|rfl|rfl|rfl|rfl|rfl|rfl|rfl|rfl|rfl|rfl|rfl|rfl|rfl|rfl|rfl|rfl|rfl|rfl|rfl|rfl|rfl|rfl|rfl|rfl|rfl|rfl|rfl|rfl;all_goals first
   |exact⟨_,_,⟨jj (st:=(L2.bJ (lG 13) 1)) l20 I y,(jj (st:=(L2.bJ (lG 13) 1)) l20 I y).binds (ps:=["self","hand"]) λ_ _ _ _ _ _ m l=>by obtain⟨_,_,rfl⟩:=PH l;rfl,λh=>absurd h (by decide +kernel),λ_=>⟨_,s,bC X G s,⟨b,n,a,k⟩,λh=>absurd h (by decide +kernel),λ_=>⟨a20,w20,y⟩⟩⟩⟩
   |exact⟨_,_,⟨jj (st:=(L2.bJ (lG 13) 2)) l25 L o,(jj (st:=(L2.bJ (lG 13) 2)) l25 L o).binds (ps:=["self","hand","name"]) λ_ _ _ _ _ _ m l=>by obtain⟨_,_,_,rfl⟩:=Si l;rfl,λh=>absurd h (by decide +kernel),λ_=>⟨_,s,bC X G s,⟨b,n,a,k⟩,λh=>absurd h (by decide +kernel),λ_=>⟨a25,w25,o⟩⟩⟩⟩
   |exact⟨_,_,⟨jj (st:=(L2.bJ (lG 13) 0)) l35 M Z,(jj (st:=(L2.bJ (lG 13) 0)) l35 M Z).binds (ps:=["self","plan"]) λ_ _ _ _ _ _ m l=>by obtain⟨_,_,rfl⟩:=PH l;rfl,λh=>absurd h (by decide +kernel),λ_=>⟨_,s,bC X G s,⟨b,n,a,k⟩,λ_=>⟨cf0,a35,w35,cg0⟩,λh=>absurd rfl h⟩⟩⟩
   |exact dk X G (by assumption) λ_ _ _ _ _ _ m l=>by first|(obtain⟨_,rfl⟩:=Tl l;rfl)|(obtain⟨_,_,rfl⟩:=PH l;rfl)|(obtain⟨_,_,_,rfl⟩:=Si l;rfl)|(obtain⟨_,_,_,_,rfl⟩:=Tj l;rfl)|(obtain⟨_,_,_,_,_,rfl⟩:=Ti l;rfl)|(obtain⟨_,_,_,_,_,_,rfl⟩:=Uc l;rfl)
 .unfold Gv at i;by_cases e:x=("HIGHEST_LETTER":Str)
  .rw [am e]at i;subst e;cases i;exact K4 X G g0
  rw[au e]at i;clear e;by_cases e:x=("NOBODY":Str)
  .rw [am e]at i;subst e;cases i;exact K4 X G g1
  rw[au e]at i;clear e;cases i
 .obtain⟨x,j,e⟩:=mN.mp hc;rw[az]at e;have e1:=be e.1;have e2:f ∈ x.2:=by simpa using e.2
  subst e1;rcases aP.mp j with j|j
  .subst j;simp only[aP,eS,kt]at e2;rcases e2 with rfl|rfl|rfl|rfl|rfl
   .exact⟨_,s,⟨b,n,a,k⟩,H⟩
   .exact⟨_,s,⟨b,n,a,k⟩,S⟩
   .exact⟨_,s,⟨b,n,a,k⟩,F⟩
   .exact⟨_,s,⟨b,n,a,k⟩,P⟩
   .exact⟨_,s,⟨b,n,a,k⟩,A⟩
  cases j
theorem log2_small{i:Int}(h:i.natAbs < 2 ^ 60):i.natAbs.log2 < 60:=by
 by_cases e:i.natAbs=0
 .rw [e];decide
 .exact (Bl e).mpr h
theorem bU{i j:Int}(h:i.natAbs < 2 ^ 60)(x:j.natAbs < 2 ^ 60):fY i j=true:=by unfold fY;have a:=log2_small h;have b:=log2_small x;exact mF (by lia)
theorem MM:∀(n:Nat)(v:P),dh n v=true->dh (n+1) v=true:=by
 intro n;induction n with
 |zero=>intro v h;cases v<;>first|rfl|exact h|cases h
 |succ n i=>
  intro v h;cases v with
  |tup xs=>exact bw.mpr λx a=>i x (bw.mp h x a)
  |lst xs=>exact bw.mpr λx a=>i x (bw.mp h x a)
  |ro xs=>exact bw.mpr λx a=>i x (bw.mp h x a)
  |non=>rfl
  |bl _=>rfl
  |int _=>rfl
  |str _=>exact h
  |dct _ _=>cases h
theorem dR(h:dh n v=true)(m:n≤e):dh e v=true:=by
 obtain⟨k,rfl⟩:=Nat.exists_eq_add_of_le m;clear m;induction k with
 |zero=>exact h
 |succ k i=>exact MM _ _ i
def strOk(x:Str):Prop:=ao x=true
@[simp] theorem Ck(n:Nat)(i:Int):dh n (.int i)=true:=by cases n<;>rfl
@[simp] theorem Sd(n:Nat)(i:Bool):dh n (.bl i)=true:=by cases n<;>rfl
@[simp] theorem QM(n:Nat):dh n .non=true:=by cases n<;>rfl
@[simp] theorem JK(n:Nat)(x:Str):dh n (.str x)=ao x:=by cases n<;>rfl
@[simp] theorem QL(n:Nat)(xs:List P):dh (n+1) (.tup xs)=xs.all (dh n):=rfl
@[simp] theorem QN(n:Nat)(xs:List P):dh (n+1) (.lst xs)=xs.all (dh n):=rfl
theorem Pz(h:∀x ∈ xs,dh n x=true):dh (n+1) (.lst xs)=true:=bw.mpr h
@[simp] theorem Ct(c:Nat):mH ⟨#[c]⟩=1:=rfl
theorem Dj(h:strOk x)(a:strOk y):strOk (x++y):=by show(x.cps++y.cps).all (λc=>decide (c < 0x110000))=true;rw[AV,az];exact⟨h,a⟩
theorem Di(e:strOk x)(n:Nat):strOk (d_ x n):=by
 have k:∀(n:Nat)(a:Array Nat),a.all (λc=>decide (c < 0x110000))=true->((List.replicate n x.cps).foldl (·++·) a).all (λc=>decide (c < 0x110000))=true:=by
  intro n;induction n with
  |zero=>intro a h;exact h
  |succ n i=>intro a h;rw[cX,fC];exact i _ (by rw[AV,az];exact⟨h,e⟩)
 exact k n #[] (by simp)
variable{k:Int}
theorem Hn(f:strOk x)(a:0≤k)(s:k < x.length)(n:x.length≤1000000):∃c,strOk ⟨#[c]⟩/\tR (.str x) (.int k)=some (.str ⟨#[c]⟩):=by
 have l:k.toNat < x.cps.toList.length:=by simp only[mK];unfold mH at s;lia
 have h:k.toNat < x.cps.size:=by simpa using l
 refine⟨x.cps.toList[k.toNat],?_,?_⟩
 .have:=Array.all_eq_true.mp f k.toNat h;show(#[x.cps.toList[k.toNat]].all λc=>decide (c < 0x110000))=true;simpa using this
 .have e:L2.atI x.cps.toList k=some (x.cps.toList[k.toNat]):=bB a (by simp[h]);show(if hV x.length=true then (L2.atI x.cps.toList k).map λc=>P.str ⟨#[c]⟩ else none)=_;rw[am (by simp only[lC];exact n),e];rfl
theorem DZ(h:x.length+y.length≤1000000):wT (.str x) (.str y)=some (.str (x++y)):=by show(if hV (x.length+y.length)=true then some (P.str (x++y)) else none)=_;rw[am (by rw[lC];exact h)]
variable{xs:List a}
theorem dI(h:xs≠[])(a:Int):∃x ∈ xs,L2.atI xs (a % (xs.length:Int))=some x:=by
 have l:(0:Int) < (xs.length:Int):=by cases xs with|nil=>exact absurd rfl h|cons _ _=>simp
 have e:=dL a (z5 l);have s:=eP a l;have k:(a % (xs.length:Int)).toNat < xs.length:=by lia
 exact⟨xs[(a % (xs.length:Int)).toNat],fE _,bB e (by simp[k])⟩
theorem zL(h:0≤k)(e:k < (xs.length:Int)):∃x ∈ xs,L2.atI xs k=some x:=by
 have a:k.toNat < xs.length:=by lia
 exact⟨xs[k.toNat],fE _,bB h (by simp[a])⟩
theorem atI_last(h:xs≠[]):∃x ∈ xs,L2.atI xs (-1)=some x:=by
 have l:0 < xs.length:=A_.mpr h;refine⟨xs[xs.length-1],fE _,?_⟩;unfold L2.atI L2.Cy;rw[au (by lia),am (by lia)];have e:(-1+(xs.length:Int)).toNat=xs.length-1:=by lia
 simp[e,l]
theorem cD{g:jK}{b:ES}{Inv:Nat->Lc->aB->Prop}:∀{xs:List P}{k:Nat}{L:Lc}{S:aB},(∀i v L S,xs[i]? = some v->Inv (k+i) L S->∃n L2 s,g v L=some n/\b n S=some (.nx,L2,s)/\Inv (k+i+1) L2 s)->Inv k L S ->
  ∃x a,bu g b xs L S=some (.nx,x,a)/\Inv (k+xs.length) x a
 | [],k,L,S,_,h=>⟨L,S,rfl,h⟩
 |v::r,k,L,S,f,h=>by
  obtain⟨n,L2,s,c,m,p⟩:=f 0 v L S rfl h;obtain⟨x,a,t,d⟩:=cD (g:=g) (b:=b) (Inv:=Inv) (xs:=r) (k:=k+1) (L:=L2) (S:=s) (λi w L S e q=>by have:=f (i+1) w L S (by simpa using e) (by rw[show k+(i+1)=k+1+i by lia];exact q);rwa [show k+(i+1)+1=k+1+i+1 by lia]at this) p
  exact⟨x,a,by rw[cg c m];exact t,by rw[aQ,show k+(r.length+1)=k+1+r.length by lia];exact d⟩
theorem oP{g:jK}{c:EB}{e:EV}{Inv:Lc->Prop}{Q:P->Prop}{S:aB}:∀{xs:List P}{L:Lc},(∀v ∈ xs,∀L,Inv L->∃x k,g v L=some x/\Inv x/\c x S=some (k,S)/\(k=true->∃y,e x S=some (y,S)/\Q y))->Inv L ->
  ∃s,bZ g c e xs L S=some (s,S)/\(∀y ∈ s,Q y)/\s.length≤xs.length
 | [],L,_,h=>⟨[],rfl,λ_ z=>(by cases z),al _⟩
 |v::r,L,m,h=>by
  obtain⟨x,k,a,i,n,p⟩:=m v aH L h;obtain⟨s,f,b,u⟩:=oP (xs:=r) (L:=x) (λw hw=>m w (aI _ hw)) i;cases k with
  |false=>exact⟨s,by simp[bZ,a,n,f],b,by simp;lia⟩
  |true=>obtain⟨y,t,q⟩:=p rfl;exact⟨y::s,by simp[bZ,a,n,f,t],λz d=>(aP.mp d).elim (λe=>e ▸ q) (b z),by simp;lia⟩
theorem mu{g:jK}{e:EV}{Inv:Lc->Prop}{Q:P->Prop}{S:aB}:∀{xs:List P}{L:Lc},(∀v ∈ xs,∀L,Inv L->∃x y,g v L=some x/\Inv x/\e x S=some (y,S)/\Q y)->Inv L ->
  ∃s,bZ g iN e xs L S=some (s,S)/\(∀y ∈ s,Q y)/\s.length=xs.length
 | [],L,_,h=>⟨[],rfl,λ_ z=>(by cases z),rfl⟩
 |v::r,L,a,h=>by obtain⟨x,y,n,i,k,q⟩:=a v aH L h;obtain⟨s,f,b,c⟩:=mu (xs:=r) (L:=x) (λw hw=>a w (aI _ hw)) i;exact⟨y::s,by simp[bZ,n,k,f],λz m=>(aP.mp m).elim (λe=>e ▸ q) (b z),by simp[c]⟩
theorem dc{g:jK}{c:EB}{e:EV}{Inv:Lc->Prop}{S:aB}{p:P->Bool}{f:P->P}:∀{xs:List P}{L:Lc},(∀v ∈ xs,∀L,Inv L->∃x,g v L=some x/\Inv x/\c x S=some (p v,S)/\(p v=true->e x S=some (f v,S)))->Inv L ->
  bZ g c e xs L S=some ((xs.filter p).map f,S)
 | [],L,_,h=>rfl
 |v::r,L,b,h=>by
  obtain⟨x,s,i,a,m⟩:=b v aH L h;have n:=dc (xs:=r) (L:=x) (λw hw=>b w (aI _ hw)) i;cases k:p v with
  |false=>rw[k]at a;simp[bZ,s,a,n,k]
  |true=>rw[k]at a;simp[bZ,s,a,n,k,m k]
theorem ints_get{lo:Int}{n i:Nat}{v:P}(h:(intsFrom lo n)[i]? = some v):v=.int (lo+i)/\i < n:=by
 unfold Ev.intsFrom at h;rw[dC]at h;cases e:(List.range n)[i]? with
 |none=>rw[e]at h;cases h
 |some j=>
  rw[e]at h;cases h;have:=bz.mp e
  obtain⟨x,a⟩:=this;simp at x a;subst a;exact⟨rfl,x⟩
theorem dn{lo:Int}{n:Nat}{v:P}(h:v ∈ intsFrom lo n):∃i:Nat,v=.int (lo+i)/\i < n:=by obtain⟨i,x,e⟩:=mQ.mp h;exact⟨i,ints_get (by rw[bI x,e])⟩
theorem bQ(lo:Int)(n:Nat):(intsFrom lo n).length=n:=by simp[Ev.intsFrom]
theorem Gp(s n:Str->GF)(xs:List P):∀(a:Int)(p t q:Option D),∃(r:Int)(e:Option D),bu (ak 2) (iG s) xs [J a,p,t,q] []=some (.nx,[J r,p,e,q],[]):=by
 induction xs with
 |nil=>intro a p t q;exact⟨a,t,rfl⟩
 |cons x xs i=>intro a p t q;obtain⟨r,e,h⟩:=i (a / 2147483648) p (U x) q;exact⟨r,e,by simpa[bu,iG] using h⟩
theorem wd(a:Int){p:Int}(s:0≤p)(k:p < 1000):∃r:Int,0≤r/\dJ (Y (n+2) "_law_mix") [.int a,.int p]=some (.int r):=by
 by_cases h:(1000000000000:Int)≤a
 .obtain⟨r,i,e⟩:=Gp (Y (n+1)) (Y n) (intsFrom 0 (p % 61).toNat) (a / 1000000000000-1) (J p) none none;refine⟨r % 2147483648,dL _ (by decide),?_⟩;have c:(p % 61).natAbs < 1000000:=by lia
  rw[pa,aO];simp[k6,h,c,e]
 .have m:0≤p * p/\p * p≤1000000:=⟨Int.mul_nonneg s s,Int.le_trans (Int.mul_le_mul (z0 k) (z0 k) s (by decide)) (by decide)⟩;have v:fY p p=true:=bU (by lia) (by lia);have d:fY (p * p) 7919=true:=bU (by lia) (by decide);have w:fY (a % 1000003+p * p * 7919+p) 48271=true:=bU (by lia) (by decide);generalize f:(a % 1000003+p * p * 7919+p) * 48271 % 2147483629=x;have t:0≤x/\x < 2147483629:=by subst f;exact⟨dL _ (by decide),eP _ (by decide)⟩
  have u:fY x x=true:=bU (by lia) (by lia);generalize b:x * x % 2147483587=y;have q:0≤y/\y < 2147483587:=by subst b;exact⟨dL _ (by decide),eP _ (by decide)⟩
  have g:fY y (y+2)=true:=bU (by lia) (by lia);refine⟨y * (y+2) % 2147483579 / 7,Int.ediv_nonneg (dL _ (by decide)) (by decide),?_⟩;rw[pa,aO];simp[k6,h,v,d,w,f,u,b,g]
noncomputable def gG(n:List Int):P:=.ro (n.map .int)
theorem wU(s:List Int)(x:0≤k):∃r:Int,dJ (Y (n+2) "_law_cell_at") [gG s,.int k]=some (.int r):=by
 by_cases h:k < (s.length:Int)
 .have a:k.toNat < s.length:=by lia
  refine⟨s[k.toNat],?_⟩;have e:L2.atI (s.map P.int) k=some (.int s[k.toNat]):=bB x (by simp[a]);rw[kx,aO];simp[gS,gG,cV,dF,h,e]
 .refine⟨0,?_⟩;rw[kx,aO];simp[gS,gG,cV,dF,h]
theorem i7{n:Nat}(s:List Int){k p:Int}(x:0≤k)(a:0≤p)(f:p < 1000):∃c r:Int,0≤r/\dJ (Y (n+2) "_law_cell_at") [gG s,.int k]=some (.int c)/\dJ (Y (n+2) "_law_mix") [.int c,.int p]=some (.int r):=by obtain⟨c,e⟩:=wU (n:=n) s x;obtain⟨r,b,h⟩:=wd (n:=n) c a f;exact⟨c,r,b,e,h⟩
theorem ML:strOk "xyz":=by unfold strOk;decide +kernel
theorem Cs:("xyz":Str).length=3:=by decide +kernel
theorem Qs:∀k:Nat,k < 16->tR (.str "abcdefghijklmnop") (.int (k:Int))=some (.str ⟨#[97+k]⟩):=by
 intro k h;have e:∀k:Nat,k < 16->L2.atI ((("abcdefghijklmnop":Str)).cps.toList) (k:Int)=some (97+k):=by decide +kernel
 show(if hV (("abcdefghijklmnop":Str)).length=true then (L2.atI ((("abcdefghijklmnop":Str)).cps.toList) (k:Int)).map λc=>P.str ⟨#[c]⟩ else none)=_;rw[e k h,am (by decide +kernel)];rfl
noncomputable def hd(x:Str):Option Nat:=x.cps[0]?
theorem Mf(c n:Nat)(x:Str):hd (d_ ⟨#[c]⟩ (n+1)++x)=some c:=by
 have k:∀(n:Nat)(a:Array Nat),a[0]? = some c->((List.replicate n #[c]).foldl (·++·) a)[0]? = some c:=by
  intro n;induction n with
  |zero=>intro a h;exact h
  |succ n i=>intro a h;rw[cX,fC];refine i _ ?_;have s:0 < a.size:=(qa.mp h).1;rw[A1 s];exact h
 have h:=k n (#[]++#[c]) (by simp);have s:0 < ((List.replicate n #[c]).foldl (·++·) (#[]++#[c])).size:=(qa.mp h).1;show(((List.replicate (n+1) #[c]).foldl (·++·) #[])++x.cps)[0]? = some c;rw[cX,fC,A1 s];exact h
theorem qO{n:Nat}(s:List Int){k:Nat}(r:k < 16):∃x:Str,strOk x/\hd x=some (97+k)/\dJ (Y (n+3) "_law_name") [gG s,.int (k:Int)]=some (.str x):=by
 obtain⟨c,a,q,e,b⟩:=i7 (n:=n) s (k:=1) (p:=(k:Int)) (by lia) (by lia) (by lia);have u:=Qs k r;obtain⟨d,h,f⟩:=Hn (k:=a / 4 % 3) ML (by lia) (by rw[Cs];lia) (by rw[Cs];lia);have t:strOk ⟨#[97+k]⟩:=by show(#[97+k].all λc=>decide (c < 0x110000))=true;simp;lia
 have m:wS (.str ⟨#[97+k]⟩) (.int (1+a % 4))=some (.str (d_ ⟨#[97+k]⟩ ((a % 4).toNat+1))):=by show(if (hV ((1+a % 4).toNat * 1) && decide ((1+a % 4).natAbs < 1000000))=true then some (P.str (d_ ⟨#[97+k]⟩ (1+a % 4).toNat)) else none)=_;rw[am (by rw[az,lC];exact⟨by lia,mF (by lia)⟩),show(1+a % 4).toNat=(a % 4).toNat+1 by lia]
 have z:=DZ (x:=d_ ⟨#[97+k]⟩ ((a % 4).toNat+1)) (y:=⟨#[d]⟩) (by rw[lL,Ct,Ct];lia);refine⟨d_ ⟨#[97+k]⟩ ((a % 4).toNat+1)++⟨#[d]⟩,Dj (Di t _) h,Mf _ _ _,?_⟩;rw[ww,aO];simp[nI,e,b,u,f,m,z]
theorem Sh(a:Int):∃r:Int,-1≤r/\r≤5/\L2.atI [P.int 0,.int 0,.int (-1),.int 5] (a % 4)=some (.int r):=by
 have h:a % 4=0\/a % 4=1\/a % 4=2\/a % 4=3:=by lia
 rcases h with h|h|h|h<;>rw[h]<;>simp
theorem PY(a:Int):∃r:Int,0≤r/\r≤2/\L2.atI [P.int 1,.int 2,.int 0,.int 1] (a % 4)=some (.int r):=by
 have h:a % 4=0\/a % 4=1\/a % 4=2\/a % 4=3:=by lia
 rcases h with h|h|h|h<;>rw[h]<;>simp
def sk(v:P):Prop:=∃x lo h a,strOk x/\-1≤lo/\lo≤a/\a≤h/\h≤7/\v=.tup [.str x,.int lo,.int h,.int a]
noncomputable def br:P->Str
 | .tup (.str s::_)=>s
 |_=>""
def C3(v:List P):Prop:=(∀c ∈ v,sk c)/\∀i c,v[i]? = some c->hd (br c)=some (99+i)
@[simp] theorem rH(v:List P):toP 9 (.ref 0) [.lst (v.map .p)]=some (.lst v,[.fz (.lst v)]):=gu rfl
theorem dE(s:List P)(v:P):s.map D.p++[.p v]=(s++[v]).map .p:=by simp
theorem dU{Q:P->Prop}{s:List P}{v:P}(h:∀x ∈ s,Q x)(e:Q v):∀x ∈ s++[v],Q x:=λx a=>(bP.mp a).elim (h x) λa=>by rw[dY.mp a];exact e
theorem G2{Q:Nat->P->Prop}{s:List P}{v:P}(h:∀i x,s[i]? = some x->Q i x)(n:Q s.length v):∀i x,(s++[v])[i]? = some x->Q i x:=λi x a=>by
 by_cases e:i < s.length
 .rw [cA e]at a;exact h i x a
 .rw [cB (by lia)]at a;have:i-s.length=0:=by
   have:=(bz.mp a).1;simp at this;lia
  rw[this]at a;cases a;rw[show i=s.length by lia];exact n
theorem Hr{n:Nat}(r:List Int){f m:Int}(h0:0≤f)(h1:0≤m)(h2:m≤3):∃s:List P,s.length≤m.toNat/\C3 s/\dJ (Y (n+4) "_law_cells") [gG r,.int f,.int m]=some (.lst s):=by
 obtain⟨c,a,ha,E,G⟩:=i7 (n:=n+1) r (k:=2+f) (p:=1) (by lia) (by lia) (by lia);have hm:a % (m+1) < m+1:=eP _ (by lia);have V:0≤a % (m+1):=dL _ (by lia);let Inv:Nat->Lc->aB->Prop:=λi L S=>∃(s:List P)(y H F K:Option D),s.length=i/\C3 s/\L=[U (gG r),J f,J m,qr 0,y,H,F,K]/\S=[.lst (s.map .p)]
 obtain⟨L',S',e,s,y,H,F,K,q,o,rfl,rfl⟩:=cD (g:=ak 4) (b:=f8 (Y (n+3))) (Inv:=Inv) (xs:=Ev.intsFrom 0 (a % (m+1)).toNat) (k:=0)
  (L:=[U (gG r),J f,J m,qr 0,none,none,none,none]) (S:=[.lst []]) (fun i v L S Z Q=>by
   obtain⟨rfl,hi⟩:=ints_get Z;obtain⟨s,y,H,F,K,q,o,rfl,rfl⟩:=Q;obtain⟨c2,d,hd,B,C⟩:=i7 (n:=n+1) r (k:=2+f) (p:=2+(i:Int)) (by lia) (by lia) (by lia);obtain⟨x,hx,j,N⟩:=qO (n:=n) r (k:=2+i) (by lia);obtain⟨lo,l,T,I⟩:=Sh d;obtain⟨u,X,A,M⟩:=PY (d / 4);have z:0 < lo+u-lo+1:=by lia
   have R:s.length≤1000000:=by lia
   generalize hw:d / 16 % (lo+u-lo+1)=w;have hw0:0≤w/\w < lo+u-lo+1:=by subst hw;exact⟨dL _ (by lia),eP _ z⟩
   refine⟨_,[U (gG r),J f,J m,qr 0,J (i:Int),J d,J lo,J (lo+u)],[.lst ((s++[P.tup [.str x,.int lo,.int (lo+u),.int (lo+w)]]).map D.p)],rfl,?_,_,_,_,_,_,by simp;lia,⟨dU o.1 ⟨x,lo,lo+u,lo+w,hx,l,by lia,by lia,by lia,rfl⟩,G2 o.2 ?_⟩,rfl,rfl⟩
   .rw [<- dE];have t:dJ (Y (n+3) "_law_name") [gG r,.int (2+(i:Int))]=some (.str x):=by rw[<- N];rfl
    simp[f8,B,C,t,I,M,z,d9,R,hw]
   .show My.hd x=_;rw[j,q];congr 1;lia) ⟨[],none,none,none,none,rfl,⟨λ_ h=>(by cases h),λ_ _ h=>(by cases h)⟩,rfl,rfl⟩
 refine⟨s,by rw[q,bQ];lia,o,?_⟩;have W:(a % (m+1)).natAbs < 1000000:=by lia
 have z:0 < m+1:=by lia
 rw[tw,aO];simp[lU,E,G,W,z,e]
@[simp] theorem QH:ao "number"=true/\ao "name"=true/\ao "plus"=true/\ao "minus"=true/\ao "times"=true/\ao "true"=true/\ao "not"=true/\ao "or"=true/\ao "and"=true/\ao "is"=true/\ao "="=true/\ao "!="=true/\ao "<"=true/\ao "<="=true/\ao ">"=true/\ao ">="=true/\ao "row"=true/\ao "heap"=true/\ao "ma"=true/\ao "mb"=true/\ao "who"=true/\ao "all"=true/\ao "any"=true/\ao ""=true/\ao "it"=true/\ao "weak"=true/\ao "strong"=true/\ao "step"=true/\ao "lose"=true/\ao "double"=true:=by decide +kernel
def mD(v:P):Prop:=∃s:Str,ao s=true/\v=.str s
theorem mD.ok(h:mD v)(n:Nat):dh n v=true:=by obtain⟨s,h,rfl⟩:=h;simpa using h
theorem iw{xs:List P}(h:∀x ∈ xs,mD x)(n:Nat):dh (n+1) (.lst xs)=true:=Pz λx a=>(h x a).ok n
theorem ba(h:xs≠[]):xs.isEmpty=false:=by cases xs with|nil=>exact absurd rfl h|cons _ _=>rfl
theorem len_pos(h:xs≠[]):0 < xs.length:=A_.mpr h
noncomputable abbrev oq(k:Int):P:=.tup [.str "number",.int k]
noncomputable abbrev pu(y:P):P:=.tup [.str "name",y]
def xM(N:List P)(v:P):Prop:=(∃k,v=oq k)\/∃y ∈ N,v=pu y\/(∃k,v=.tup [.str "plus",pu y,oq k])\/(∃k j:Int,0≤k/\k≤2/\v=.tup [.str "minus",.tup [.str "times",pu y,oq k],oq j])\/v=.tup [.str "minus",oq 1,pu y]
theorem yZ{n:Nat}(d:Int){xs:List P}(b:∀x ∈ xs,mD x):∃v,xM xs v/\dJ (Y (n+2) "_law_sum") [.int d,.lst xs]=some v:=by
 have e:=qT (iw b 19);by_cases s:xs=[]
 .subst s;refine⟨oq (d / 5 % 3),.inl ⟨_,rfl⟩,?_⟩;rw[fw,aO];simp[eC,e]
 rw[ba s]at e;have l:=len_pos s;obtain⟨y,k,a⟩:=dI s (d / 5);have f:d % 5=0\/d % 5=1\/d % 5=2\/d % 5=3\/d % 5=4:=by lia
 rcases f with h|h|h|h|h
 .refine⟨oq (d / 5 % 3),.inl ⟨_,rfl⟩,?_⟩;rw[fw,aO];simp[eC,e,h]
 .refine⟨pu y,.inr ⟨y,k,.inl rfl⟩,?_⟩;rw[fw,aO];simp[eC,e,h,cV,dF,l,a]
 .refine⟨.tup [.str "plus",pu y,oq (d / 20 % 3)],.inr ⟨y,k,.inr (.inl ⟨_,rfl⟩)⟩,?_⟩;rw[fw,aO];simp[eC,e,h,cV,dF,l,a]
 .refine⟨.tup [.str "minus",.tup [.str "times",pu y,oq (d / 20 % 3)],oq (d / 60 % 2)],.inr ⟨y,k,.inr (.inr (.inl ⟨_,_,by lia,by lia,rfl⟩))⟩,?_⟩;rw[fw,aO];simp[eC,e,h,cV,dF,l,a]
 .refine⟨.tup [.str "minus",oq 1,pu y],.inr ⟨y,k,.inr (.inr (.inr rfl))⟩,?_⟩;rw[fw,aO];simp[eC,e,h,cV,dF,l,a]
def ni(N:List P)(v:P):Prop:=∃w y s,y ∈ N/\xM N s/\ao w=true/\v=.tup [.str "is",.str w,pu y,s]
def zn(N:List P)(v:P):Prop:=v=.tup [.str "true"]\/ni N v\/(∃p,ni N p/\v=.tup [.str "not",p])\/∃p z,ni N p/\z ∈ N/\v=.tup [.str "or",p,.tup [.str "and",.tup [.str "true"],.tup [.str "is",.str "=",oq 1,pu z]]]
theorem w6(a:Int):∃w:Str,ao w=true/\L2.atI [P.str "=",.str "!=",.str "<",.str "<=",.str ">",.str ">="] (a % 6)=some (.str w):=by obtain⟨w,hw,e⟩:=zL (xs:=[P.str "=",.str "!=",.str "<",.str "<=",.str ">",.str ">="]) (k:=a % 6) (by lia) (by simp;lia);simp only[aP,eS,kt]at hw;rcases hw with rfl|rfl|rfl|rfl|rfl|rfl<;>exact⟨_,by simp,e⟩
theorem cond_ok{n:Nat}(d:Int){xs:List P}(c:∀x ∈ xs,mD x):∃v,zn xs v/\dJ (Y (n+3) "_law_condition") [.int d,.lst xs]=some v:=by
 have e:=qT (iw c 19);by_cases a:xs=[]
 .subst a;refine⟨.tup [.str "true"],.inl rfl,?_⟩;rw[dq,aO];simp[cG,e]
 rw[ba a]at e;have l:=len_pos a;obtain⟨y,u,b⟩:=dI a (d / 30);obtain⟨z,g,m⟩:=zL (xs:=xs) (k:=0) (by lia) (by lia);obtain⟨w,hw,f⟩:=w6 (d / 5);obtain⟨v,q,s⟩:=yZ (n:=n) (d / 90) c;have p:ni xs (.tup [.str "is",.str w,pu y,v]):=⟨w,y,v,u,q,hw,rfl⟩;by_cases r:d % 5 < 2
 .refine⟨.tup [.str "true"],.inl rfl,?_⟩;rw[dq,aO];simp[cG,e,r]
 have t:d % 5=2\/d % 5=3\/d % 5=4:=by lia
 rcases t with h|h|h
 .refine⟨_,.inr (.inr (.inl ⟨_,p,rfl⟩)),?_⟩;rw[dq,aO];simp[cG,e,h,cV,dF,l,b,f,s]
 .refine⟨_,.inr (.inr (.inr ⟨_,z,p,g,rfl⟩)),?_⟩;rw[dq,aO];simp[cG,e,h,cV,dF,l,b,m,f,s]
 .refine⟨_,.inr (.inl p),?_⟩;rw[dq,aO];simp[cG,e,h,cV,dF,l,b,f,s]
def jg(v:P):Prop:=∃(a b k:Str)(c:Int)(d e:Bool),ao a=true/\ao b=true/\(k="row"\/k="heap")/\1≤c/\c≤3/\v=.tup [.str a,.str b,.str k,.int c,.bl d,.bl e]
noncomputable def rA:P->Str
 | .tup (.str a::_)=>a
 |_=>""
noncomputable def rB:P->Str
 | .tup (_::.str b::_)=>b
 |_=>""
def RD(r h:P):Prop:=¬(rA r=rA h/\rB r=rB h)
def Lf(F:List P)(v:List P):Prop:=v.length≤8/\(∀r ∈ v,jg r/\.str (rA r) ∈ F/\.str (rB r) ∈ F)/\v.Pairwise RD
def R3(F:List P)(v:List P)(i j:Nat):Prop:=∀r ∈ v,∃h x,F[h]? = some (.str (rA r))/\F[x]? = some (.str (rB r))/\(h < i\/(h=i/\x < j))
theorem KW{a b:P}(d:Int):∃w,(w=a\/w=b)/\L2.atI [a,b] (d % 2)=some w:=by obtain⟨w,hw,e⟩:=zL (xs:=[a,b]) (k:=d % 2) (by lia) (by simp;lia);exact⟨w,by simpa using hw,e⟩
theorem jz{xs:List P}{i:Nat}{v:P}(h:(bv 0 xs)[i]? = some v):∃x,xs[i]? = some x/\v=.tup [.int (i:Int),x]:=by obtain⟨x,a,e⟩:=oJ h;exact⟨x,a,by rw[e];simp⟩
theorem bR{a:Type}{xs:List a}{i:Nat}{x:a}(h:xs[i]? = some x):i < xs.length:=(bz.mp h).1
theorem FD{n:Nat}(K:List Int){xs:List P}(hx:∀x ∈ xs,mD x)(V:∀(i j:Nat) x,xs[i]? = some x->xs[j]? = some x->i=j)(hl:xs.length≤4){m:Int}(h1:0 < m)(h3:m≤3):∃s:List P,Lf xs s/\dJ (Y (n+3) "_law_roads") [gG K,.lst xs,.int m]=some (.lst s):=by
 let I:Nat->Option D->Option D->Nat->Lc->aB->Prop:=λii k A j L S=>∃(s:List P)(G M N B:Option D),(Lf xs s/\R3 xs s ii j)/\L=[U (gG K),ql xs,J m,qr 0,k,A,G,M,N,B]/\S=[.lst (s.map .p)]
 let Inv:Nat->Lc->aB->Prop:=λi L S=>∃k A,I i k A 0 L S
 obtain⟨L',S',e,k0,one0,s,G,M,N,B,⟨o,_⟩,rfl,rfl⟩:=cD (g:=aW [ak 4,ak 5]) (b:=f6 (Y (n+2))) (Inv:=Inv) (xs:=bv 0 xs) (k:=0)
  (L:=[U (gG K),ql xs,J m,qr 0,none,none,none,none,none,none]) (S:=[.lst []]) (fun i v L S hv hI=>by
   obtain⟨x,t,rfl⟩:=jz hv;have hi:=bR t;have X:=a9 t;obtain⟨a,ha,rfl⟩:=hx x X;obtain⟨_,_,s,G,M,N,B,o,rfl,rfl⟩:=hI;rw[fG]at o ⊢;obtain⟨L',S',e,hI2⟩:=cD (g:=aW [ak 6,ak 7]) (b:=dH (Y (n+2))) (Inv:=I i (J (i:Int)) (qs a)) (xs:=bv 0 xs) (k:=0)
    (L:=[U (gG K),ql xs,J m,qr 0,J (i:Int),qs a,G,M,N,B]) (S:=[.lst (s.map .p)]) (fun j v L S hv hI=>by
     obtain⟨y,q,rfl⟩:=jz hv;have hj:=bR q;have Z:=a9 q;obtain⟨b,hb,rfl⟩:=hx y Z;obtain⟨s,G,M,N,B,⟨o,f⟩,rfl,rfl⟩:=hI;rw[fG]at f ⊢;obtain⟨c,d,hd,Q,R⟩:=i7 (n:=n) K (k:=4) (p:=30+4 * (i:Int)+(j:Int)) (by lia) (by lia) (by lia);have m4:fY 4 (i:Int)=true:=bU (by decide) (by lia);by_cases hg:0 < d % 4/\s.length < 8
     .obtain⟨w,hw,ew⟩:∃w:Str,(w="row"\/w="heap")/\L2.atI [P.str "row",.str "heap"] (d / 4 % 2)=some (.str w):=by
       obtain⟨w,hw,ew⟩:=KW (a:=.str "row") (b:=.str "heap") (d / 4);rcases hw with rfl|rfl
       .exact⟨_,.inl rfl,ew⟩
       .exact⟨_,.inr rfl,ew⟩
      have W:s.length≤1000000:=by lia
      have c0:0≤d / 8 % m:=dL _ (by lia);have c1:d / 8 % m < m:=eP _ h1;refine⟨_,[U (gG K),ql xs,J m,qr 0,J (i:Int),qs a,J (j:Int),qs b,J d,qs w],[.lst ((s++[P.tup [.str a,.str b,.str w,.int (1+d / 8 % m),.bl (decide (d / 24 % 3=1)),.bl (decide (d / 72 % 3=1))]]).map D.p)],rfl,?_,_,_,_,_,_,⟨⟨by simp;lia,dU o.2.1 ⟨⟨a,b,w,_,_,_,ha,hb,hw,by lia,by lia,rfl⟩,X,Z⟩,vh.mpr ⟨o.2.2,Bf _ _,λr F z hz=>?_⟩⟩,dU (λr F=>?_) ⟨i,j,t,q,.inr ⟨rfl,by lia⟩⟩⟩,rfl,rfl⟩;rotate_left
      .rw [dY.mp hz];rintro ⟨Q,R⟩;obtain⟨C,E,u,l,g3⟩:=f r F;rw[Q]at u;rw[R]at l;have:=V _ _ _ u t
       have:=V _ _ _ l q;lia
      .obtain⟨C,E,u,l,g3⟩:=f r F;exact⟨C,E,u,l,by lia⟩
      rw[<- dE];have H:(s.length:Int) < 8:=by lia
      simp[dH,Q,R,m4,hg.1,cV,H,ew,h1,d9,W]
     .refine⟨_,[U (gG K),ql xs,J m,qr 0,J (i:Int),qs a,J (j:Int),qs b,J d,B],[.lst (s.map D.p)],rfl,?_,s,_,_,_,_,⟨o,λr F=>?_⟩,rfl,rfl⟩;rotate_left
      .obtain⟨C,E,u,l,g3⟩:=f r F;exact⟨C,E,u,l,by lia⟩
      by_cases T:0 < d % 4
      .have H:¬(s.length:Int) < 8:=by lia
       simp[dH,Q,R,m4,T,cV,H]
      .simp [dH,Q,R,m4,T,cV]) ⟨s,G,M,N,B,o,rfl,rfl⟩
   obtain⟨vs',z6,z7,z8,z9,⟨hi1,hi2⟩,hi3,hi4⟩:=hI2;exact⟨_,L',S',rfl,by simpa[f6] using e,_,_,vs',z6,z7,z8,z9,⟨hi1,λr F=>by obtain⟨C,E,u,l,g3⟩:=hi2 r F;exact⟨C,E,u,l,by lia⟩⟩,hi3,hi4⟩) ⟨none,none,[],none,none,none,none,⟨⟨by simp,λ_ h=>(by cases h),List.Pairwise.nil⟩,λ_ h=>(by cases h)⟩,rfl,rfl⟩
 refine⟨s,o,?_⟩;rw[tu,aO];simp[lT,e]
end My
namespace My
open PySem L2 Ev
variable{s:Str}{l:List P}
theorem y8(H:∀c ∈ l,jg c)(L:Lc)(j k:Nat)(t:j < L.length)(h:k≠j)(z:L[k]? = some (qs s))(S:aB) :
  ∃f,bZ (ak j) (aV (O (ac (vv j) fX)) (aN k)) (ac (vv j) cJ) l L S=some (f,S)/\(∀y ∈ f,mD y/\∃r ∈ l,rA r=s/\y=.str (rB r))/\f.length≤l.length:=by
 refine oP (Inv:=λm=>∃d,m=L.set j d) (λv p m u=>?_) ⟨L[j],(gZ t).symm⟩;obtain⟨d,rfl⟩:=u;obtain⟨a,b,n,c,x,e,F,i,o,_,_,rfl⟩:=H v p;have g:((L.set j d).set j (qt [.str a,.str b,.str n,.int c,.bl x,.bl e]))[j]? = some (qt [.str a,.str b,.str n,.int c,.bl x,.bl e]):=by rw[bH (by simpa using t)]
 have w:((L.set j d).set j (qt [.str a,.str b,.str n,.int c,.bl x,.bl e]))[k]? = some (qs s):=by rw[aL (aC h),aL (aC h)];exact z
 exact⟨_,decide (a=s),rfl,⟨_,cW ..⟩,by simp[-cW,g,w],λq=>⟨.str b,by simp[-cW,g],⟨b,i,rfl⟩,_,p,be q,rfl⟩⟩
theorem Dp(H:∀c ∈ l,jg c)(L:Lc)(j k:Nat)(t:j < L.length)(h:k≠j)(z:L[k]? = some (qs s))(S:aB) :
  ∃f,bZ (ak j) (aV (O (ac (vv j) cJ)) (aN k)) (ac (vv j) fX) l L S=some (f,S)/\(∀y ∈ f,mD y/\∃r ∈ l,rB r=s/\y=.str (rA r))/\f.length≤l.length:=by
 refine oP (Inv:=λm=>∃d,m=L.set j d) (λv p m u=>?_) ⟨L[j],(gZ t).symm⟩;obtain⟨d,rfl⟩:=u;obtain⟨a,b,n,c,x,e,i,F,o,_,_,rfl⟩:=H v p;have g:((L.set j d).set j (qt [.str a,.str b,.str n,.int c,.bl x,.bl e]))[j]? = some (qt [.str a,.str b,.str n,.int c,.bl x,.bl e]):=by rw[bH (by simpa using t)]
 have w:((L.set j d).set j (qt [.str a,.str b,.str n,.int c,.bl x,.bl e]))[k]? = some (qs s):=by rw[aL (aC h),aL (aC h)];exact z
 exact⟨_,decide (b=s),rfl,⟨_,cW ..⟩,by simp[-cW,g,w],λq=>⟨.str a,by simp[-cW,g],⟨a,i,rfl⟩,_,p,be q,rfl⟩⟩
theorem xz(h:l.length≤8):l.length≤1000000:=by lia
theorem vZ(d:Int):∃w:Str,(w=a\/w=b)/\L2.atI [P.str a,.str b] (d % 2)=some (.str w):=by
 obtain⟨w,hw,e⟩:=KW (a:=.str a) (b:=.str b) d;rcases hw with rfl|rfl
 .exact⟨_,.inl rfl,e⟩
 .exact⟨_,.inr rfl,e⟩
def si(s:Str)(l u N:List P)(v:P):Prop:=∃(m:Str)(t:P)(w n:Str),ao m=true/\ao n=true/\xM N t/\((w="who"/\P.str n ∈ u)\/((w="all"\/w="any")/\∃r ∈ l,rA r=s/\n=rB r))/\v=.tup [.str m,t,.str w,.str n]
variable{n:Nat}{u:List P}
theorem Fu(d:Int)(hnm:∀x ∈ nm,mD x)(hw:∀x ∈ u,mD x)(hr:∀c ∈ l,jg c)(hrl:l.length≤8){m:Int}(h1:0≤m)(h2:m≤3) :
  ∃t:List P,t.length≤3/\(∀c ∈ t,si s l u nm c)/\dJ (Y (n+3) "_law_sends") [.int d,.str s,.lst nm,.lst u,.lst l,.int m]=some (.lst t):=by
 have hm:d % (m+1) < m+1:=eP _ (by lia);have hm0:0≤d % (m+1):=dL _ (by lia);obtain⟨gs,eg,hgs,hgl⟩:=y8 (s:=s) hr [J d,qs s,ql nm,ql u,ql l,J m,none,none,none,none,none,none,none] 12 1 (by simp) (by lia) rfl [];have W:=lz (iw hw 19);have V:=lz (iw (λx hx=>(hgs x hx).1) 19);let F:Option D->Option D->Option D->Option D->Lc:=λX Z q j=>[J d,qs s,ql nm,ql u,ql l,J m,ql gs,qr 0,X,Z,q,j]
 let Inv:Nat->Lc->aB->Prop:=λi L S=>∃(t:List P)(X Z q j:Option D),t.length≤i/\(∀c ∈ t,si s l u nm c)/\L=F X Z q j/\S=[.lst (t.map .p)]
 obtain⟨L',S',e,t,X,Z,q,j,hc,ho,rfl,rfl⟩:=cD (g:=ak 8) (b:=ci (Y (n+2))) (Inv:=Inv) (xs:=Ev.intsFrom 0 (d % (m+1)).toNat) (k:=0)
  (L:=F none none none none) (S:=[.lst []]) (fun i v L S hv hI=>by
   obtain⟨rfl,hi⟩:=ints_get hv;obtain⟨t,X,Z,q,j,hc,ho,rfl,rfl⟩:=hI;simp only[df];obtain⟨dv,A,y⟩:∃z:Int,(0 < z/\z < 1152921504606846976)/\L2.atI [P.int 4,.int 1000,.int 100000] (i:Int)=some (.int z):=by
    have:i=0\/i=1\/i=2:=by lia
    rcases this with rfl|rfl|rfl
    .exact⟨4,by decide,by simp⟩
    .exact⟨1000,by decide,by simp⟩
    .exact⟨100000,by decide,by simp⟩
   generalize C:d / dv=o;obtain⟨tr,htr,K⟩:=yZ (n:=n) (o / 12 % 300) hnm;obtain⟨mk,hmk,H⟩:=vZ (a:="ma") (b:="mb") o;have omk:ao mk=true:=by rcases hmk with rfl|rfl<;>simp
   have B:t.length≤1000000:=by lia
   by_cases R:u≠[]/\o / 2 % 3=1
   .obtain⟨w,E,ew⟩:=dI R.1 (o / 50);obtain⟨w,N,rfl⟩:=hw w E;have hl:=len_pos R.1;refine⟨_,F (J (i:Int)) (J o) (U tr) (qs mk),[.lst ((t++[P.tup [.str mk,tr,.str "who",.str w]]).map D.p)],rfl,?_,_,_,_,_,_,by simp;lia,dU ho ⟨mk,tr,_,w,omk,N,htr,.inl ⟨rfl,E⟩,rfl⟩,rfl,rfl⟩;rw[<- dE];rw[ba R.1]at W;simp[ci,F,y,A,C,K,H,W,R.2,cV,dF,hl,ew,d9,B]
   .by_cases T:gs=[]
    .refine⟨_,F (J (i:Int)) (J o) (U tr) (qs mk),[.lst (t.map D.p)],rfl,?_,t,_,_,_,_,by lia,ho,rfl,rfl⟩;rw[T]at V;by_cases p:u=[]
     .rw [p]at W;simp[ci,F,y,A,C,K,H,W,V,T,p]
     .rw [ba p]at W;have h3:¬o / 2 % 3=1:=λz=>R ⟨p,z⟩;simp[ci,F,y,A,C,K,H,W,V,T,h3]
    .obtain⟨w,E,ew⟩:=dI T (o / 3);obtain⟨⟨w,N,rfl⟩,r,hrm,hra,Q⟩:=hgs w E;have Q:w=rB r:=by cases Q;rfl
     have hl:=len_pos T;rw[ba T]at V;have fin:∀G:Str,(G="all"\/G="any")->(∀L S,(ac (bq (v2 (vt "all") (vt "any"))) (dg (aD (aG kB (vi 6)) eL) (cP cv (v1 (oW oV eL))))) (F (J (i:Int)) (J o) L S) [.lst (t.map .p)]=some (.str G,[.lst (t.map .p)]))->∃L1 L2 S2,ak 8 (.int (i:Int)) (F X Z q j)=some L1/\ci (Y (n+2)) L1 [.lst (t.map .p)]=some (.nx,L2,S2)/\Inv (0+i+1) L2 S2:=λG I f=>by
      have f:=f (U tr) (qs mk);refine⟨_,F (J (i:Int)) (J o) (U tr) (qs mk),[.lst ((t++[P.tup [.str mk,tr,.str G,.str w]]).map D.p)],rfl,?_,_,_,_,_,_,by simp;lia,dU ho ⟨mk,tr,G,w,omk,N,htr,.inr ⟨I,r,hrm,hra,Q⟩,rfl⟩,rfl,rfl⟩;rw[<- dE];unfold ci;generalize (ac (bq (v2 (vt "all") (vt "any"))) (dg (aD (aG kB (vi 6)) eL) (cP cv (v1 (oW oV eL)))))=fa at f ⊢;simp only[F]at f ⊢;by_cases p:u=[]
      .rw [p]at W f ⊢;simp[y,A,C,K,H,W,V,cV,dF,hl,ew,d9,B,f]
      .rw [ba p]at W;have h3:¬o / 2 % 3=1:=λz=>R ⟨p,z⟩;simp[y,A,C,K,H,W,V,h3,cV,dF,hl,ew,d9,B,f]
     by_cases hi2:i < 2
     .have M:(i:Int) < 2:=by lia
      obtain⟨G,I,f⟩:=vZ (a:="all") (b:="any") (o / 6);have mo:fY (o / 6 % 2) 1=true:=bU (by lia) (by decide);exact fin G I λL S=>by simp[F,hi2,M,cv,kZ,mo,f]
     .have M:¬(i:Int) < 2:=by lia
      have mo:fY (o / 6 % 2) 0=true:=bU (by lia) (by decide);exact fin "all" (.inl rfl) λL S=>by simp[F,hi2,M,cv,kZ,mo]) ⟨[],none,none,none,none,by simp,λ_ h=>(by cases h),rfl,rfl⟩
 refine⟨t,by rw[bQ]at hc;lia,ho,?_⟩;have hq:(d % (m+1)).natAbs < 1000000:=by lia
 have hz:0 < m+1:=by lia
 rw[tt,aO];simp[lS,bO,xz hrl,oY,eg,hq,hz];simp[F]at e;simp[e]
@[simp] theorem PD(L:Lc)(S:aB):di L S=some (none,S):=rfl
@[simp] theorem PC(a:EV)(L:Lc)(S:aB):cC a L S=bL (a L S) λv h=>match v with | .int i=>some (some i,h)|_=>none:=rfl
@[simp] theorem Qg(x:List P)(lo h:Option Int):zB (.lst x) lo h=some (.lst (cut x lo h)):=rfl
@[simp] theorem Qf(x:List P)(lo h:Option Int):zB (.tup x) lo h=some (.tup (cut x lo h)):=rfl
theorem lB:(∀x ∈ cut h lo i,x ∈ h)/\(cut h lo i).length≤h.length:=by
 unfold cut;refine⟨λx a=>?_,?_⟩
 .first
   |exact qv (vg a)
   |exact vg (qv a)
 .simp only[gX,vb];lia
def oA(s:Str)(l u:List P)(v:P):Prop:=v=.non\/∃m a i w,ao m=true/\ao a=true/\ao i=true/\ao w=true/\(∃r ∈ l,rB r=s/\a=rA r)/\(w=""\/P.str w ∈ u)/\v=.tup [.str m,.str a,.str i,.str w]
noncomputable def more:P->List P
 | .non=>[]
 |_=>[.str "it"]
theorem step_if(ψ ι:Str->GF){d0:Int}(A:∀x ∈ m,mD x)(hw:∀x ∈ u,mD x)(hs:∀x ∈ j,mD x/\∃r ∈ l,rB r=s/\x=.str (rA r)) :
  ∃tk f q11 q12,oA s l u tk/\(∀x ∈ f,mD x)/\f.length≤m.length /\
   aX ψ [ql (.int d0::ds),qs s,U rooms,U cells,ql u,ql l,ql m,ql j,U .non,ql m,ql [],none,none,none,none,none,none,none] []
    = some (.nx,[ql (.int d0::ds),qs s,U rooms,U cells,ql u,ql l,ql m,ql j,U tk,ql f,ql (more tk),q11,q12,none,none,none,none,none],[]):=by
 have S:=lz (iw (λx K=>(hs x K).1) 19);have N:=lz (iw A 19);have W:=lz (iw hw 19);by_cases c:j≠[]/\d0 % 3=1
 .rw [ba c.1]at S;obtain⟨s1,T,d⟩:=dI c.1 (d0 / 24);have n:=len_pos c.1;obtain⟨mk,L,k⟩:=vZ (a:="ma") (b:="mb") (d0 / 12);obtain⟨⟨sn,osn,rfl⟩,r,R,Q,o⟩:=hs s1 T;have o:sn=rA r:=by cases o;rfl
  have Z:ao mk=true:=by rcases L with rfl|rfl<;>simp
  have H:∃i f,ao i=true/\(∀x ∈ f,mD x)/\f.length≤m.length/\((m≠[]/\d0 / 3 % 2=1/\L2.atI m (-1)=some (.str i)/\f=cut m none (some (-1)))\/((m=[]\/¬d0 / 3 % 2=1)/\i=""/\f=m)):=by
   by_cases v:m≠[]/\d0 / 3 % 2=1
   .obtain⟨x,K,G⟩:=atI_last v.1;obtain⟨x,ox,rfl⟩:=A x K;exact⟨x,_,ox,λy hy=>A y (lB.1 y hy),lB.2,.inl ⟨v.1,v.2,G,rfl⟩⟩
   .refine⟨_,_,by simp,A,al _,.inr ⟨?_,rfl,rfl⟩⟩;by_cases z:m=[]
    .exact .inl z
    .exact .inr λq=>v ⟨z,q⟩
  have F:∃w,ao w=true/\((u≠[]/\d0 / 6 % 2=1/\P.str w ∈ u/\L2.atI u (d0 / 200 % (u.length:Int))=some (.str w))\/((u=[]\/¬d0 / 6 % 2=1)/\w="")):=by
   by_cases v:u≠[]/\d0 / 6 % 2=1
   .obtain⟨x,K,G⟩:=dI v.1 (d0 / 200);obtain⟨x,ox,rfl⟩:=hw x K;exact⟨x,ox,.inl ⟨v.1,v.2,K,G⟩⟩
   .refine⟨_,by simp,.inr ⟨?_,rfl⟩⟩;by_cases z:u=[]
    .exact .inl z
    .exact .inr λq=>v ⟨z,q⟩
  obtain⟨i,f,hi,hf,I,p1⟩:=H;obtain⟨w,B,E⟩:=F;refine⟨.tup [.str mk,.str sn,.str i,.str w],f,qs i,qs w,.inr ⟨mk,sn,i,w,Z,osn,hi,B,⟨r,R,Q,o⟩,?_,rfl⟩,hf,I,?_⟩
  .rcases E with ⟨_,_,h,_⟩|⟨_,h⟩
   .exact .inr h
   .exact .inl h
  rcases p1 with ⟨g,V,X,rfl⟩|⟨g,rfl,rfl⟩
  .rw [ba g]at N;rcases E with ⟨e,C,_,D⟩|⟨e,rfl⟩
   .rw [ba e]at W;have t:=len_pos e;simp[aX,more,S,c.2,N,V,X,W,C,D,cV,dF,n,t,d,k]
   .rcases e with e|e
    .subst e;simp[aX,more,S,c.2,N,V,X,W,cV,dF,n,d,k]
    .cases p:u.isEmpty<;>(rw[p]at W;simp[aX,more,S,c.2,N,V,X,W,e,cV,dF,n,d,k])
  .rcases g with g|g
   .subst g;rcases E with ⟨e,C,_,D⟩|⟨e,rfl⟩
    .rw [ba e]at W;have t:=len_pos e;simp[aX,more,S,c.2,N,W,C,D,cV,dF,n,t,d,k]
    .rcases e with e|e
     .subst e;simp[aX,more,S,c.2,N,W,cV,dF,n,d,k]
     .cases p:u.isEmpty<;>(rw[p]at W;simp[aX,more,S,c.2,N,W,e,cV,dF,n,d,k])
   .cases M:f.isEmpty <;> rw [M] at N <;> (
    rcases E with ⟨e,C,_,D⟩|⟨e,rfl⟩
    .rw [ba e]at W;have t:=len_pos e;simp[aX,more,S,c.2,N,g,W,C,D,cV,dF,n,t,d,k]
    .rcases e with e|e
     .subst e;simp[aX,more,S,c.2,N,g,W,cV,dF,n,d,k]
     .cases p:u.isEmpty<;>(rw[p]at W;simp[aX,more,S,c.2,N,g,W,e,cV,dF,n,d,k]))
 .refine⟨.non,m,none,none,.inl rfl,A,al _,?_⟩;by_cases z:j=[]
  .subst z;simp[aX,more,S]
  .have z2:¬d0 % 3=1:=λq=>c ⟨z,q⟩;rw[ba z]at S;simp[aX,more,S,z2]
def ua(s:List P):List P:=s.map λc=>.str (br c)
theorem wb(e:∀c ∈ a,sk c):∀x ∈ ua a,mD x:=λx s=>by obtain⟨c,h,rfl⟩:=bj.mp s;obtain⟨x,_,_,_,o,_,_,_,_,rfl⟩:=e c h;exact⟨x,o,rfl⟩
theorem uv(m:∀c ∈ h,sk c)(L:Lc)(j:Nat)(n:j < L.length)(S:aB) :
  bZ (ak j) iN (ac (vv j) fX) h L S=some (ua h,S):=by
 have:=dc (g:=ak j) (c:=iN) (e:=ac (vv j) fX) (S:=S) (p:=fun _=>true) (f:=fun c=>.str (br c)) (xs:=h) (L:=L) (Inv:=fun s=>∃d,s=L.set j d) (fun v r s b=>by
  obtain⟨d,rfl⟩:=b;obtain⟨x,lo,i,a,t,_,_,_,_,rfl⟩:=m v r;have k:((L.set j d).set j (qt [.str x,.int lo,.int i,.int a]))[j]? = some (qt [.str x,.int lo,.int i,.int a]):=by rw[bH (by simpa using n)]
  exact⟨_,rfl,⟨_,cW ..⟩,rfl,λ_=>by simp[-cW,k,br]⟩) ⟨L[j],(gZ n).symm⟩
 rw[this,qu.mpr λ_ _=>rfl];rfl
def K2(N:List P)(c:P):Prop:=∃x t,ao x=true/\xM N t/\c=.tup [.str x,t]
structure Stp(s:Str)(rooms cells whos rs:List P)(rm when tk:P)(chg sn:List P)(rm2:P):Prop where
 h1:rm ∈ rooms
 h2:rm2 ∈ rooms
 wh:zn (ua cells) when
 htk:oA s rs whos tk
 cl:chg.length≤3
 ch:∀c ∈ chg,K2 (ua cells++more tk) c
 sl:sn.length≤3
 hsn:∀c ∈ sn,si s rs whos (ua cells++more tk) c
theorem wc(v:P):∀x ∈ more v,mD x:=λx h=>by
 cases v with
 |non=>cases h
 |_=>exact⟨"it",by simp,by simpa[more] using h⟩
theorem Go(v:P):(more v).length≤1:=by cases v<;>simp[more]
theorem Jg(C K B w:Int)(hrm:∀x ∈ r,mD x)(A:r≠[])(Z:∀c ∈ e,sk c)(hcl:e.length≤3)(hw:∀x ∈ u,mD x)(hr:∀c ∈ l,jg c)(M:l.length≤8) :
  ∃rm V o p T Q,Stp s r e u l rm V o p T Q/\dJ (Y (n+4) "_law_step") [.lst [.int C,.int K,.int B,.int w],.str s,.lst r,.lst e,.lst u,.lst l]=some (.tup [rm,V,o,.lst p,.lst T,Q]):=by
 have e1:=uv Z [ql [.int C,.int K,.int B,.int w],qs s,ql r,ql e,ql u,ql l,none,none,none,none,none,none,none,none,none,none,none,none,none] 18 (by simp) [];have d:=wb Z;have hnl:(ua e).length=e.length:=by simp[ua]
 generalize X:ua e=f at e1 d hnl;obtain⟨snd,e2,hsn,_⟩:=Dp (s:=s) hr [ql [.int C,.int K,.int B,.int w],qs s,ql r,ql e,ql u,ql l,ql f,none,none,none,none,none,none,none,none,none,none,none,none] 18 1 (by simp) (by lia) rfl [];obtain⟨o,fr,q11,q12,htk,hfr,hfl,e3⟩:=step_if (Y (n+3)) (Y (n+2)) (d0:=C) (ds:=[.int K,.int B,.int w]) (rooms:=.lst r) (cells:=.lst e) d hw hsn;have hml:=Go o;have I:=wc o;generalize hM:more o=R at e3 hml I;have y:∀x ∈ f++R,mD x:=λx hx=>(bP.mp hx).elim (d x) (I x)
 have j:f.length+R.length≤1000000:=by lia
 have hcf:e.length≤1000000:=by lia
 let F:Option D->Option D->Lc:=λq t=>[ql [.int C,.int K,.int B,.int w],qs s,ql r,ql e,ql u,ql l,ql f,ql snd,U o,ql fr,ql R,q11,q12,qr 0,q,t,none,none]
 let Inv:Nat->Lc->aB->Prop:=λi L S=>∃(H:List P)(q t:Option D),H.length≤i/\(∀c ∈ H,K2 (f++R) c)/\L=F q t/\S=[.lst (H.map .p)]
 obtain⟨L',S',e4,p,q,t,E,hch,rfl,rfl⟩:=cD (g:=aW [ak 14,ak 15]) (b:=fg (Y (n+3))) (Inv:=Inv) (xs:=bv 0 fr) (k:=0) (L:=F none none) (S:=[.lst []]) (fun i v L S hv hI=>by
   obtain⟨x,N,rfl⟩:=jz hv;have hi:=bR N;obtain⟨x,ox,rfl⟩:=hfr x (a9 N);obtain⟨H,q,t,Z,ho,rfl,rfl⟩:=hI;have G:H.length≤1000000:=by lia
   obtain⟨a,b,ha,hb,ea,eb⟩:∃a b:Int,(0 < a/\a < 1152921504606846976)/\(0 < b/\b < 1152921504606846976)/\L2.atI [P.int 1,.int 1000,.int 1000000] (i:Int)=some (.int a)/\L2.atI [P.int 2,.int 2000,.int 2000000] (i:Int)=some (.int b):=by
    have:i=0\/i=1\/i=2:=by lia
    rcases this with rfl|rfl|rfl
    .exact⟨1,2,by decide,by decide,by simp,by simp⟩
    .exact⟨1000,2000,by decide,by decide,by simp,by simp⟩
    .exact⟨1000000,2000000,by decide,by decide,by simp,by simp⟩
   by_cases h:K / a % 2=1
   .obtain⟨tr,htr,W⟩:=yZ (n:=n+1) (K / b % 300) y;refine⟨_,F (J (i:Int)) (qs x),[.lst ((H++[P.tup [.str x,tr]]).map D.p)],rfl,?_,_,_,_,by simp;lia,dU ho ⟨x,tr,ox,htr,rfl⟩,rfl,rfl⟩;rw[<- dE];simp[fg,F,ea,eb,ha,hb,h,j,W,d9,G]
   .refine⟨_,F (J (i:Int)) (qs x),[.lst (H.map D.p)],rfl,?_,H,_,_,by lia,ho,rfl,rfl⟩;simp[fg,F,ea,ha,h]) ⟨[],none,none,by simp,λ_ h=>(by cases h),rfl,rfl⟩
 rw[h_]at E;obtain⟨z,hz0,hz1,hz2⟩:∃z:Int,0≤z/\z≤1/\cv [.bl (decide (3 < (r.length:Int)))]=some (.int z):=by
  by_cases h:3 < (r.length:Int)
  .exact⟨1,by decide,by decide,by simp[h,cv,kZ]⟩
  .exact⟨0,by decide,by decide,by simp[h,cv,kZ]⟩
 obtain⟨T,hsl,hsd,e5⟩:=Fu (n:=n) B (s:=s) y hw hr M (m:=2+z) (by lia) (by lia);obtain⟨V,hwh,e6⟩:=cond_ok (n:=n) (w % 27000) d;obtain⟨r1,hr1,e7⟩:=dI A (w / 27000);obtain⟨r2,hr2,e8⟩:=dI A (w / 216000);have hl:=len_pos A;refine⟨r1,V,o,p,T,r2,⟨hr1,hr2,X ▸ hwh,htk,by lia,X ▸ hM ▸ hch,hsl,X ▸ hM ▸ hsd⟩,?_⟩;rw[wu,aO];simp only[F]at e4;simp[nH,bO,hcf,xz M,oY,e1,e2,kY,e3,e4,j,cV,dF,hz2,e5,e6,hl,e7,e8,gu]
def GL(s:Str)(r c u l:List P)(v:P):Prop:=∃x a w t h n m,ao x=true/\Stp s r c u l a w t h n m/\v=.tup [.str x,a,w,t,.lst h,.lst n,m]
structure Fam(rs:List P)(nm:Str)(crew:Nat)(rooms cells whos steps:List P):Prop where
 hnm:ao nm=true
 hcr:1≤crew/\crew≤4
 hro:∀x ∈ rooms,mD x
 r0:rooms≠[]
 hce:C3 cells
 cl:cells.length≤3
 hwh:∀x ∈ whos,mD x
 wl:whos.length≤2
 s0:steps≠[]
 sl:steps.length≤8
 hst:∀x ∈ steps,GL nm rooms cells whos rs x
 sd:steps.Pairwise λa b=>br a≠br b
def iB(l:List P)(v:P):Prop:=∃n e r c u s,Fam l n e r c u s/\v=.tup [.str n,.int (e:Int),.lst r,.lst c,.lst u,.lst s]
theorem rZ(s:List Int)(j:Nat)(o:Nat)(L:Lc)(c:j < L.length)(r:L[0]? = some (U (gG s)))(h:0≠j)(u:o+m≤16)(S:aB) :
  ∃a,bZ (ak j) iN (cU (Y (n+3) "_law_name") (v2 cI (ai (vi (o:Int)) (vv j)))) (Ev.intsFrom 0 m) L S=some (a,S)/\(∀y ∈ a,mD y)/\a.length=(Ev.intsFrom 0 m).length:=by
 refine mu (Inv:=λf=>∃d,f=L.set j d) (λv p f t=>?_) ⟨L[j],(gZ c).symm⟩;obtain⟨d,rfl⟩:=t;obtain⟨i,rfl,w⟩:=dn p;obtain⟨x,q,_,e⟩:=qO (n:=n) s (k:=o+i) (by lia);have e:dJ (Y (n+3) "_law_name") [gG s,.int ((o:Int)+(i:Int))]=some (.str x):=by rw[<- e];rfl
 have g:((L.set j d).set j (J (0+(i:Int))))[j]? = some (J (0+(i:Int))):=by rw[bH (by simpa using c)]
 have b:((L.set j d).set j (J (0+(i:Int))))[0]? = some (U (gG s)):=by rw[aL (aC h),aL (aC h)];exact r
 simp only[df]at g b ⊢;exact⟨_,.str x,rfl,⟨_,cW ..⟩,by simp[-cW,g,b,e],x,q,rfl⟩
theorem Ni(s:List Int)(f:Int)(C:0≤f)(D:f < 900)(L:Lc)(P:L.length=14)(F:L[0]? = some (U (gG s)))(x:L[12]? = some (J f))(S:aB) :
  ∃l z o H:Int,bZ (ak 13) iN (cU (Y (n+2) "_law_mix") (v2 (cU (Y (n+2) "_law_cell_at") (v2 cI (ai sX (aD (ai nW (vv 13)) (vi 24))))) (ai (ai (vi 11) nW) (vv 13)))) (Ev.intsFrom 0 4) L S=some ([.int l,.int z,.int o,.int H],S):=by
 obtain⟨B,e,y,h⟩:=mu (Q:=fun v=>∃d:Int,v=.int d) (g:=ak 13) (e:=cU (Y (n+2) "_law_mix") (v2 (cU (Y (n+2) "_law_cell_at") (v2 cI (ai sX (aD (ai nW (vv 13)) (vi 24))))) (ai (ai (vi 11) nW) (vv 13)))) (S:=S) (xs:=Ev.intsFrom 0 4) (Inv:=fun m=>∃d,m=L.set 13 d) (L:=L) (fun v A m K=>by
  obtain⟨d,rfl⟩:=K;obtain⟨i,rfl,E⟩:=dn A;obtain⟨c,r,G,t,q⟩:=i7 (n:=n) s (k:=5+(f+(0+(i:Int))) % 24) (p:=11+f+(0+(i:Int))) (by lia) (by lia) (by lia);have w:((L.set 13 d).set 13 (J (0+(i:Int))))[13]? = some (J (0+(i:Int))):=by rw[bH (by simp[P])]
  have u:((L.set 13 d).set 13 (J (0+(i:Int))))[0]? = some (U (gG s)):=by rw[aL (by decide),aL (by decide)];exact F
  have j:((L.set 13 d).set 13 (J (0+(i:Int))))[12]? = some (J f):=by rw[aL (by decide),aL (by decide)];exact x
  simp only[df]at w u j t q ⊢;exact⟨_,.int r,rfl,⟨_,cW ..⟩,by simp[-cW,w,u,j,t,q],r,rfl⟩) ⟨L[13]'(by lia),(gZ (by lia)).symm⟩
 rw[bQ]at h;match B,h with
 | [a,b,c,d],_=>obtain⟨a,rfl⟩:=y a (by simp);obtain⟨b,rfl⟩:=y b (by simp);obtain⟨c,rfl⟩:=y c (by simp);obtain⟨d,rfl⟩:=y d (by simp);exact⟨a,b,c,d,e⟩
theorem DN(B:List Int)(k:Nat)(hk:k≤3)(hnm:ao N=true)(w:Nat)(hcr:1≤w/\w≤4)(wide:Bool)(hr:∀c ∈ l,jg c)(hrl:l.length≤8) :
  ∃v,iB l v/\(∃tl,v=.tup (.str N::.int (w:Int)::tl))/\dJ (Y (n+5) "_law_family") [gG B,.int (k:Int),.str N,.int (w:Int),.bl wide,.lst l]=some v:=by
 obtain⟨z,t,hz0,hz1,I,ht1,ez,et⟩:∃z t:Int,0≤z/\z≤1/\0 < t/\t≤8/\cv [.bl wide]=some (.int z)/\L2.atI [P.int 3,.int 8] z=some (.int t):=by
  cases wide
  .exact⟨0,3,by decide,by decide,by decide,by decide,by simp[cv,kZ],by simp⟩
  .exact⟨1,8,by decide,by decide,by decide,by decide,by simp[cv,kZ],by simp⟩
 obtain⟨e,hcl,hc,ec⟩:=Hr (n:=n) B (f:=(k:Int)) (m:=2+z) (by lia) (by lia) (by lia);obtain⟨c9,e91⟩:=wU (n:=n+2) B (k:=2+(k:Int)) (by lia);obtain⟨M,ha9,e92⟩:=wd (n:=n+2) c9 (p:=9) (by lia) (by lia);obtain⟨E,ha8,e82⟩:=wd (n:=n+2) c9 (p:=8) (by lia) (by lia);obtain⟨Z,ha7,e72⟩:=wd (n:=n+2) c9 (p:=7) (by lia) (by lia);have h9a:0≤M % t:=dL _ (by lia);have h9b:M % t < t:=eP _ I;have h7a:0≤Z % t:=dL _ (by lia);have h7b:Z % t < t:=eP _ I;have h8a:0≤E % (2+z):=dL _ (by lia);have h8b:E % (2+z) < 2+z:=eP _ (by lia);let A:List (Option D):=[U (gG B),J (k:Int),qs N,J (w:Int),U (.bl wide),ql l]
 obtain⟨r,er,W,o⟩:=rZ (n:=n+1) B 11 4 (A++[ql e,J M,none,none,none,none,none]) (by simp[A]) rfl (by decide) (m:=(1+M % t).toNat) (by lia) [];obtain⟨u,ew,hw,hwl⟩:=rZ (n:=n+1) B 11 10 (A++[ql e,J E,ql r,none,none,none,none]) (by simp[A]) rfl (by decide) (m:=(E % (2+z)).toNat) (by lia) [];rw[bQ]at o hwl;have V:r≠[]:=λq=>by rw[q]at o;simp at o;lia
 let F:Option D->Option D->Option D->Lc:=λQ a d=>A++[ql e,Q,ql r,ql u,qr 0,a,d]
 let Inv:Nat->Lc->aB->Prop:=λi L S=>∃(y:List P)(Q a d:Option D),y.length=i/\((∀c ∈ y,GL N r e u l c)/\∀k v,y[k]? = some v->hd (br v)=some (105+k))/\L=F Q a d/\S=[.lst (y.map .p)]
 obtain⟨L',S',e4,stp,Q,a,d,G,⟨hst,X⟩,rfl,rfl⟩:=cD (g:=ak 11) (b:=fR (Y (n+4))) (Inv:=Inv) (xs:=Ev.intsFrom 0 (1+Z % t).toNat) (k:=0) (L:=F (J E) none none) (S:=[.lst []]) (fun i v L S K hI=>by
   obtain⟨rfl,hi⟩:=ints_get K;obtain⟨y,Q,a,d,hc1,⟨ho,hon⟩,rfl,rfl⟩:=hI;simp only[df];have m1:fY 8 (k:Int)=true:=bU (by decide) (by lia);have m2:fY 4 (8 * (k:Int)+(i:Int))=true:=bU (by decide) (by lia);obtain⟨d0,d1,d2,d3,ed⟩:=Ni (n:=n+2) B (4 * (8 * (k:Int)+(i:Int))) (by lia) (by lia) (F Q (J (i:Int)) (J (4 * (8 * (k:Int)+(i:Int))))++[none]) rfl rfl rfl [.lst (y.map .p)];obtain⟨x,hx,hxh,ex⟩:=qO (n:=n+1) B (k:=8+i) (by lia);have ex:dJ (Y (n+4) "_law_name") [gG B,.int (8+(i:Int))]=some (.str x):=by rw[<- ex];rfl
   obtain⟨rm,wh,tk,H,sn,C,hys,es⟩:=Jg (n:=n) d0 d1 d2 d3 (s:=N) W V hc.1 (by lia) hw hr hrl;have T:y.length≤1000000:=by lia
   have R:kX (.tup [.str x]) (.tup [rm,wh,tk,.lst H,.lst sn,C])=some (.tup [.str x,rm,wh,tk,.lst H,.lst sn,C]):=rfl;refine⟨_,F (ql [.int d0,.int d1,.int d2,.int d3]) (J (i:Int)) (J (4 * (8 * (k:Int)+(i:Int)))),[.lst ((y++[P.tup [.str x,rm,wh,tk,.lst H,.lst sn,C]]).map D.p)],rfl,?_,_,_,_,_,by simp;lia,⟨dU ho ⟨x,rm,wh,tk,H,sn,C,hx,hys,rfl⟩,fun k v K=>by
    rcases Nat.lt_or_ge k y.length with hk|hk
    .rw [cA hk]at K;exact hon k v K
    .rw [cB hk]at K;have hk0:k-y.length=0:=by
      rcases Nat.eq_zero_or_pos (k-y.length) with h|h
      .exact h
      .rw [qw (by simp;lia)]at K;cases K
     rw[hk0]at K;cases K;show hd x=_;rw[hxh];congr 1;lia⟩,rfl,rfl⟩
   rw[<- dE];simp only[F,A,mO,fD]at ed;simp[fR,F,A,m1,m2,bO,bQ,oY,ed,ex,es,R,d9,T]) ⟨[],_,none,none,rfl,⟨λ_ h=>(by cases h),λ_ _ h=>(by simp at h)⟩,rfl,rfl⟩
 rw [bQ] at G;refine⟨_,⟨N,w,r,e,u,stp,⟨hnm,hcr,W,V,hc,by lia,hw,by lia,fun q=>by rw [q] at G;simp at G;lia,by lia,hst,vn.mpr fun i j hi hj hij q=>by
  have h1:=X i _ (bI hi);have h2:=X j _ (bI hj);rw[q,h2]at h1;have:=d4 h1
  lia⟩,rfl⟩,⟨_,rfl⟩,?_⟩
 have hz2:0 < 2+z:=by lia
 have q1:(1+M % t).natAbs < 1000000:=by lia
 have q2:(1+Z % t).natAbs < 1000000:=by lia
 have q3:(E % (2+z)).natAbs < 1000000:=by lia
 have q4:(1+M % t).toNat≤1000000:=by lia
 have q5:(E % (2+z)).toNat≤1000000:=by lia
 rw[sF,aO];simp only[F,A,mO,fD]at e4 er ew;simp only[show((4:Nat):Int)=4 from rfl]at er;simp only[show((10:Nat):Int)=10 from rfl]at ew;simp[k8,ez,et,ec,e91,e92,e82,e72,I,hz2,q1,q2,q3,q4,q5,bO,bQ,oY,er,ew,e4]
theorem xH(c:List Int)(j:Nat)(L:Lc)(o:j < L.length)(H:L[0]? = some (U (gG c)))(b:0≠j)(K:m≤16)(S:aB) :
  ∃q,bZ (ak j) iN (cU (Y (n+3) "_law_name") (v2 cI (vv j))) (Ev.intsFrom 0 m) L S=some (q,S)/\(∀y ∈ q,mD y)/\(∀(i:Nat) y,q[i]? = some y->∃x,y=.str x/\hd x=some (97+i))/\q.length=(Ev.intsFrom 0 m).length:=by
 let f:P->P:=λv=>(dJ (Y (n+3) "_law_name") [gG c,v]).getD .non
 have w:∀i,i < m->∃x,ao x=true/\hd x=some (97+i)/\dJ (Y (n+3) "_law_name") [gG c,.int (i:Int)]=some (.str x)/\f (.int (i:Int))=.str x:=λi e=>by obtain⟨x,t,u,r⟩:=qO (n:=n) c (k:=i) (by lia);exact⟨x,t,u,r,by simp[f,r]⟩
 refine⟨(Ev.intsFrom 0 m).map f,?_,λy a=>?_,λi y a=>?_,by simp⟩
 .rw [dc (p:=λ_=>true) (f:=f) (Inv:=λg=>∃d,g=L.set j d) (λv h g F=>?_) ⟨L[j],(gZ o).symm⟩,qu.mpr λ_ _=>rfl];obtain⟨d,rfl⟩:=F;obtain⟨i,rfl,e⟩:=dn h;obtain⟨x,t,_,r,s⟩:=w i e;have l:((L.set j d).set j (J (0+(i:Int))))[j]? = some (J (0+(i:Int))):=by
   rw[bH (by simpa using o)]
  have z:((L.set j d).set j (J (0+(i:Int))))[0]? = some (U (gG c)):=by rw[aL (aC b),aL (aC b)];exact H
  simp only[df]at l z ⊢;exact⟨_,rfl,⟨_,cW ..⟩,rfl,λ_=>by rw[s];simp[-cW,l,z,r]⟩
 .obtain⟨v,h,rfl⟩:=bj.mp a;obtain⟨i,rfl,e⟩:=dn h;obtain⟨x,t,_,_,s⟩:=w i e;rw[df,s];exact⟨x,t,rfl⟩
 .rw [dC]at a;cases h:(Ev.intsFrom 0 m)[i]? with
  |none=>rw[h]at a;cases a
  |some v=>rw[h]at a;cases a;obtain⟨rfl,e⟩:=ints_get h;obtain⟨x,_,u,_,s⟩:=w i e;exact⟨x,by rw[df,s],u⟩
noncomputable def jk:P->Nat
 | .tup (_::.int c::_)=>c.toNat
 |_=>0
def GK(v:P):Prop:=∃(k f s:Str),(k="weak"\/k="strong")/\ao f=true/\ao s=true/\v=.tup [.str k,.str f,.str s]
structure Pln(fams roads wishes:List P):Prop where
 hf:∀f ∈ fams,iB roads f
 cr:∃c,(∀f ∈ fams,jk f≤c)/\fams.length * c≤4
 f0:1≤fams.length/\fams.length≤4
 hr:∀r ∈ roads,jg r
 ra:∀r ∈ roads,(∃f ∈ fams,br f=rA r)/\∃f ∈ fams,br f=rB r
 rl:roads.length≤8
 hw:∀w ∈ wishes,GK w
 wl:wishes.length≤6
 rd:roads.Pairwise RD
theorem qV(f:h->a)(x:List h)(i:Int):L2.atI (x.map f) i=(L2.atI x i).map f:=by
 unfold L2.atI;rw[bn];cases L2.Cy x.length i with
 |none=>rfl
 |some j=>simp
theorem JA(X:List Int):∃l H y,Pln l H y/\dJ (Y (n+6) "_law_plan") [gG X,.int 3]=some (.tup [.lst l,.lst H,.lst y]):=by
 obtain⟨o,e0⟩:=wU (n:=n+3) X (k:=0) (by lia);generalize hwd:decide (o / 64 % 8=1)=wide;obtain⟨z,t,hz0,hz1,ht0,ht1,ez,et⟩:∃z t:Int,0≤z/\z≤1/\0 < t/\t≤4/\cv [.bl wide]=some (.int z)/\L2.atI [P.int 2,.int 4] z=some (.int t):=by
  cases wide
  .exact⟨0,2,by decide,by decide,by decide,by decide,by simp[cv,kZ],by simp⟩
  .exact⟨1,4,by decide,by decide,by decide,by decide,by simp[cv,kZ],by simp⟩
 have hm0:0≤o % t:=dL _ (by lia);have hm1:o % t < t:=eP _ ht0;obtain⟨m,hm⟩:∃m:Nat,1+o % t=(m:Int):=⟨(1+o % t).toNat,by lia⟩;have hm2:1≤m/\m≤4:=by lia
 obtain⟨K,en,hnm,hnh,hnl⟩:=xH (n:=n+2) X 8 [U (gG X),J 3,J o,U (.bl wide),J (m:Int),none,none,none,none,none,none,none,none,none] (by simp) rfl (by decide) (m:=m) (by lia) [];rw [bQ] at hnl;obtain⟨H,⟨hrl,hr,hrd⟩,er⟩:=FD (n:=n+2) X hnm (fun i j x h1 h2=>by
  obtain⟨a,rfl,ha⟩:=hnh i _ h1;obtain⟨b,e,hb⟩:=hnh j _ h2;cases e;rw[ha]at hb;have:=d4 hb
  lia) (by lia) (m:=2+z) (by lia) (by lia)
 obtain⟨b,hb0,hb1,hbm,eb⟩:∃b:Int,0 < b/\b≤4/\m * b.toNat≤4/\L2.atI [P.int (3+z),.int 2,.int 1,.int 1] ((m:Int)-1)=some (.int b):=by
  have:m=1\/m=2\/m=3\/m=4:=by lia
  rcases this with rfl|rfl|rfl|rfl
  .exact⟨3+z,by lia,by lia,by lia,by simp⟩
  .exact⟨2,by decide,by decide,by decide,by simp⟩
  .exact⟨1,by decide,by decide,by decide,by simp⟩
  .exact⟨1,by decide,by decide,by decide,by simp⟩
 let F:Option D->Option D->Option D->Option D->Option D->Option D->Lc:=λV Z B q11 Q R=>[U (gG X),J 3,J o,U (.bl wide),J (m:Int),ql K,ql H,qr 0,V,Z,B,q11,Q,R]
 let Inv:Nat->Lc->aB->Prop:=λi L S=>∃(I:List P)(V Z B:Option D),I.length=i/\(∀c ∈ I,iB H c/\jk c≤b.toNat)/\(∀j x,K[j]? = some x->j < i->∃f ∈ I,x=.str (br f))/\L=F V Z B none none none/\S=[.lst (I.map .p)]
 obtain⟨L',S',e1,l,V,Z,B,hfl,hfa,hfn,rfl,rfl⟩:=cD (g:=aW [ak 8,ak 9]) (b:=gR (Y (n+5))) (Inv:=Inv) (xs:=bv 0 K) (k:=0) (L:=F none none none none none none) (S:=[.lst []]) (fun i v L S hv hI=>by
   obtain⟨x,hx1,rfl⟩:=jz hv;have hi:=bR hx1;obtain⟨nm,hnm1,rfl⟩:=hnm x (a9 hx1);obtain⟨I,V,Z,B,hc,ho,hon,rfl,rfl⟩:=hI;obtain⟨a,ha,ea⟩:∃a:Int,(0 < a/\a < 1152921504606846976)/\L2.atI [P.int 4,.int 12,.int 16,.int 16] (i:Int)=some (.int a):=by
    have:i=0\/i=1\/i=2\/i=3:=by lia
    rcases this with rfl|rfl|rfl|rfl
    .exact⟨4,by decide,by simp⟩
    .exact⟨12,by decide,by simp⟩
    .exact⟨16,by decide,by simp⟩
    .exact⟨16,by decide,by simp⟩
   have hb2:0≤o / a % b:=dL _ (by lia);have hb3:o / a % b < b:=eP _ hb0;obtain⟨cr,hcr⟩:∃cr:Nat,1+o / a % b=(cr:Int):=⟨(1+o / a % b).toNat,by lia⟩;obtain⟨v,hv2,⟨tl,hv3⟩,ev⟩:=DN (n:=n) X i (by lia) hnm1 cr (by lia) wide (λr h=>(hr r h).1) hrl;have N:I.length≤1000000:=by lia
   refine⟨_,F (J (i:Int)) (qs nm) (J (cr:Int)) none none none,[.lst ((I++[v]).map D.p)],rfl,?_,_,_,_,_,by simp;lia,dU ho ⟨hv2,?_⟩,λj x hj hji=>?_,rfl,rfl⟩
   .rw [<- dE];simp[gR,F,ea,ha,ez,eb,hb0,hcr,ev,d9,N]
   .rw [hv3];simp[jk];lia
   .by_cases hjj:j < i
    .obtain⟨f,hf,e⟩:=hon j x hj (by lia);exact⟨f,iU _ hf,e⟩
    .have:j=i:=by lia
     subst this;rw[hx1]at hj;cases hj;exact⟨v,by simp,by rw[hv3];rfl⟩) ⟨[],none,none,none,rfl,λ_ h=>(by cases h),λ_ _ _ h=>(by lia),rfl,rfl⟩
 have T:l.length=m:=by rw[hfl,h_,hnl];lia
 have hf0:l≠[]:=λq=>by rw[q]at T;simp at T;lia
 have W:∀x ∈ K,∃f ∈ l,x=.str (br f):=λx hx=>by obtain⟨j,hj,e⟩:=mQ.mp hx;exact hfn j x (by rw[bI hj,e]) (by rw[h_];lia)
 let Inv3:Nat->Lc->aB->Prop:=λi L S=>∃(I:List P)(V Q R:Option D),I.length=i/\(∀c ∈ I,GK c)/\L=F V Z B (qr 1) Q R/\S=[.lst (l.map .p),.lst (I.map .p)]
 obtain⟨w,hw0,hw1,ew⟩:∃w:Int,0≤w/\w≤1/\cv [.bl (wide && decide (o % 3=1))]=some (.int w):=by
  cases (wide && decide (o % 3=1))
  .exact⟨0,by decide,by decide,rfl⟩
  .exact⟨1,by decide,by decide,rfl⟩
 obtain⟨L',S',e2,y,q8',Q,R,hwl,hwi,rfl,rfl⟩:=cD (g:=ak 8) (b:=gQ (Y (n+5))) (Inv:=Inv3) (xs:=Ev.intsFrom 0 (o / 48 % 3+4 * w).toNat) (k:=0) (L:=F V Z B (qr 1) none none) (S:=[.lst (l.map .p),.lst []]) (fun i v L S hv hI=>by
   obtain⟨rfl,hi⟩:=ints_get hv;obtain⟨I,V,Q,R,hc,ho,rfl,rfl⟩:=hI;simp only[df];obtain⟨c,d,hd,e3,e4⟩:=i7 (n:=n+3) X (k:=4) (p:=20+(i:Int)) (by lia) (by lia) (by lia);obtain⟨f,hf,ef⟩:=dI hf0 d;rw[T]at ef;obtain⟨nm,M,E,C,u,A,G,rfl⟩:=(hfa f hf).1;obtain⟨s,hs,es⟩:=dI G.s0 (d / 8);have hls:=len_pos G.s0;obtain⟨x,rm,wh,tk,chg,sn,rm2,hx,hys,rfl⟩:=G.hst s hs;obtain⟨mk,hmk,emk⟩:=vZ (a:="weak") (b:="strong") (d / 4);have N:I.length≤1000000:=by lia
   have ef2:L2.atI (l.map D.p) (d % (m:Int))=qt [.str nm,.int (M:Int),.lst E,.lst C,.lst u,.lst A]:=by rw[qV,ef];rfl
   have hmp:(0:Int) < (m:Int):=by lia
   have hmp2:0 < m:=by lia
   refine⟨_,F (J (i:Int)) Z B (qr 1) (J d) (qt [.str nm,.int (M:Int),.lst E,.lst C,.lst u,.lst A]),[.lst (l.map .p),.lst ((I++[P.tup [.str mk,.str nm,.str x]]).map D.p)],rfl,?_,_,_,_,_,by simp;lia,dU ho ⟨mk,nm,x,hmk,G.hnm,hx,rfl⟩,rfl,rfl⟩;rw[<- dE];have e5:L2.atI [P.str nm,.int (M:Int),.lst E,.lst C,.lst u,.lst A] 5=some (.lst A):=bB (by decide) rfl;simp[gQ,F,e3,e4,hmp,hmp2,ef2,e5,emk,cV,dF,hls,es,d9,N]) ⟨[],_,none,none,rfl,λ_ h=>(by cases h),rfl,rfl⟩
 rw[bQ]at hwl;refine⟨l,H,y,⟨λf h=>(hfa f h).1,⟨b.toNat,λf h=>(hfa f h).2,by rw[T];exact hbm⟩,by lia,λr h=>(hr r h).1,λr h=>⟨?_,?_⟩,hrl,hwi,by lia,hrd⟩,?_⟩
 .obtain⟨f,hf,e⟩:=W _ (hr r h).2.1;exact⟨f,hf,(P.str.inj e).symm⟩
 .obtain⟨f,hf,e⟩:=W _ (hr r h).2.2;exact⟨f,hf,(P.str.inj e).symm⟩
 have q1:(o / 48 % 3+4 * w).natAbs < 1000000:=by lia
 have q2:fY 4 w=true:=bU (by decide) (by lia);have q3:m < 1000000:=by lia
 have q4:m≤1000000:=by lia
 have t0:toP 9 (.ref 0) [.lst (l.map .p),.lst (y.map .p)]=some (.lst l,[.fz (.lst l),.lst (y.map .p)]):=gu rfl;have t1:toP 9 (.ref 1) [.fz (.lst l),.lst (y.map .p)]=some (.lst y,[.fz (.lst l),.fz (.lst y)]):=gu rfl;rw[wv,aO];simp only[F]at e1 e2;cases wide
 .simp only[u0]at ew;have hzw:z=w:=by rw[ez]at ew;cases ew;rfl
  subst hzw;simp[kg,e0,hwd,ez,et,ht0,hm,q1,q2,q3,q4,bO,bQ,oY,en,er,e1,ew,e2,t0,t1]
 .simp only[uZ]at ew;simp[kg,e0,hwd,ez,et,ht0,hm,q1,q2,q3,q4,bO,bQ,oY,en,er,e1,ew,e2,t0,t1]
end My
namespace My
open PySem L2 Ev
section
variable{m:List P}
def hw:Nat->List P->List (Nat×P)
 |_,[]=>[]
 |k,f::r=>List.replicate (jk f) (k,f)++hw (k+1) r
theorem iB.crew(h:iB m f):jk f≤4:=by obtain⟨n,c,r,a,w,s,x,rfl⟩:=h;simpa[jk] using x.hcr.2
theorem GW:∀{a:List P}(k:Nat),(∀f ∈ a,iB m f)->(hw k a).length≤4 * a.length
 | [],k,_=>by simp[hw]
 |f::r,k,h=>by have:=GW (a:=r) (k+1) λx e=>h x (aI _ e);have c:=(h f aH).crew;simp[hw];lia
theorem oF:∀{a:List P}{k:Nat}{x:Nat×P},x ∈ hw k a->∃j,x.1=k+j/\a[j]? = some x.2
 | [],k,x,h=>by simp[hw]at h
 |f::r,k,x,h=>by
  unfold hw at h;rcases bP.mp h with h|h
  .obtain⟨_,rfl⟩:=qo.mp h;exact⟨0,by simp,by simp⟩
  .obtain⟨j,s,e⟩:=oF h;exact⟨j+1,by lia,by simpa using e⟩
def homes(f:List P):List P:=(hw 0 f).map λx=>.int (x.1:Int)
def bM(f:List P):List P:=(hw 0 f).map (·.2)
theorem kn(S:aB)(x:SO):(S++[x])[S.length]? = some x:=by simp
theorem jE(k:Nat):((k+1:Nat):Int)=(k:Int)+1:=by lia
theorem CF(y K:Str->GF)(S:aB)(l:P):∀(b:List P)(k:Nat)(n:List P)(g i:Option D),(∀f ∈ b,iB m f)->n.length+4 * b.length≤1000 ->
  ∃q v,bu (aW [ak 2,ak 3]) (fj y) (bv (k:Int) b) [U l,qr S.length,g,i] (S++[.lst (n.map .p)])=some (.nx,[U l,qr S.length,q,v],S++[.lst ((n++(hw k b).map λx=>P.int (x.1:Int)).map .p)])
 | [],k,n,g,i,_,_=>⟨g,i,by simp[bv,bu,hw]⟩
 |f::r,k,n,g,i,h,H=>by
  obtain⟨u,c,o,a,w,s,z,rfl⟩:=h f aH;have A:=z.hcr.2;simp only[aQ]at H;obtain⟨q,v,e⟩:=CF y K S l r (k+1) (n++List.replicate c (P.int (k:Int))) (J (k:Int)) (qt [.str u,.int (c:Int),.lst o,.lst a,.lst w,.lst s]) (λx F=>h x (aI _ F)) (by simp;lia);refine⟨q,v,?_⟩;have j:(hw k (.tup [.str u,.int (c:Int),.lst o,.lst a,.lst w,.lst s]::r)).map (λx=>P.int (x.1:Int))=List.replicate c (P.int (k:Int))++(hw (k+1) r).map (λx=>P.int (x.1:Int)):=by simp[hw,jk]
  rw[j,<- gi];unfold bv;rw[jE]at e;refine(cg (h:=[U l,qr S.length,J (k:Int),qt [.str u,.int (c:Int),.lst o,.lst a,.lst w,.lst s]]) (L2:=[U l,qr S.length,J (k:Int),qt [.str u,.int (c:Int),.lst o,.lst a,.lst w,.lst s]]) (x:=S++[.lst ((n++List.replicate c (P.int (k:Int))).map .p)]) rfl ?_).trans e;have d:c≤1000000:=by lia
  have p:c < 1000000:=by lia
  have t:n.length+c≤1000000:=by lia
  simp[fj,d9,d,p,t]
theorem K8(h:∀f ∈ s,iB m f)(l:s.length≤4)(r w:P)(S:aB):Y (n+2) "families_of" [.p (.tup [.lst s,r,w])] S=some (.ref S.length,S++[.lst ((homes s).map .p)]):=by obtain⟨q,a,e⟩:=CF (Y (n+1)) (Y n) S (.tup [.lst s,r,w]) s 0 [] none none h (by simp;lia);rw[pC];simp only[fD,gc]at e;have x:=e;rw[show((0:Nat):Int)=0 from rfl]at x;simp[eN,kz,x,homes]
theorem CD(h:∀f ∈ s,iB m f)(l:s.length≤4)(r w:P):dJ (Y (n+2) "families_of") [.tup [.lst s,r,w]]=some (.lst (homes s)):=by unfold dJ;rw[aE,gc,K8 (n:=n) h l r w []];simp
def aY(f:List P):LS:=(bM f).map br
theorem nj(h:∀f ∈ s,iB m f)(a:f ∈ bM s):iB m f:=by unfold bM at a;obtain⟨x,n,rfl⟩:=bj.mp a;obtain⟨j,_,e⟩:=oF n;exact h _ (a9 e)
noncomputable def eJ(N:LS)(s:Str):List Nat:=(List.range N.length).filter λi=>decide (N[i]? = some s)
theorem CI:∀(xs:List P)(k:Nat),bv (k:Int) xs=(A2 k xs.length).map λi=>.tup [.int (i:Int),(xs[i-k]?).getD .non]
 | [],k=>rfl
 |x::r,k=>by
  unfold bv;have h:=CI r (k+1);rw[jE]at h;rw[h,aQ,vc,aE];simp only[Nat.sub_self];congr 1;refine A' λi a=>?_
  have:=(List.mem_range'_1.mp a).1;rw[show i-k=(i-(k+1))+1 by lia,List.getElem?_cons_succ]
theorem He(xs:List P):bv 0 xs=(List.range xs.length).map λi=>.tup [.int (i:Int),(xs[i]?).getD .non]:=by have:=CI xs 0;rw[List.range_eq_range'];simpa using this
noncomputable def pr(road:P)(n o:Nat):P:=.tup [road,.int (n:Int),.int (o:Int)]
def D_(N:LS)(road:P):List P:=(eJ N (rA road)).flatMap λn=>((eJ N (rB road)).filter λo=>!decide (n=o)).map λo=>pr road n o
def bX(N:LS)(r:List P):List P:=r.flatMap (D_ N)
noncomputable def cx(s:List Nat):List P:=s.map λ(i:Nat)=>P.int (i:Int)
theorem ie(N:LS)(s:Str):(eJ N s).length≤N.length:=by unfold eJ;exact aF (gY _ _) (by simp)
theorem B5(n:Nat)(road:P)(os:List Nat):((os.filter λo=>!decide (n=o)).map λo=>pr road n o).length≤os.length:=by rw[bn];exact gY _ _
theorem Ce(N:LS)(road:P)(os:List Nat)(h:os.length≤16):∀(s:List Nat),(s.flatMap λn=>(os.filter λo=>!decide (n=o)).map λo=>pr road n o).length≤16 * s.length
 | []=>by simp
 |i::s=>by
  have:=Ce N road os h s;have:=B5 i road os
  simp only[jU,bx,aQ];lia
theorem CA:∀{a:List P}(k:Nat),(∀f ∈ a,jk f≤e)->(hw k a).length≤a.length * e
 | [],k,_=>by simp[hw]
 |f::r,k,h=>by have:=CA (a:=r) (k+1) λx s=>h x (aI _ s);have c:=h f aH;simp[hw,Nat.add_mul];lia
theorem jy(h:Pln f e s):(bM f).length≤4:=by
 obtain⟨c,x,a⟩:=h.cr;have:=CA 0 x
 unfold bM;simp;lia
theorem oH(h:Pln f e s):(aY f).length≤4:=by unfold aY;rw[bn];exact jy h
end
section
variable{m:List P}
theorem GY(h:e ∈ homes s):∃p f,e=.int ((p:Nat):Int)/\s[p]? = some f/\f ∈ bM s:=by unfold homes at h;obtain⟨x,a,rfl⟩:=bj.mp h;obtain⟨j,n,k⟩:=oF a;exact⟨x.1,x.2,rfl,by rw[n,fG];exact k,bj.mpr ⟨x,a,rfl⟩⟩
theorem DG(h:∀p x,s[p]? = some x->g (.int ((p:Nat):Int))=f x):(homes s).map g=(bM s).map f:=by
 unfold homes bM;rw[mL,mL];refine A' λx n=>?_
 obtain⟨j,e,a⟩:=oF n;exact h x.1 x.2 (by rw[e,fG];exact a)
theorem i6(xs:List e):xs.filter (λ_=>true)=xs:=qu.mpr λ_ _=>rfl
theorem oG:(homes f).length=(bM f).length:=by simp[homes,bM]
theorem b_(h:xs[e]? = some s):L2.atI xs ((e:Nat):Int)=some s:=bB (by lia) (by simpa using h)
theorem FR(q:∀f ∈ s,iB m f)(r w:P)(S:aB):bZ (ak 7) iN (ac (ac (ac cI fX) lF) fX) (homes s) [qt [.lst s,r,w],none,none,none,none,none,none,none] S=some ((aY s).map .str,S):=by
 rw[dc (p:=λ_=>true) (f:=λv=>match v with | .int i=>(match s[i.toNat]? with|some f=>.str (br f)|none=>.non)|_=>.non) (Inv:=λL=>∃d,L=[qt [.lst s,r,w],none,none,none,none,none,none,d]) (λv g L b=>?_) ⟨none,rfl⟩]
 .rw [i6,DG (f:=λf=>.str (br f)) λp x j=>by simp[j]];simp[aY]
 .obtain⟨d,rfl⟩:=b;obtain⟨p,f,rfl,n,h⟩:=GY g;obtain⟨l,c,o,a,k,t,u,rfl⟩:=nj q h;have e:=b_ n;exact⟨[qt [.lst s,r,w],none,none,none,none,none,none,J (p:Int)],rfl,⟨_,rfl⟩,rfl,λ_=>by simp[e,n,br]⟩
def oth(N:LS)(s:Str)(n:Nat):List Nat:=(eJ N s).filter λo=>!decide (n=o)
theorem Ds(N:LS)(a b:Str)(k:P)(c:Int)(x s:Bool)(l r:D)(o:Nat)(q n:Option D)(S:aB):bZ (ak 7) (jI (fq vO lr) (aV (O (ac ce lF)) (O (ac eK cJ)))) lF (Ev.intsFrom 0 N.length)
  [some l,ql (N.map .str),some r,qt [.str a,.str b,k,.int c,.bl x,.bl s],J (o:Int),q,n,none] S=some (cx (oth N b o),S):=by
 rw[dc (p:=λv=>match v with | .int i=>(!decide (o=i.toNat)) && decide (N[i.toNat]? = some b)|_=>false) (f:=id) (Inv:=λL=>∃d,L=[some l,ql (N.map .str),some r,qt [.str a,.str b,k,.int c,.bl x,.bl s],J (o:Int),q,n,d]) (λv j L w=>?_) ⟨none,rfl⟩]
 .congr 2;unfold Ev.intsFrom cx oth eJ;rw[u7,u5,List.filter_filter];simp only[df];congr 1
 .obtain⟨d,rfl⟩:=w;obtain⟨i,rfl,u⟩:=dn j;simp only[df];have g:N[i]? = some N[i]:=bI u;have e:L2.atI (N.map P.str) (i:Int)=some (.str N[i]):=b_ (by rw[dC,g];rfl);refine⟨[some l,ql (N.map .str),some r,qt [.str a,.str b,k,.int c,.bl x,.bl s],J (o:Int),q,n,J (i:Int)],rfl,⟨_,rfl⟩,?_,λ_=>by simp⟩;by_cases h:o=i
  .simp [h]
  .have m:¬(i:Int)=(o:Int):=by lia
   have t:¬i=o:=λz=>h z.symm;simp[h,m,t,e,g];first|done|exact decide_eq_decide.mpr Iff.rfl
theorem Jw(road:P)(n:Nat)(L:Lc)(l:L.length=8)(g:L[3]? = some (U road))(x:L[4]? = some (J (n:Int)))(os:List Nat)(S:aB):bZ (ak 7) iN (aR (v3 eK jr lF)) (cx os) L S=some (os.map λo=>pr road n o,S):=by
 rw[dc (p:=λ_=>true) (f:=λv=>.tup [road,.int (n:Int),v]) (Inv:=λh=>∃d,h=L.set 7 d) (λv b h a=>?_) ⟨L[7],(gZ (by lia)).symm⟩]
 .rw [i6];unfold cx pr;rw[mL];rfl
 .obtain⟨d,rfl⟩:=a;have k:((L.set 7 d).set 7 (U v))[7]? = some (U v):=by rw[bH (by simp[l])]
  have e:((L.set 7 d).set 7 (U v))[3]? = some (U road):=by rw[aL (by decide),aL (by decide)];exact g
  have s:((L.set 7 d).set 7 (U v))[4]? = some (J (n:Int)):=by rw[aL (by decide),aL (by decide)];exact x
  exact⟨_,rfl,⟨_,cW ..⟩,rfl,λ_=>by simp[-cW,k,e,s]⟩
def o5(N:LS)(road:P)(n:Nat):List P:=if decide (N[n]? = some (rA road))=true then (oth N (rB road) n).map λo=>pr road n o else []
theorem Du(N:LS)(road:P)(o:Nat)(h:N.length≤16):(o5 N road o).length≤16:=by
 unfold o5;split
 .have x:=B5 o road (eJ N (rB road));have a:=ie N (rB road);unfold oth;lia
 .simp
theorem R8(E Q:Str->GF)(S:aB)(l:D)(N:LS)(y:N.length≤16)(v:jg road):∀(r:List Nat)(x:List P)(d w k:Option D),(∀i ∈ r,i < N.length)->x.length+16 * r.length≤50000 ->
  ∃q s n,bu (aW [ak 4,ak 5]) (ff E) (r.map λ(i:Nat)=>P.tup [.int (i:Int),((N.map P.str)[i]?).getD .non]) [some l,ql (N.map .str),qr S.length,U road,d,w,k] (S++[.lst (x.map .p)]) =
   some (.nx,[some l,ql (N.map .str),qr S.length,U road,q,s,n],S++[.lst ((x++r.flatMap (o5 N road)).map .p)])
 | [],x,d,w,k,_,_=>⟨d,w,k,by simp[bu]⟩
 |i::r,x,d,w,k,F,V=>by
  simp only[aQ]at V;have t:=Du N road i y;have K:=F i aH;have z:N[i]? = some N[i]:=bI K;have H:((N.map P.str)[i]?).getD .non=.str N[i]:=by rw[dC,z];rfl
  rw[jU,<- gi,aE,H];by_cases h:N[i]=rA road
  .have g:o5 N road i=(oth N (rB road) i).map λo=>pr road i o:=by unfold o5;rw[z,h];simp
   rw[g]at t ⊢;obtain⟨q,s,n,e⟩:=R8 E Q S l N y v r (x++(oth N (rB road) i).map λo=>pr road i o) (J (i:Int)) (qs (N[i])) (ql (cx (oth N (rB road) i))) (λj A=>F j (aI _ A)) (by rw[bx];lia);refine⟨q,s,n,?_⟩;refine(cg (h:=[some l,ql (N.map .str),qr S.length,U road,J (i:Int),qs (N[i]),k]) rfl ?_).trans e;have p:x.length+(oth N (rB road) i).length≤1000000:=by rw[bn]at t;lia
   have f:(oth N (rB road) i).length≤1000000:=by lia
   have m:(cx (oth N (rB road) i)).length=(oth N (rB road) i).length:=by simp[cx]
   have W:N.length < 1000000:=by lia
   have C:N.length≤1000000:=by lia
   have u:=Jw road i [some l,ql (N.map .str),qr S.length,U road,J (i:Int),qs (N[i]),ql (cx (oth N (rB road) i)),none] rfl rfl rfl (oth N (rB road) i) (S++[.lst (x.map .p)]);obtain⟨a,b,M,c,G,I,R,T,B,_,_,rfl⟩:=v;have L:=Ds N a b (.str M) c G I l (.ref S.length) i (qs (N[i])) k (S++[.lst (x.map .p)]);simp only[rA,rB]at h p f m u ⊢;simp[ff,h,bO,cV,dF,W,C,bQ,oY,d9,m,f,p];simp[h]at L u;simp[L,u,m,f,p]
  .have g:o5 N road i=[]:=by unfold o5;rw[z];simp[h]
   rw[g,dB];obtain⟨q,s,n,e⟩:=R8 E Q S l N y v r x (J (i:Int)) (qs (N[i])) k (λj A=>F j (aI _ A)) (by lia);refine⟨q,s,n,?_⟩;refine(cg (h:=[some l,ql (N.map .str),qr S.length,U road,J (i:Int),qs (N[i]),k]) rfl ?_).trans e;obtain⟨a,b,M,c,G,I,R,T,B,_,_,rfl⟩:=v;simp only[rA]at h;simp[ff,h]
end
section
variable{m:List P}
theorem kU(p:e->Bool)(f:e->List s):∀xs:List e,(xs.filter p).flatMap f=xs.flatMap λx=>if p x=true then f x else []
 | []=>rfl
 |x::r=>by
  by_cases h:p x=true
  .rw [vk h,jU,jU,kU p f r,am h]
  .rw [vj h,jU,kU p f r,au h,fD]
theorem Mo(N:LS)(road:P):(List.range N.length).flatMap (o5 N road)=D_ N road:=by unfold D_;rw[show eJ N (rA road)=(List.range N.length).filter (λi=>decide (N[i]? = some (rA road))) from rfl,kU];rfl
theorem oj(N:LS)(road:P)(h:N.length≤16):(D_ N road).length≤256:=by
 have x:=ie N (rA road);have a:=ie N (rB road);have:=Ce N road (eJ N (rB road)) (by lia) (eJ N (rA road))
 unfold D_;lia
theorem Tg(u l:Str->GF)(S:aB)(p:D)(N:LS)(d:N.length≤16):∀(o:List P)(a:List P)(t q e n:Option D),(∀r ∈ o,jg r)->a.length+256 * o.length≤10000 ->
  ∃w x s k,bu (ak 3) (ky u) o [some p,ql (N.map .str),qr S.length,t,q,e,n] (S++[.lst (a.map .p)]) =
   some (.nx,[some p,ql (N.map .str),qr S.length,w,x,s,k],S++[.lst ((a++bX N o).map .p)])
 | [],a,t,q,e,n,_,_=>⟨t,q,e,n,by simp[bu,bX]⟩
 |road::o,a,t,q,e,n,j,H=>by simp only[aQ]at H;obtain⟨x,s,k,v⟩:=R8 u l S p N d (j road aH) (List.range N.length) a q e n (λi z=>by simpa using z) (by simp;lia);have F:=oj N road d;obtain⟨f,b,c,m,y⟩:=Tg u l S p N d o (a++D_ N road) (U road) x s k (λr h=>j r (aI _ h)) (by rw[bx];lia);refine⟨f,b,c,m,?_⟩;rw[show bX N (road::o)=D_ N road++bX N o by simp[bX],<- gi];refine(cg (h:=[some p,ql (N.map .str),qr S.length,U road,q,e,n]) rfl ?_).trans y;rw[Mo]at v;have g:=He (N.map P.str);rw[bn]at g;rw[<- g]at v;show bW _ _ _ _ _=_;simp only[bW];rw[show ug ce [some p,ql (N.map .str),qr S.length,U road,q,e,n] (S++[.lst (a.map .p)])=some (bv 0 (N.map P.str),S++[.lst (a.map .p)]) by simp];exact v
theorem KU(h:Pln y s f)(S:aB):Y (n+3) "pairs_of" [.p (.tup [.lst y,.lst s,.lst f])] S=some (.ref S.length,S++[.lst ((bX (aY y) s).map .p)]):=by
 have:=h.rl;have x:=CD (n:=n) h.hf h.f0.2 (.lst s) (.lst f);have a:=FR h.hf (.lst s) (.lst f) S;obtain⟨q,k,b,c,e⟩:=Tg (Y (n+2)) (Y (n+1)) S (.p (.tup [.lst y,.lst s,.lst f])) (aY y) (aF (oH h) (by decide)) s [] none none none none h.hr (by simp;lia);have l:(homes y).length≤1000000:=by rw[oG];have:=jy h;lia
 rw[wr];simp only[fD,gc]at e;simp[eN,nG,x,bO,l,oY,a,e]
theorem Jy(h:Pln f s e):dJ (Y (n+3) "pairs_of") [.tup [.lst f,.lst s,.lst e]]=some (.lst (bX (aY f) s)):=by unfold dJ;rw[aE,gc,KU (n:=n) h []];simp
noncomputable def sv:P->P
 | .tup [_,_,_,x]=>x
 |_=>.non
def i5:P->P
 | .tup [_,_,_,.lst a,.lst w,_]=>.tup [.int 0,.tup (a.map sv),.tup (List.replicate w.length (.int (-1)))]
 |_=>.non
theorem J_(n:∀c ∈ a,sk c)(L:Lc)(j:Nat)(e:j < L.length)(S:aB):bZ (ak j) iN (ac (vv j) hZ) a L S=some (a.map sv,S):=by
 rw[dc (p:=λ_=>true) (f:=sv) (Inv:=λh=>∃d,h=L.set j d) (λv k h s=>?_) ⟨L[j],(gZ e).symm⟩]
 .rw [i6]
 .obtain⟨d,rfl⟩:=s;obtain⟨x,lo,i,t,b,_,_,_,_,rfl⟩:=n v k;have g:((L.set j d).set j (qt [.str x,.int lo,.int i,.int t]))[j]? = some (qt [.str x,.int lo,.int i,.int t]):=by
   rw[bH (by simpa using e)]
  exact⟨_,rfl,⟨_,cW ..⟩,rfl,λ_=>by simp[-cW,g,sv]⟩
theorem N5(a b c d e f:P):L2.atI [a,b,c,d,e,f] 3=some d:=bB (by decide) rfl
theorem SI(a b c d e f:P):L2.atI [a,b,c,d,e,f] 4=some e:=bB (by decide) rfl
theorem CU(A I:Str->GF)(S:∀f ∈ s,iB m f)(o i:P):∀(n:List (Nat×P))(h:List P)(g d u:Option D),(∀x ∈ n,s[x.1]? = some x.2)->h.length+n.length≤1000 ->
  ∃q b v,bu (ak 2) (km A) (n.map λx=>P.int (x.1:Int)) [qt [.lst s,o,i],qr 0,g,d,u] [.lst (h.map .p)] =
   some (.nx,[qt [.lst s,o,i],qr 0,q,b,v],[.lst ((h++n.map λx=>i5 x.2).map .p)])
 | [],h,g,d,u,_,_=>⟨g,d,u,by simp[bu]⟩
 |x::n,h,g,d,u,K,E=>by
  simp only[aQ]at E;obtain⟨p,f⟩:=x;have F:s[p]? = some f:=K (p,f) aH;obtain⟨H,c,r,a,w,t,k,rfl⟩:=S f (a9 F);have C:=b_ F;obtain⟨q,b,v,e⟩:=CU A I S o i n (h++[i5 (.tup [.str H,.int (c:Int),.lst r,.lst a,.lst w,.lst t])]) (J (p:Int)) (ql a) (ql w) (λy G=>K y (aI _ G)) (by simp;lia);refine⟨q,b,v,?_⟩;rw[aE,aE,show h++i5 (.tup [.str H,.int (c:Int),.lst r,.lst a,.lst w,.lst t])::n.map (λx=>i5 x.2)=h++[i5 (.tup [.str H,.int (c:Int),.lst r,.lst a,.lst w,.lst t])]++n.map (λx=>i5 x.2) by simp];refine(cg (h:=[qt [.lst s,o,i],qr 0,J (p:Int),d,u]) rfl ?_).trans e;have B:=J_ k.hce.1 [qt [.lst s,o,i],qr 0,J (p:Int),ql a,ql w,none] 5 (by simp) [.lst (h.map .p)];have j:a.length≤1000000:=by have:=k.cl;lia
  have z:w.length≤1000000/\w.length < 1000000:=by have:=k.wl;lia
  have l:h.length≤1000000:=by lia
  rw[<- dE];simp[km,C,N5,SI,bO,j,oY,B,eX,cV,dF,z,d9,l,i5]
theorem HC(h:Pln f s y):dJ (Y (n+4) "begin") [.tup [.lst f,.lst s,.lst y]]=some (.tup [.tup ((bM f).map i5),.tup (List.replicate (bX (aY f) s).length (.tup []))]):=by
 have c:=CD (n:=n+1) h.hf h.f0.2 (.lst s) (.lst y);have a:=Jy (n:=n) h;have q:=GW 0 h.hf;have l:=h.f0.2;obtain⟨g,z,o,e⟩:=CU (Y (n+3)) (Y (n+2)) h.hf (.lst s) (.lst y) (hw 0 f) [] none none none (λx d=>by obtain⟨j,a,t⟩:=oF d;rw[a,fG];exact t) (by simp;lia);have v:(bX (aY f) s).length≤2048:=by
  have N:(aY f).length≤16:=aF (oH h) (by decide);have b:∀m:List P,(bX (aY f) m).length≤256 * m.length:=by
   intro m;induction m with
   |nil=>simp[bX]
   |cons r m u=>have:=oj (aY f) r N;rw[show bX (aY f) (r::m)=D_ (aY f) r++bX (aY f) m by simp[bX],bx,aQ];lia
  have:=b s;have:=h.rl
  lia
 have p:(bX (aY f) s).length≤1000000:=by lia
 have k:(bX (aY f) s).length < 1000000:=by lia
 rw[DS,aO];simp only[fD,gc]at e;rw[show(hw 0 f).map (λx=>P.int (x.1:Int))=homes f from rfl,show(hw 0 f).map (λx=>i5 x.2)=(bM f).map i5 by simp[bM]]at e;have i:∀vs:List P,toP 9 (.ref 0) [.lst (vs.map .p)]=some (.lst vs,[.fz (.lst vs)]):=rH;generalize (bM f).map i5=w at e ⊢;simp[uE,c,a,e,eX,cV,dF,p,k]
end
def iP(S:aB)(j:Nat)(xs:List P):Prop:=S[j]? = some (.lst (xs.map .p))\/S[j]? = some (.fz (.lst xs))
variable{xs:List P}{c:List P}
theorem Gq(h:xs.map D.p=c.map D.p):xs=c:=(List.map_inj_right (f:=D.p) λ_ _ h=>D.p.inj h).mp h
variable{S:aB}{j:Nat}
theorem iP.lt(h:iP S j xs):j < S.length:=by rcases h with h|h<;>exact(bz.mp h).1
theorem iP.frz(h:iP S j xs):toP 9 (.ref j) S=some (.lst xs,S.set j (.fz (.lst xs))):=by
 rcases h with h|h
 .exact gu h
 .have:S.set j (.fz (.lst xs))=S:=by
   obtain⟨a,x⟩:=bz.mp h;rw[<- x,gZ]
  rw[this];simp[toP,h]
variable{L:Lc}
theorem iP.ix(h:iP S j xs){i:Int}(r:s L S=some (.ref j,S))(x:k L S=some (.int i,S))(e:L2.atI xs i=some f):lP s k L S=some (.p f,S):=by
 rw[lP,r,aw,x,aw];rcases h with h|h
 .simp only[h];rw[qV,e];rfl
 .simp only[h];show(L2.atI xs i).map _=_;rw[e];rfl
theorem iP.len(h:iP S j xs):cV (.ref j) S=some xs.length:=by rcases h with h|h<;>simp[cV,h,dF]
structure Fr(b:Nat)(S S':aB):Prop where
 len:S.length≤S'.length
 low:∀k o,k < b->S[k]? = some o->S'[k]? = some o\/∃xs,o=.lst (xs.map .p)/\S'[k]? = some (.fz (.lst xs))
 hi:∀k o,b≤k->S[k]? = some o->S'[k]? = some o
theorem Fr.refl(b:Nat)(S:aB):Fr b S S:=⟨al _,λ_ _ _ h=>.inl h,λ_ _ _ h=>h⟩
variable{b:Nat}{x:aB}
theorem Fr.trans(h:Fr b S x)(g:Fr b x f):Fr b S f:=by
 refine⟨aF h.len g.len,λk o a e=>?_,λk o a e=>g.hi k o a (h.hi k o a e)⟩;rcases h.low k o a e with s|⟨xs,rfl,s⟩
 .exact g.low k o a s
 .rcases g.low k _ a s with s|⟨c,q,_⟩
  .exact .inr ⟨xs,rfl,s⟩
  .cases q
theorem Fr.app(b:Nat)(S T:aB):Fr b S (S++T):=by
 have y:∀k o,S[k]? = some o->(S++T)[k]? = some o:=λk o e=>by rw[cA (bR e)];exact e
 exact⟨by simp,λk o _ e=>.inl (y k o e),λk o _ e=>y k o e⟩
variable{k:Nat}
theorem Fr.set(h:Fr b S x)(s:b≤S.length)(n:S.length≤k)(o:SO):Fr b S (x.set k o):=by
 refine⟨by rw[cN];exact h.len,λj u a e=>?_,λj u a e=>?_⟩
 .rw [aL (by lia)];exact h.low j u a e
 .have:=bR e;rw[aL (by lia)];exact h.hi j u a e
theorem Fr.frz(a:j < b)(h:iP S j xs):Fr b S (S.set j (.fz (.lst xs))):=by
 refine⟨by simp,λk o x e=>?_,λk o x e=>?_⟩
 .by_cases q:j=k
  .subst q;rw[bH h.lt];rcases h with h|h<;>(rw[h]at e;cases e)
   .exact .inr ⟨xs,rfl,rfl⟩
   .exact .inl rfl
  .rw [aL q];exact .inl e
 .rw [aL (by lia)];exact e
theorem Fr.trunc(h:Fr b S x):Fr b S (trunc S.length x):=by
 unfold Ev.trunc;split
 .refine⟨by rw[gX];have:=h.len;lia,λk o a e=>?_,λk o a e=>?_⟩
  .rw [g7 (bR e)];exact h.low k o a e
  .rw [g7 (bR e)];exact h.hi k o a e
 .exact h
theorem iP.fr(h:Fr b S x)(g:iP S j xs):iP x j xs:=by
 by_cases a:j < b
 .rcases g with g|g
  .rcases h.low j _ a g with e|⟨c,q,e⟩
   .exact .inl e
   .have:xs=c:=Gq (SO.lst.inj q);subst this;exact .inr e
  .rcases h.low j _ a g with e|⟨c,q,e⟩
   .exact .inr e
   .cases q
 .rcases g with g|g
  .exact .inl (h.hi j _ (by lia) g)
  .exact .inr (h.hi j _ (by lia) g)
def nN(S x:aB)(d:D)(c:List P):Prop:=d=.p (.lst c)\/∃k,S.length≤k/\d=.ref k/\iP x k c
variable{d:D}
theorem nN.toP(h:nN S x d c)(f:Fr b S x)(e:b≤S.length):∃a,toP 9 d x=some (.lst c,a)/\Fr b S a:=by
 rcases h with rfl|⟨k,s,rfl,h⟩
 .exact⟨x,by simp,f⟩
 .exact⟨_,h.frz,f.set e s _⟩
variable{g:GF}{q:nP}{l:List D}
theorem sT(s:q L S=some (l,S))(k:g l S=some (d,x))(r:Fr b S x)(n:b≤S.length)(h:nN S x d c):∃a,cK g q L S=some (.lst c,a)/\Fr b S a:=by obtain⟨m,e,f⟩:=h.toP r n;exact⟨_,by rw[cK,s,aw,k,aw,e,aw],f.trunc⟩
theorem yo(a:q L S=some (l,S))(s:g l S=some (.p e,x))(f:Fr b S x):∃h,cK g q L S=some (e,h)/\Fr b S h:=
 ⟨_,by rw[cK,a,aw,s,aw];rfl,f.trunc⟩
structure BD where
 fams:List P
 roads:List P
 wishes:List P
 ks:List (List cj)
 vs:List D
abbrev BP(B:BD):Prop:=Pln B.fams B.roads B.wishes
def BD.N(B:BD):LS:=aY B.fams
def BD.PR(B:BD):List P:=bX B.N B.roads
def fields:LS:=["families","homes","pairs","places","members"]
structure Bat(B:BD)(b i jh jp jl jm:Nat)(mk:List cj)(mv:List D)(S:aB):Prop where
 ins:S[i]? = some (.ins "Board" fields [.p (.lst B.fams),.ref jh,.ref jp,.ref jl,.ref jm])
 ho:iP S jh (homes B.fams)
 pr:iP S jp B.PR
 pl:S[jl]? = some (.dtt B.ks B.vs)
 me:S[jm]? = some (.dct mk mv)
 mm:∀s ∈ B.N,∃j,j < b/\cF (.inr s) mk mv=qr j/\iP S j (cx (eJ B.N s))
 bi:i < b
 bh:jh < b
 bp:jp < b
 bl:jl < b
 bm:jm < b
 bs:b≤S.length
def Bd(B:BD)(b i:Nat)(S:aB):Prop:=∃p v r t w u,Bat B b i p v r t w u S
theorem Bat.fr{B:BD}{b i p v r t:Nat}{w:List cj}{u:List D}{S x:aB}(h:Bat B b i p v r t w u S)(f:Fr b S x):Bat B b i p v r t w u x where
 ins:=by rcases f.low i _ h.bi h.ins with e|⟨_,q,_⟩;exact e;cases q
 ho:=h.ho.fr f
 pr:=h.pr.fr f
 pl:=by rcases f.low r _ h.bl h.pl with e|⟨_,q,_⟩;exact e;cases q
 me:=by rcases f.low t _ h.bm h.me with e|⟨_,q,_⟩;exact e;cases q
 mm:=λs c=>by obtain⟨j,a,n,k⟩:=h.mm s c;exact⟨j,a,n,k.fr f⟩
 bi:=h.bi
 bh:=h.bh
 bp:=h.bp
 bl:=h.bl
 bm:=h.bm
 bs:=aF h.bs f.len
theorem Bd.fr{B:BD}{b i:Nat}{S x:aB}(h:Bd B b i S)(f:Fr b S x):Bd B b i x:=by obtain⟨p,v,r,t,w,u,h⟩:=h;exact⟨p,v,r,t,w,u,h.fr f⟩
theorem Bd.le{B:BD}{b i:Nat}{S:aB}(h:Bd B b i S):b≤S.length:=by obtain⟨p,v,r,t,w,u,h⟩:=h;exact h.bs
section
variable{B:BD}{b i p v r t:Nat}{w:List cj}{u:List D}{S:aB}{L:Lc}{o:EE}
theorem Bat.fld(h:Bat B b i p v r t w u S)(ho:o L S=some (.ref i,S))(a:aT Att "Board" f=true)(x:i3 f fields [.p (.lst B.fams),.ref p,.ref v,.ref r,.ref t]=some d):eB (aT Att) o f L S=some (d,S):=by rw[eB,ho,aw];simp only[h.ins];rw[am a,x];rfl
end
theorem lJ:aT Att "Board" "families"=true/\aT Att "Board" "homes"=true/\aT Att "Board" "pairs"=true/\aT Att "Board" "places"=true/\aT Att "Board" "members"=true:=by decide +kernel
theorem JS{a b c d e:D}:i3 "families" fields [a,b,c,d,e]=some a/\i3 "homes" fields [a,b,c,d,e]=some b/\i3 "pairs" fields [a,b,c,d,e]=some c/\i3 "places" fields [a,b,c,d,e]=some d/\i3 "members" fields [a,b,c,d,e]=some e:=by
 have h:¬("families":Str)="homes":=by decide +kernel
 have x:¬("families":Str)="pairs":=by decide +kernel
 have s:¬("families":Str)="places":=by decide +kernel
 have k:¬("families":Str)="members":=by decide +kernel
 have f:¬("homes":Str)="pairs":=by decide +kernel
 have m:¬("homes":Str)="places":=by decide +kernel
 have r:¬("homes":Str)="members":=by decide +kernel
 have t:¬("pairs":Str)="places":=by decide +kernel
 have p:¬("pairs":Str)="members":=by decide +kernel
 have n:¬("places":Str)="members":=by decide +kernel
 simp[fields,i3,h,x,s,k,f,m,r,t,p,n]
section
variable{B:BD}{b i p v r t:Nat}{w:List cj}{u:List D}{S:aB}(h:Bat B b i p v r t w u S){L:Lc}{o:EE}(ho:o L S=some (.ref i,S))
include h ho
theorem Bat.families:eB (aT Att) o "families" L S=some (.p (.lst B.fams),S):=h.fld ho lJ.1 JS.1
theorem Bat.homes:eB (aT Att) o "homes" L S=some (.ref p,S):=h.fld ho lJ.2.1 JS.2.1
theorem Bat.pairs:eB (aT Att) o "pairs" L S=some (.ref v,S):=h.fld ho lJ.2.2.1 JS.2.2.1
theorem Bat.places:eB (aT Att) o "places" L S=some (.ref r,S):=h.fld ho lJ.2.2.2.1 JS.2.2.2.1
theorem Bat.members:eB (aT Att) o "members" L S=some (.ref t,S):=h.fld ho lJ.2.2.2.2 JS.2.2.2.2
theorem Bat.meth(m:M "Board" e=some g)(n:fields.contains e=false)(a:q L S=some (l,S)):eA M o e q L S=g (.ref i::l) S:=by rw[eA,ho,aw];simp only[h.ins,m,n,a,aw];rfl
end
@[simp] theorem QO:¬("name":Str)="number"/\¬("plus":Str)="number"/\¬("plus":Str)="name"/\¬("minus":Str)="number"/\¬("minus":Str)="name"/\¬("minus":Str)="plus"/\¬("times":Str)="number"/\¬("times":Str)="name"/\¬("times":Str)="plus"/\¬("times":Str)="minus" /\
  ¬("not":Str)="true"/\¬("and":Str)="true"/\¬("and":Str)="not"/\¬("or":Str)="true"/\¬("or":Str)="not"/\¬("or":Str)="and"/\¬("is":Str)="true"/\¬("is":Str)="not"/\¬("is":Str)="and"/\¬("is":Str)="or" /\
  ¬("double":Str)="lose"/\¬("all":Str)="who"/\¬("any":Str)="who"/\¬("any":Str)="all"/\¬("weak":Str)="strong"/\¬("strong":Str)="weak"/\¬("heap":Str)="row"/\¬("row":Str)="heap":=by decide +kernel
theorem ib(h:xs.length+c.length≤1000000):kX (.tup xs) (.tup c)=some (.tup (xs++c)):=by
 cases xs with
 |nil=>rfl
 |cons x r=>show(if (!(x::r).isEmpty && hV ((x::r).length+c.length))=true then some (P.tup ((x::r)++c)) else none)=_;rw[am (by rw[az,lC];exact⟨rfl,h⟩)]
theorem sP(k:Nat):cut xs none (some (k:Int))=xs.take k:=by
 unfold cut;rw[HT.xw,HT.B9,mM,Bp];by_cases h:k≤xs.length
 .rw [Br h]
 .rw [Bs (by lia),qm,Bc (by lia)]
theorem sQ(k:Nat):cut xs (some (k:Int)) none=xs.drop k:=by
 unfold cut;rw[HT.xw,HT.B9];by_cases h:k≤xs.length
 .rw [Br h,Bc (by simp)]
 .rw [Bs (by lia),qg,List.drop_of_length_le (by lia)];simp
theorem ut(k:Nat):cut xs (some ((k:Int)+1)) none=xs.drop (k+1):=sQ (k+1)
theorem Kl(k:Nat):cut xs none (some ((k:Int)+1))=xs.take (k+1):=sP (k+1)
variable{n:Nat}
theorem rQ(x:k < xs.length)(l:xs.length≤900000)(v:P):dJ (Y (n+2) "replaced") [.tup xs,.int (k:Int),v]=some (.tup (xs.set k v)):=by have e:=ib (xs:=xs.take k) (c:=[v]) (by simp;lia);have h:=ib (xs:=xs.take k++[v]) (c:=xs.drop (k+1)) (by simp;lia);rw[wq,aO];simp[nE,sP,ut,e,-gi];rw[h];simp[List.set_eq_take_append_cons_drop,x]
theorem KH(h:xs.length≤900000):dJ (Y (n+2) "without") [.tup xs,.int (k:Int)]=some (.tup (xs.eraseIdx k)):=by have e:=ib (xs:=xs.take k) (c:=xs.drop (k+1)) (by simp;lia);rw[x4,aO];simp[pk,sP,ut,e,List.eraseIdx_eq_take_drop_succ]
def uh(l:P):Prop:=∃m i,ao m=true/\i.natAbs≤999/\l=.tup [.str m,.int i]
theorem uh.ok(h:uh e):dh 1 e=true:=by obtain⟨m,i,x,_,rfl⟩:=h;simp[x]
def oS(s:List P):Prop:=s.length≤3/\∀l ∈ s,uh l
noncomputable def P_(w:Str)(xs:List P)(k:Nat):List P:=if w="lose" then xs.eraseIdx k else xs.take (k+1)++xs.drop k
theorem P'{n:Nat}{w:Str}(hw:w="lose"\/w="double"){xs:List P}{k:Nat}(x:oS xs)(a:w="double"->xs.length≤2)(f:k < xs.length):oS (P_ w xs k)/\dJ (Y (n+3) "flawed") [.str w,.tup xs,.int (k:Int)]=some (.tup (P_ w xs k)):=by
 have:=x.1;unfold P_;rcases hw with rfl|rfl
 .refine⟨⟨aF (Be ..) this,λl h=>x.2 l (Bh h)⟩,?_⟩;have e:=KH (n:=n) (xs:=xs) (k:=k) (by lia);rw[sG,aO];simp[mx,e]
 .have s:=a rfl;rw[au (by decide +kernel)];refine⟨⟨by simp;lia,λl h=>?_⟩,?_⟩
  .rcases bP.mp h with h|h
   .exact x.2 l (qv h)
   .exact x.2 l (vg h)
  .have e:=ib (xs:=xs.take (k+1)) (c:=xs.drop k) (by simp;lia);rw[sG,aO];simp[mx,Kl,sQ,e]
noncomputable def J6(w:Str)(r:P)(xs:List P):Bool:=match r with
 | .tup [_,_,_,.int c,.bl d,.bl h]=>if w="lose" then d else h && decide ((xs.length:Int) < c)
 |_=>false
theorem PZ{n:Nat}{w:Str}(hw:w="lose"\/w="double"){r:P}(q:jg r)(xs:List P):(w="double"->J6 w r xs=true->xs.length≤2)/\dJ (Y (n+2) "has_flaw") [r,.str w,.tup xs]=some (.bl (J6 w r xs)):=by
 obtain⟨a,b,k,c,x,d,v,u,p,m,t,rfl⟩:=q;have e:L2.atI [P.str a,.str b,.str k,.int c,.bl x,.bl d] 3=some (.int c):=bB (by decide) rfl;have s:L2.atI [P.str a,.str b,.str k,.int c,.bl x,.bl d] 4=some (.bl x):=bB (by decide) rfl;have f:L2.atI [P.str a,.str b,.str k,.int c,.bl x,.bl d] 5=some (.bl d):=bB (by decide) rfl;unfold J6;rcases hw with rfl|rfl
 .refine⟨λh=>?_,?_⟩
  .have:¬("lose":Str)="double":=by decide +kernel
   exact absurd h this
  .rw [nv,aO];simp[kl,s]
 .dsimp only;rw[au (by decide +kernel)];refine⟨λ_ h=>?_,?_⟩
  .have:=(az _ _ ▸ h).2;have:=be this
   lia
  .rw [nv,aO];cases d<;>simp[kl,e,f,cV,dF]
theorem sm(h:∀y ∈ xs,dh 19 y=true)(x:s ∈ xs):∃i:Nat,i < xs.length/\mj xs s=some i:=by
 unfold mj;have a:(xs.all (dh 19) && dh 19 s)=true:=by rw[az];exact⟨bw.mpr h,h s x⟩
 rw[am a];have m:pd s ∈ m9 xs:=by
  clear a h;induction xs with
  |nil=>cases x
  |cons y r n=>
   rcases aP.mp x with rfl|x
   .exact aH
   .exact aI _ (n x)
 have e:cb (pd s) (pd s)=true:=pO _ (gy 20 s (dR (h s x) (by lia))).1;cases q:(m9 xs).findIdx? λz=>cb z (pd s) with
 |none=>have:=List.findIdx?_eq_none_iff.mp q (pd s) m;rw[e]at this;cases this
 |some i=>
  refine⟨i,?_,rfl⟩;have:=(Bk.mp q).1
  rwa [v9]at this
def M6(n:Nat)(y:P):Prop:=∃i:Nat,i < n/\y=.int (i:Int)
theorem Cz(n:Nat):intsFrom 0 n=cx (List.range n):=by unfold Ev.intsFrom cx;simp only[df]
def BZ(k:Str)(xs:List P):List Nat:=(List.range xs.length).filter λi=>decide (k="row") ||decide (mj xs (xs[i]?.getD .non)=some i)
theorem KJ(k:Str)(r:oS xs):dJ (Y (n+2) "unlike_spots") [.str k,.tup xs]=some (.lst (cx (BZ k xs))):=by
 have o:=r.1;have m:xs.length < 1000000:=by lia
 have b:xs.length≤1000000:=by lia
 by_cases h:k="row"
 .have e:BZ k xs=List.range xs.length:=by unfold BZ;rw[qu.mpr λ_ _=>by simp[h]]
  rw[e,<- Cz,jA,aO];simp[fZ,h,cV,dF,m]
 .have e:bZ (ak 3) (aV (O (yS ce (ac ce eK))) il) eK (intsFrom 0 xs.length) [qs k,qt xs,ql (intsFrom 0 xs.length),none] []=some (cx (BZ k xs),[]):=by
   rw[dc (p:=λv=>match v with | .int z=>decide (mj xs (xs[z.toNat]?.getD .non)=some z.toNat)|_=>false) (f:=id) (Inv:=λL=>∃d,L=[qs k,qt xs,ql (intsFrom 0 xs.length),d]) (λv w L t=>?_) ⟨none,rfl⟩,u5]
   .rw [Cz];unfold cx BZ;rw[u7];congr 3;refine List.filter_congr λi _=>?_;simp[h]
   obtain⟨d,rfl⟩:=t;obtain⟨i,rfl,s⟩:=dn w;simp only[df];have g:xs[i]? = some xs[i]:=bI s;have c:=b_ g;obtain⟨j,H,a⟩:=sm (xs:=xs) (s:=xs[i]) (λy u=>dR (r.2 y u).ok (by lia)) (fE _);refine⟨[qs k,qt xs,ql (intsFrom 0 xs.length),J (i:Int)],rfl,⟨_,rfl⟩,?_,λ_=>by simp⟩;by_cases q:j=i
   .rw [q]at a;simp[c,a,g]
   .have l:¬(j:Int)=(i:Int):=by lia
    simp[c,a,g,q,l]
  rw[jA,aO];simp[fZ,h,cV,dF,m,b,bO,bQ,oY,e]
def nM(N:List P)(ks:List cj)(vs:List P):Prop:=∀x:Str,P.str x ∈ N->∃i:Int,i.natAbs≤999/\cF (.inr x) ks vs=some (.int i)
section
variable{N:List P}{ks:List cj}{vs:List P}
theorem t3(k:Int):dJ (Y (n+2) "value_of") [oq k,.dct ks vs]=some (.int k):=by rw[fM,aO];simp[eG]
theorem t5{i:Int}(h:cF (.inr e) ks vs=some (.int i)):dJ (Y (n+2) "value_of") [pu (.str e),.dct ks vs]=some (.int i):=by rw[fM,aO];simp[eG,h]
theorem LJ{n:Nat}{a b:P}{i j:Int}(h:dJ (Y (n+2) "value_of") [a,.dct ks vs]=some (.int i))(x:dJ (Y (n+2) "value_of") [b,.dct ks vs]=some (.int j)):dJ (Y (n+3) "value_of") [.tup [.str "plus",a,b],.dct ks vs]=some (.int (i+j)):=by rw[fM,aO];simp[eG,h,x]
theorem BX{n:Nat}{a b:P}{i j:Int}(h:dJ (Y (n+2) "value_of") [a,.dct ks vs]=some (.int i))(x:dJ (Y (n+2) "value_of") [b,.dct ks vs]=some (.int j)):dJ (Y (n+3) "value_of") [.tup [.str "minus",a,b],.dct ks vs]=some (.int (i-j)):=by rw[fM,aO];simp[eG,h,x]
theorem IP{n:Nat}{a b:P}{i j:Int}(m:fY i j=true)(h:dJ (Y (n+2) "value_of") [a,.dct ks vs]=some (.int i))(x:dJ (Y (n+2) "value_of") [b,.dct ks vs]=some (.int j)):dJ (Y (n+3) "value_of") [.tup [.str "times",a,b],.dct ks vs]=some (.int (i * j)):=by rw[fM,aO];simp[eG,h,x,m]
theorem rk(s:∀x ∈ N,mD x)(f:nM N ks vs){t:P}(h:xM N t){n:Nat}:∃r:Int,dJ (Y (n+4) "value_of") [t,.dct ks vs]=some (.int r):=by
 rcases h with ⟨k,rfl⟩|⟨y,a,h⟩
 .exact⟨k,t3 k⟩
 obtain⟨x,_,rfl⟩:=s y a;obtain⟨i,m,e⟩:=f x a;rcases h with rfl|⟨k,rfl⟩|⟨k,j,b,c,rfl⟩|rfl
 .exact⟨i,t5 e⟩
 .exact⟨_,LJ (t5 e) (t3 k)⟩
 .exact⟨_,BX (IP (bU (i:=i) (j:=k) (by lia) (by lia)) (t5 e) (t3 k)) (t3 j)⟩
 .exact⟨_,BX (t3 1) (t5 e)⟩
theorem Nt(w:Str)(i j:Int):∃b,dJ (Y (n+2) "compared") [.str w,.int i,.int j]=some (.bl b):=by
 rw[wA,aO];by_cases h:w="="
 .simp [dP,h]
 by_cases x:w="!="
 .refine⟨!decide (i=j),?_⟩;simp[dP,h,eq_true x]
 by_cases a:w="<"
 .simp [dP,h,x,eq_true a]
 by_cases e:w="<="
 .simp [dP,h,x,a,eq_true e]
 by_cases s:w=">"
 .simp [dP,h,x,a,e,eq_true s]
 simp[dP,h,x,a,e,s]
theorem G1:dJ (Y (n+2) "holds") [.tup [.str "true"],.dct ks vs]=some (.bl true):=by rw[jB,aO];simp[ig]
theorem P2{n:Nat}(w:Str){a b:P}{i j:Int}(h:dJ (Y (n+5) "value_of") [a,.dct ks vs]=some (.int i))(x:dJ (Y (n+5) "value_of") [b,.dct ks vs]=some (.int j)):∃r,dJ (Y (n+6) "holds") [.tup [.str "is",.str w,a,b],.dct ks vs]=some (.bl r):=by obtain⟨r,e⟩:=Nt (n:=n+3) w i j;refine⟨r,?_⟩;rw[jB,aO];simp[ig,h,x,e]
theorem P1(h:dJ (Y (n+2) "holds") [e,.dct ks vs]=some (.bl s)):dJ (Y (n+3) "holds") [.tup [.str "not",e],.dct ks vs]=some (.bl !s):=by rw[jB,aO];simp[ig,h]
theorem P4{n:Nat}{a b:P}{r s:Bool}(h:dJ (Y (n+2) "holds") [a,.dct ks vs]=some (.bl r))(x:dJ (Y (n+2) "holds") [b,.dct ks vs]=some (.bl s)):dJ (Y (n+3) "holds") [.tup [.str "and",a,b],.dct ks vs]=some (.bl (r && s)):=by rw[jB,aO];cases r<;>simp[ig,h,x]
theorem So{n:Nat}{a b:P}{r s:Bool}(h:dJ (Y (n+2) "holds") [a,.dct ks vs]=some (.bl r))(x:dJ (Y (n+2) "holds") [b,.dct ks vs]=some (.bl s)):dJ (Y (n+3) "holds") [.tup [.str "or",a,b],.dct ks vs]=some (.bl (r ||s)):=by rw[jB,aO];cases r<;>simp[ig,h,x]
theorem GZ(k:∀x ∈ N,mD x)(f:nM N ks vs){t:P}(h:zn N t){n:Nat}:∃r,dJ (Y (n+9) "holds") [t,.dct ks vs]=some (.bl r):=by
 have l:∀{t:P},ni N t->∀{n:Nat},∃r,dJ (Y (n+6) "holds") [t,.dct ks vs]=some (.bl r):=λ{t} h {n}=>by obtain⟨w,y,s,b,v,_,rfl⟩:=h;obtain⟨x,_,rfl⟩:=k y b;obtain⟨i,_,a⟩:=f x b;obtain⟨j,q⟩:=rk k f v (n:=n+1);exact P2 w (t5 a) q
 rcases h with rfl|h|⟨p,h,rfl⟩|⟨p,z,h,c,rfl⟩
 .exact⟨_,G1⟩
 .exact l h
 .obtain⟨r,e⟩:=l h (n:=n+2);exact⟨_,P1 e⟩
 .obtain⟨r,e⟩:=l h (n:=n+2);obtain⟨x,_,rfl⟩:=k z c;obtain⟨i,_,a⟩:=f x c;obtain⟨s,m⟩:=P2 (n:=n+1) (ks:=ks) (vs:=vs) "=" (t3 1) (t5 a);exact⟨_,So e (P4 (G1) m)⟩
end
def dG(a:List P):List cj:=a.map λc=>.inr (br c)
def CellsOk(a s:List P):Prop:=s.length=a.length/\∀c ∈ s,∃i:Int,i.natAbs≤999/\c=.int i
variable{a:List P}
theorem kQ(h:C3 a):(dG a).Nodup:=by
 unfold dG;refine vn.mpr λi j e s k q=>?_
 rw[bn]at e s;rw[A8,A8]at q;have x:=h.2 i _ (bI e);have n:=h.2 j _ (bI s);rw[kI q,n]at x;simp at x;lia
theorem zf(a:List P):dM (ua a)=some (dG a):=by
 unfold ua dG;induction a with
 |nil=>rfl
 |cons c r i=>simp[dM,dj,i]
theorem we:∀{a k:List P},CellsOk a k->nM (ua a) (dG a) k
 | [],_,_=>λx h=>by cases h
 |c::r,[],h=>by have:=h.1;simp at this
 |c::r,d::s,h=>λx p=>by
  obtain⟨i,m,rfl⟩:=h.2 d aH;show ∃i:Int,_/\(if (Sum.inr (br c):cj)=.inr x then some _ else cF (.inr x) (dG r) s)=_;by_cases e:br c=x
  .exact⟨i,m,by rw[am (by rw[e])]⟩
  .have n:P.str x ∈ ua r:=by
    rcases aP.mp p with q|q
    .exact absurd (P.str.inj q).symm e
    .exact q
   obtain⟨j,t,f⟩:=we (a:=r) (k:=s) ⟨by have:=h.1;simpa using this,λc b=>h.2 c (aI _ b)⟩ x n;exact⟨j,t,by rw[au λq=>e (kI q)];exact f⟩
theorem BU(h:Fam m H f s a y e)(c:CellsOk a z)(S:aB) :
  Y (n+2) "values_of" [.p (.tup [.str H,.int (f:Int),.lst s,.lst a,.lst y,.lst e]),.p (.tup z)] S=some (.ref S.length,S++[.dct (dG a) (z.map .p)]):=by
 have r:=h.cl;have q:a.length≤1000000:=by lia
 have x:(ua a).length≤1000000:=by simp[ua];lia
 have b:=uv h.hce.1 [qt [.str H,.int (f:Int),.lst s,.lst a,.lst y,.lst e],qt z,none] 2 (by simp) S;have p:=kQ h.hce;have k:(dG a).length=z.length:=by rw[c.1];simp[dG]
 have l:(dG a).length≤z.length:=vp k;have t:z.take (dG a).length=z:=by rw[k,qm]
 rw[tp];simp[eN,lR,N5,bO,q,oY,b,zf,p,x,l,t,u6];first|done|(rw[<- u6,t])
theorem C9(x:Fam m H y s a z e)(h:CellsOk a f) :
  dJ (Y (n+2) "values_of") [.tup [.str H,.int (y:Int),.lst s,.lst a,.lst z,.lst e],.tup f]=some (.dct (dG a) f):=by
 unfold dJ;rw[aE,aE,gc,BU (n:=n) x h []];have:pA (toP 8) (f.map .p) [SO.dct (dG a) (f.map .p)]=some (f,[SO.dct (dG a) (f.map .p)]):=na ..;simp[toP,this]
end My
namespace My
open PySem L2 Ev
variable{L:Lc}{S:aB}
theorem aA(h:a L S=some (.nx,e,b)):ag a g L S=g e b:=by rw[ag,h]
theorem y2(h:a L S=some (.rt d,e,b)):ag a g L S=some (.rt d,e,b):=by rw[ag,h]
noncomputable def ON(a b:Bool):Nat->Nat->Option Bool
 |0,0=>some false
 |0,1=>some a
 |1,0=>some b
 |1,1=>some false
 |_,_=>none
noncomputable def OM(a b c d e f:Bool):Nat->Nat->Option Bool
 |0,0=>some false
 |0,1=>some a
 |0,2=>some b
 |1,0=>some c
 |1,1=>some false
 |1,2=>some d
 |2,0=>some e
 |2,1=>some f
 |2,2=>some false
 |_,_=>none
noncomputable def xW(n:Nat)(o:Option (Array Nat)):Bool:=match o with
 |some p=>decide (p.size=n) && p.all λi=>decide (i < n)
 |none=>false
theorem O3:∀a b,xW 2 (Kb (ON a b) (qE 2))=true:=by decide +kernel
theorem O2:∀a b c d e f,xW 3 (Kb (OM a b c d e f) (qE 3))=true:=by decide +kernel
variable{x:P}
theorem i0(h:uh x)(a:uh y):∃b,Sf x y=some b:=by obtain⟨m,i,_,_,rfl⟩:=h;obtain⟨s,e,_,_,rfl⟩:=a;exact⟨_,rfl⟩
theorem nc(h:uh x):Sf x x=some false:=by obtain⟨m,i,_,_,rfl⟩:=h;show some (if m=m then decide (i < i) else _)=_;rw[am rfl,cT (z_ _)]
variable{n:Nat}
theorem DL(h:xW n o=true):∃p,o=some p/\p.size=n/\∀i ∈ p.toList,i < n:=by
 cases o with
 |none=>cases h
 |some p=>
  unfold xW at h;rw[az]at h;refine⟨p,rfl,be h.1,λi x=>?_⟩;have:=Array.all_eq_true'.mp h.2 i (by simpa using x)
  exact be this
theorem Dk(h:oS r):∃t,oS t/\nC r=some (.lst t):=by
 have E:sortable r=true:=by refine bw.mpr λx k=>?_;obtain⟨m,i,_,_,rfl⟩:=h.2 x k;rfl
 have o:∃t,oS t/\oZ r=some t:=by
  unfold oZ;by_cases q:r.length < 2
  .exact⟨r,h,by rw[am q]⟩
  .rw [au q,am (by have:=h.1;lia)];have s:∀n,r.length=n->n≤3->xW n (Kb (ng r) (qE n))=true->∃t,oS t/\((Kb (ng r) (qE r.length)).bind λp=>if p.size < 64 then some (p.toList.map λi=>r.getD i .non) else none)=some t:=λn C D P=>by
    obtain⟨p,e,G,q⟩:=DL P;refine⟨p.toList.map λi=>r.getD i .non,⟨by simp;lia,λl B=>?_⟩,by rw[C,e];simp[show p.size < 64 by lia]⟩;obtain⟨i,A,rfl⟩:=bj.mp B;have:=q i A
    rw[jW,bI (by lia)];exact h.2 _ (fE _)
   match r,h,q,s with
   | [x,y],h,_,s=>
    refine s 2 rfl (by lia) ?_;have k:=h.2 x (by simp);have v:=h.2 y (by simp);obtain⟨a,u⟩:=i0 k v;obtain⟨b,g⟩:=i0 v k;have:ng [x,y]=ON a b:=by
     funext i j;match i,j with
     |0,0=>exact nc k
     |0,1=>exact u
     |1,0=>exact g
     |1,1=>exact nc v
     |0,j+2=>rfl
     |1,j+2=>rfl
     |i+2,0=>rfl
     |i+2,1=>rfl
     |i+2,j+2=>rfl
    rw[this];exact O3 a b
   | [x,y,z],h,_,s=>
    refine s 3 rfl (by lia) ?_;have k:=h.2 x (by simp);have v:=h.2 y (by simp);have w:=h.2 z (by simp);obtain⟨a,u⟩:=i0 k v;obtain⟨b,g⟩:=i0 k w;obtain⟨c,H⟩:=i0 v k;obtain⟨d,S⟩:=i0 v w;obtain⟨e,F⟩:=i0 w k;obtain⟨f,K⟩:=i0 w v;have:ng [x,y,z]=OM a b c d e f:=by
     funext i j;match i,j with
     |0,0=>exact nc k
     |0,1=>exact u
     |0,2=>exact g
     |1,0=>exact H
     |1,1=>exact nc v
     |1,2=>exact S
     |2,0=>exact F
     |2,1=>exact K
     |2,2=>exact nc w
     |0,j+3=>rfl
     |1,j+3=>rfl
     |2,j+3=>rfl
     |i+3,0=>rfl
     |i+3,1=>rfl
     |i+3,2=>rfl
     |i+3,j+3=>rfl
    rw[this];exact O2 a b c d e f
   | [],_,q,_=>simp at q
   | [_],_,q,_=>simp at q
   |_::_::_::_::_,h,_,_=>have:=h.1;simp at this
 obtain⟨t,w,e⟩:=o;exact⟨t,w,by unfold nC;rw[am E,e];rfl⟩
theorem oN:i ∈ eJ N a↔N[i]? = some a:=by
 unfold eJ;rw[eE];constructor
 .exact λh=>be h.2
 .exact λh=>⟨gh.mpr (bR h),mF h⟩
variable{B:BD}
theorem sV(h:x ∈ B.PR):∃r ∈ B.roads,∃a b:Nat,x=pr r a b:=by unfold BD.PR bX at h;obtain⟨r,e,h⟩:=dX.mp h;unfold D_ at h;obtain⟨a,_,h⟩:=dX.mp h;obtain⟨b,_,rfl⟩:=bj.mp h;exact⟨r,e,a,b,rfl⟩
theorem Qy{B:BD}{r:P}{a b:Nat}(s:r ∈ B.roads)(x:B.N[a]? = some (rA r))(e:B.N[b]? = some (rB r))(h:a≠b):pr r a b ∈ B.PR:=by unfold BD.PR bX;refine dX.mpr ⟨r,s,?_⟩;unfold D_;refine dX.mpr ⟨a,oN.mpr x,bj.mpr ⟨b,?_,rfl⟩⟩;rw[eE];exact⟨oN.mpr e,by simpa using h⟩
structure Places(B:BD):Prop where
 get:∀(r:P)(a b:Nat),pr r a b ∈ B.PR->∃d,cR [.inl (a:Int),.inl (b:Int)] B.ks B.vs=some d
 ok:∀(x y:Int)(d:D),cR [.inl x,.inl y] B.ks B.vs=some d->∃(k:Nat)(r:P)(a b:Nat),r ∈ B.roads/\d=.p (.int (k:Int))/\B.PR[k]? = some (pr r a b)
def bK(B:BD)(rds:List P):Prop:=rds.length=B.PR.length/\∀r ∈ rds,∃ls,oS ls/\r=.tup ls
theorem bK.at{B:BD}{u:List P}(h:bK B u){k:Nat}{x:P}(n:B.PR[k]? = some x):k < u.length/\∃l,oS l/\u[k]? = some (.tup l):=by
 have a:k < u.length:=by rw[h.1];exact bR n
 obtain⟨l,e,s⟩:=h.2 u[k] (fE _);exact⟨a,l,e,by rw[bI a,s]⟩
variable{u:List P}
theorem bK.set(h:bK B u)(k:Nat)(a:oS l):bK B (u.set k (.tup l)):=by
 refine⟨by rw[cN];exact h.1,λr x=>?_⟩;rcases Bj x with x|rfl
 .exact h.2 r x
 .exact⟨l,a,rfl⟩
theorem w8(h:BP B):B.PR.length≤2048:=by
 have N:B.N.length≤16:=aF (oH h) (by decide);have k:∀s:List P,(bX B.N s).length≤256 * s.length:=by
  intro s;induction s with
  |nil=>simp[bX]
  |cons r s i=>have:=oj B.N r N;rw[show bX B.N (r::s)=D_ B.N r++bX B.N s by simp[bX],bx,aQ];lia
 have:=k B.roads;have:=h.rl
 unfold BD.PR;lia
theorem QR(h:Str->GF):mT Tb h "Board" "family_of"=some (h "Board.family_of"):=by kernel_rfl
theorem Th(h:Str->GF):mT Tb h "Board" "hands_beside"=some (h "Board.hands_beside"):=by kernel_rfl
theorem QV:fields.contains "family_of"=false:=by decide +kernel
theorem Tq:fields.contains "hands_beside"=false:=by decide +kernel
theorem uk{a:List P}{h:Nat}{f:P}(s:(bM a)[h]? = some f):∃p:Nat,(homes a)[h]? = some (.int (p:Int))/\a[p]? = some f:=by
 unfold bM at s;unfold homes;rw[dC]at s ⊢;cases e:(hw 0 a)[h]? with
 |none=>rw[e]at s;cases s
 |some x=>rw[e]at s;cases s;obtain⟨j,n,k⟩:=oF (a9 e);exact⟨x.1,rfl,by rw[n,fG];exact k⟩
theorem zt{n:Nat}{B:BD}{b i:Nat}{S:aB}(h:Bd B b i S){k:Nat}{f:P}(c:(bM B.fams)[k]? = some f):Y (n+2) "Board.family_of" [.ref i,.p (.int (k:Int))] S=some (.p f,S):=by obtain⟨j,r,l,m,mk,v,h⟩:=h;obtain⟨p,e,x⟩:=uk c;have a:lP (eB (aT Att) d5 "homes") ce [qr i,J (k:Int)] S=some (.p (.int (p:Int)),S):=h.ho.ix (h.homes rfl) rfl (b_ e);have s:eB (aT Att) d5 "families" [qr i,J (k:Int)] S=some (.p (.lst B.fams),S):=h.families rfl;rw[gU];show jw (aS _ [qr i,J (k:Int)] S)=_;rw[aS,lP,s,aw,vE,a];simp[b_ x]
theorem HA{n:Nat}{B:BD}(P:BP B){b i:Nat}{S:aB}(h:Bd B b i S)(k:Nat){s:Str}(g:s ∈ B.N):∃a,Y (n+2) "Board.hands_beside" [.ref i,.p (.int (k:Int)),.p (.str s)] S=some (.p (.lst (cx (oth B.N s k))),a)/\Fr b S a:=by
 obtain⟨K,E,A,C,mk,G,h⟩:=h;obtain⟨j,u,m,e⟩:=h.mm s g;refine⟨_,?_,Fr.frz u e⟩;have r:lP (eB (aT Att) d5 "members") cY [qr i,J (k:Int),qs s] S=some (.ref j,S):=by rw[lP,h.members rfl];simp[h.me,dj,m]
 have l:(cx (eJ B.N s)).length≤1000000:=by have:=ie B.N s;have:B.N.length≤4:=oH P;simp[cx];lia
 have t:bZ (ak 3) (fq il hU) eK (cx (eJ B.N s)) [qr i,J (k:Int),qs s,none] (S.set j (.fz (.lst (cx (eJ B.N s)))))=some (cx (oth B.N s k),S.set j (.fz (.lst (cx (eJ B.N s))))):=by
  rw[dc (p:=λv=>match v with | .int x=>!decide (k=x.toNat)|_=>false) (f:=id) (Inv:=λL=>∃d,L=[qr i,J (k:Int),qs s,d]) (λv c L w=>?_) ⟨none,rfl⟩]
  .congr 2;unfold cx oth;rw[u7,u5];rfl
  .obtain⟨d,rfl⟩:=w;unfold cx at c;obtain⟨o,F,rfl⟩:=bj.mp c;refine⟨[qr i,J (k:Int),qs s,J (o:Int)],rfl,⟨_,rfl⟩,?_,λ_=>by simp⟩;by_cases q:k=o
   .simp [q]
   .have y:¬(o:Int)=(k:Int):=by lia
    have H:¬o=k:=λz=>q z.symm;simp[q,y,H]
 rw[j'];show jw (aS _ [qr i,J (k:Int),qs s] S)=_;simp only[fU,aS,O,bO,jf,vE,r,aw,e.frz];rw[am (by rw[sC];exact l)];rw[show oY [] 1 [some (D.ref i),J (k:Int),qs s]=[qr i,J (k:Int),qs s,none] from rfl,t];rfl
structure GC(B:BD) where
 b:Nat
 i:Nat
 S0:aB
 r:Nat
 bd:Bd B b i S0
 hr:S0.length≤r
theorem GC.le(G:GC B):G.b≤G.S0.length:=G.bd.le
theorem ml{i:Type}{g:jK}{b:ES}{p:i->Lc->Prop}{Sp:i->aB->Prop}{r:i->Nat}{c M:Nat}{f:P->List P}:∀{s:List P},
  (∀x ∈ s,(f x).length≤c/\∀G L S w,p G L->Sp G S->S[r G]? = some (.lst (w.map .p))->w.length+c≤M->∃k L2 e,g x L=some k/\b k S=some (.nx,L2,e)/\p G L2/\Sp G e/\e[r G]? = some (.lst ((w++f x).map .p))) ->
  (s.flatMap f).length≤c * s.length/\∀G L S w,p G L->Sp G S->S[r G]? = some (.lst (w.map .p))->w.length+c * s.length≤M->∃n a,bu g b s L S=some (.nx,n,a)/\p G n/\Sp G a/\a[r G]? = some (.lst ((w++s.flatMap f).map .p))
 | [],_=>⟨by simp,λG L S w m v h _=>⟨L,S,rfl,m,v,by rw[List.flatMap_nil,dB];exact h⟩⟩
 |x::s,j=>by
  obtain⟨D,H⟩:=j x aH;obtain⟨I,C⟩:=ml (s:=s) λy B=>j y (aI _ B);have A:c * (x::s).length=c+c * s.length:=by rw[aQ,Bn,Bm]
  refine⟨by rw[A,jU,bx];lia,λG L S w m v h E=>?_⟩;obtain⟨k,L2,e,l,z,q,u,F⟩:=H G L S w m v h (by lia);obtain⟨n,a,o,t,d,K⟩:=C G L2 e (w++f x) q u F (by rw[bx];lia);exact⟨n,a,by rw[cg l z];exact o,t,d,by rw[jU,<- gi];exact K⟩
theorem ei{m:Type}{g:jK}{b:ES}{p:m->Lc->Prop}{Sp:m->aB->Prop}{r:m->Nat}{R:P->List P->Prop}{c M:Nat}{s:List P}
  (h:∀x ∈ s,∃y:List P,y.length≤c/\R x y/\∀G L S w,p G L->Sp G S->S[r G]? = some (.lst (w.map .p))->w.length+c≤M->∃q L2 n,g x L=some q/\b q S=some (.nx,L2,n)/\p G L2/\Sp G n/\n[r G]? = some (.lst ((w++y).map .p))) :
  ∃f:P->List P,(s.flatMap f).length≤c * s.length/\(∀x ∈ s,R x (f x))/\∀G L S w,p G L->Sp G S->S[r G]? = some (.lst (w.map .p))->w.length+c * s.length≤M->∃t e,bu g b s L S=some (.nx,t,e)/\p G t/\Sp G e/\e[r G]? = some (.lst ((w++s.flatMap f).map .p)):=by
 let f:P->List P:=λx=>@dite _ (x ∈ s) (zT _) (λa=>Classical.choose (h x a)) λ_=>[]
 have v:∀x a,f x=Classical.choose (h x a):=λx a=>dif_pos a;have k:=λx a=>zS (h x a);obtain⟨d,u⟩:=ml (f:=f) λx a=>by rw[v x a];exact⟨(k x a).1,(k x a).2.2⟩
 exact⟨f,d,λx a=>by rw[v x a];exact(k x a).2.1,u⟩
theorem ly{l:List Nat}(h:l.Pairwise (·≠·)):(cx l).Pairwise (·≠·):=mP.mpr (h.imp λ{a b} h q=>h (by have:=P.int.inj q;lia))
theorem qU(N:LS)(s:Str):(eJ N s).Pairwise (·≠·):=(lm (n:=N.length)).filter _
theorem kL{S:aB}{r:Nat}{o x:SO}(h:S[r]? = some o):(S.set r x)[r]? = some x:=by rw[bH (bR h)]
variable{k:Nat}{w:List P}
theorem nr(n:r L S=some (.ref k,S))(h:S[k]? = some (.lst (w.map .p)))(s:a L S=some (.lst y,e))(x:e[k]? = some (.lst (w.map .p)))(l:w.length+y.length≤1000000):cf (fN r a) L S=some (.nx,L,e.set k (.lst ((w++y).map .p))):=by rw[cf,fN,n,aw];simp only[d9,h,s,aw,x,bn];rw[am (by rw[lC];exact l),va];rfl
theorem lD(n:r L S=some (.ref k,S))(h:S[k]? = some (.lst (w.map .p)))(s:a L S=some (.p y,e))(x:e[k]? = some (.lst (w.map .p)))(l:w.length≤1000000):cf (bA r a) L S=some (.nx,L,e.set k (.lst ((w++[y]).map .p))):=by rw[cf,bA,n,aw];simp only[d9,h,s,aw,x];rw[am (by rw[sC,bn];exact l),va];rfl
theorem Li{B:BD}(m:BP B){f:P}(n:f ∈ B.fams):br f ∈ B.N:=by
 have p:1≤jk f:=by
  obtain⟨q,c,o,e,w,t,h,rfl⟩:=m.hf f n;have:=h.hcr.1
  simp[jk];lia
 have y:∀(a:List P)(k:Nat),f ∈ a->∃x ∈ hw k a,x.2=f:=by
  intro a;induction a with
  |nil=>intro k h;cases h
  |cons g r i=>
   intro k h;rcases aP.mp h with rfl|h
   .exact⟨(k,f),by unfold hw;exact iU _ (qo.mpr ⟨by lia,rfl⟩),rfl⟩
   .obtain⟨x,s,b⟩:=i (k+1) h;exact⟨x,by unfold hw;exact eT _ s,b⟩
 obtain⟨x,s,rfl⟩:=y B.fams 0 n;unfold BD.N aY bM;exact bj.mpr ⟨x.2,bj.mpr ⟨x,s,rfl⟩,rfl⟩
theorem SN{B:BD}{k:Nat}{f:P}(h:(bM B.fams)[k]? = some f):B.N[k]? = some (br f):=by unfold BD.N aY;rw[dC,h];rfl
def yv(B:BD)(u:List P)(hd:Nat)(y:P):Prop:=∃(s p k:Nat)(l:List P),y=.tup [.int (s:Int),.int (p:Int)]/\cR [.inl (s:Int),.inl (hd:Int)] B.ks B.vs=J (k:Int)/\k < u.length/\u[k]? = some (.tup l)/\oS l/\p < l.length
theorem LZ{B:BD}(hP:BP B)(N:Places B){n:Nat}{u:List P}(hr:bK B u){hd s:Nat}{d:D}(H:cR [.inl (s:Int),.inl (hd:Int)] B.ks B.vs=some d){g:Str}{j:List P} :
  ∃C:List P,C.length≤3/\((∀y ∈ C,yv B u hd y)/\C.Pairwise (·≠·)/\∀y ∈ C,∃v,y=.tup [.int (s:Int),v])/\∀(b i:Nat)(S:aB)(r:Nat)(w:List P)(q6 q7 E G:Option D),Bd B b i S->S[r]? = some (.lst (w.map .p))->w.length+3≤1000000 ->
   ∃q6' q7' q8' q9',eZ (Y (n+2)) [qr i,qt u,J (hd:Int),qt (.str g::j),qr r,J (s:Int),q6,q7,E,G] S=some (.nx,[qr i,qt u,J (hd:Int),qt (.str g::j),qr r,J (s:Int),q6',q7',q8',q9'],S.set r (.lst ((w++C).map .p))):=by
 obtain⟨k,road,a,b',V,rfl,hk⟩:=N.ok _ _ _ H;obtain⟨T,l,t,K⟩:=hr.at hk;obtain⟨ra,rb,f,c,d1,d2,ha,hb,hkd,hc1,hc2,rfl⟩:=hP.hr road V;have h3:=t.1;have e:∃e:List P,e.length≤l.length/\(∀y ∈ e,M6 l.length y)/\e.Pairwise (·≠·)/\∀(L:Lc)(S:aB),L[7]? = some (qs f)->L[8]? = some (qt l)->OF (aV vO (O (vt "row"))) (eF (OE (fh (aN 8))) di (cC cJ)) (cU (Y (n+2) "unlike_spots") (v2 lF oV)) L S=some (.lst e,S):=by
  have eu:=KJ (n:=n) f t;have hu1:(cx (BZ f l)).length≤l.length:=by unfold cx BZ;rw[bn];exact aF (gY ..) (by simp)
  have hu2:∀y ∈ cx (BZ f l),M6 l.length y:=λy F=>by obtain⟨i,Q,rfl⟩:=bj.mp F;exact⟨i,gh.mp (eE.mp Q).1,rfl⟩
  have hu3:(cx (BZ f l)).Pairwise (·≠·):=ly ((lm (n:=l.length)).filter _);have R:(intsFrom 0 l.length).Pairwise (·≠·):=by rw[Cz];exact ly (lm (n:=l.length))
  have hq:l.length < 1000000:=by lia
  by_cases o:f="row"
  .refine⟨cut (intsFrom 0 l.length) none (some 1),by have:=(lB (h:=intsFrom 0 l.length) (lo:=none) (i:=some 1)).2;rwa [bQ]at this,λy F=>?_,(by rw[show(1:Int)=((1:Nat):Int) from rfl,sP];exact R.sublist (ve ..)),λL S I M=>?_⟩
   .obtain⟨i,rfl,Q⟩:=dn (lB.1 y F);exact⟨i,Q,by simp⟩
   .simp [I,M,o,cV,dF,hq]
  .exact⟨_,hu1,hu2,hu3,λL S I M=>by simp[I,M,o,eu]⟩
 obtain⟨e,W,A,X,es⟩:=e;let p:P->Bool:=λv=>match v with | .int x=>decide (br (l.getD x.toNat .non)=g)|_=>false
 refine⟨(e.filter p).map λv=>.tup [.int (s:Int),v],by rw[bn];exact aF (gY ..) (aF W h3),⟨λy F=>?_,mP.mpr ((X.filter p).imp λ{a b} h q=>h (by simpa using q)),λy F=>by obtain⟨v,_,rfl⟩:=bj.mp F;exact⟨v,rfl⟩⟩,λb i S r w q6 q7 E G hB hS hM=>?_⟩
 .obtain⟨v,hv,rfl⟩:=bj.mp F;obtain⟨x,hx,rfl⟩:=A v (eE.mp hv).1;exact⟨s,x,k,l,rfl,H,T,K,t,hx⟩
 .obtain⟨jh,jp,jl,jm,mk,mv,h⟩:=hB;have e2:bZ (ak 10) (aV (O (ac (ac oV mW) fX)) (O (ac eK fX))) (aR (v2 nO mW)) e [qr i,qt u,J (hd:Int),qt (.str g::j),qr r,J (s:Int),J (k:Int),qs f,qt l,ql e,none] S=some ((e.filter p).map λv=>.tup [.int (s:Int),v],S):=
   dc (Inv:=λL=>∃d,L=[qr i,qt u,J (hd:Int),qt (.str g::j),qr r,J (s:Int),J (k:Int),qs f,qt l,ql e,d]) (λv hv L N=>by obtain⟨d,rfl⟩:=N;obtain⟨x,hx,rfl⟩:=A v hv;have H:l[x]? = some l[x]:=bI hx;obtain⟨m,z,_,_,hz⟩:=t.2 l[x] (fE _);rw[hz]at H;refine⟨[qr i,qt u,J (hd:Int),qt (.str g::j),qr r,J (s:Int),J (k:Int),qs f,qt l,ql e,J (x:Int)],rfl,⟨_,rfl⟩,?_,λ_=>by simp⟩;simp[b_ H,p,H,br]) ⟨none,rfl⟩
  refine⟨J (k:Int),qs f,qt l,ql e,?_⟩;have Z:e.length≤1000000:=by lia
  unfold eZ;refine(aA (e:=[qr i,qt u,J (hd:Int),qt (.str g::j),qr r,J (s:Int),J (k:Int),q7,E,G]) (b:=S) ?_).trans ?_
  .rw [ar,x8,h.places rfl];simp[l_,h.pl,dM,dj,H]
  refine(aA (e:=[qr i,qt u,J (hd:Int),qt (.str g::j),qr r,J (s:Int),J (k:Int),qs f,E,G]) (b:=S) ?_).trans ?_
  .rw [ar,lP,lP,h.pr.ix (h.pairs rfl) (i:=(k:Int)) rfl (b_ hk)];simp[pr]
  rw[aA (by simp[b_ K];exact⟨rfl,rfl⟩)];refine(aA (e:=[qr i,qt u,J (hd:Int),qt (.str g::j),qr r,J (s:Int),J (k:Int),qs f,qt l,ql e]) (b:=S) ?_).trans ?_
  .rw [ar,O,es _ S rfl rfl];rfl
  refine nr rfl hS ?_ hS (by rw[bn];have:=gY p e;lia);simp only[bO,jf,vE];simp[Z,oY,e2]
theorem Jc{B:BD}(C:BP B)(hL:Places B){n:Nat}{hd:Nat}{f:P}(hf:(bM B.fams)[hd]? = some f){u E:List P}(hr:bK B u){V:P}(ht:oA (br f) B.roads E V) :
  ∃k:List P,k.length≤12/\((∀y ∈ k,(V=.non/\y=.non)\/(V≠.non/\yv B u hd y))/\k.Pairwise (·≠·))/\∀(b i:Nat)(S:aB),Bd B b i S->∃d F,Y (n+4) "takeable" [.ref i,.p (.tup u),.p (.int (hd:Int)),.p V] S=some (d,F)/\Fr b S F/\nN S F d k:=by
 rcases ht with rfl|⟨m,a,t,p,_,_,_,_,⟨r,D,hrb,rfl⟩,_,rfl⟩
 .refine⟨[.non],by simp,⟨λy l=>.inl ⟨rfl,by simpa using l⟩,by simp⟩,λb i S A=>⟨.p (.lst [.non]),S,?_,Fr.refl _ _,.inl rfl⟩⟩;rw[nu];simp[eN,kf,tj,d8]
 .have H:rA r ∈ B.N:=by
   obtain⟨⟨f',h1,z⟩,_⟩:=C.ra r D;rw[<- z];exact Li C h1
  obtain⟨f5,h1,z,h3⟩:=ei (m:=GC B) (g:=ak 5) (b:=eZ (Y (n+3))) (Sp:=λG S=>Fr G.b G.S0 S) (r:=λG=>G.r) (R:=λx k=>(∀y ∈ k,yv B u hd y)/\k.Pairwise (·≠·)/\∀y ∈ k,∃v,y=.tup [x,v]) (c:=3) (M:=1000) (s:=cx (oth B.N (rA r) hd))
   (p:=fun G L=>∃q5 I N Q T,L=[qr G.i,qt u,J (hd:Int),qt [.str m,.str (rA r),.str t,.str p],qr G.r,q5,I,N,Q,T]) (fun x j=>by
    unfold cx at j;obtain⟨s,H,rfl⟩:=bj.mp j;unfold oth at H;rw[eE]at H;have hsd:s≠hd:=λq=>by have:=H.2;simp[q]at this
    obtain⟨d,hg⟩:=hL.get r s hd (Qy D (oN.mp H.1) (by rw[SN hf,hrb]) hsd);obtain⟨k,k1,k2,k3⟩:=LZ C hL (n:=n+1) hr hg (g:=m) (j:=[.str (rA r),.str t,.str p]);refine⟨k,k1,k2,λG L S w hL' hS h hM=>?_⟩;obtain⟨q5,I,N,Q,T,rfl⟩:=hL';obtain⟨q6',q7',q8',q9',e⟩:=k3 G.b G.i S G.r w I N Q T (G.bd.fr hS) h (by lia);exact⟨_,_,_,rfl,e,⟨_,_,_,_,_,rfl⟩,hS.set G.le G.hr _,kL h⟩)
  have hol:(cx (oth B.N (rA r) hd)).length≤4:=by
   have h4:B.N.length≤4:=oH C;have:=ie B.N (rA r)
   have:=gY (λo=>!decide (hd=o)) (eJ B.N (rA r));simp[cx,oth];lia
  have hnd:(cx (oth B.N (rA r) hd)).Pairwise (·≠·):=ly ((qU ..).filter _);have hpw:((cx (oth B.N (rA r) hd)).flatMap f5).Pairwise (·≠·):=gm.mpr ⟨λx j=>(z x j).2.1,hnd.imp_of_mem λ{a b} ha hb hab x j y l q=>by obtain⟨v,rfl⟩:=(z a ha).2.2 x j;obtain⟨v',rfl⟩:=(z b hb).2.2 y l;simp only[P.tup.injEq,cy]at q;exact hab q.1⟩
  refine⟨_,by lia,⟨λy l=>.inr ⟨λq=>(by cases q),by obtain⟨x,j,l⟩:=dX.mp l;exact(z x j).1 y l⟩,hpw⟩,λb i S A=>?_⟩
  have J8:=Fr.app b S [.lst []];obtain⟨S1,e1,K⟩:=HA (n:=n+1) C (A.fr J8) hd H;have W:=J8.trans K;have hb:=A.le;obtain⟨L',F,e2,⟨q5,I,N,Q,T,rfl⟩,X,hl⟩:=h3 ⟨b,i,S,S.length,A,al _⟩ [qr i,qt u,J (hd:Int),qt [.str m,.str (rA r),.str t,.str p],qr S.length,none,none,none,none,none] S1 [] ⟨_,_,_,_,_,rfl⟩ W (K.hi _ _ hb (kn _ _)) (by simp;lia);refine⟨.ref S.length,F,?_,X,.inr ⟨S.length,al _,rfl,.inl hl⟩⟩;rw[nu];have Z:=A.fr J8;obtain⟨jh,jp,jl,jm,mk,mv,hb2⟩:=Z;have em:eA (mT Tb (Y (n+3))) d5 "hands_beside" (sY gD (O (ac eK cJ))) [qr i,qt u,J (hd:Int),qt [.str m,.str (rA r),.str t,.str p],qr S.length,none,none,none,none,none] (S++[.lst []])=some (.p (.lst (cx (oth B.N (rA r) hd))),S1):=
   (hb2.meth rfl (Th _) Tq (l:=[.p (.int (hd:Int)),.p (.str (rA r))]) (by simp)).trans e1
  simp[eN,kf,tj,d8,-eA,em,e2]
def qR(v:P):Prop:=∃j:Int,v=.int j
theorem qR.ok(h:qR v)(n:Nat):dh n v=true:=by obtain⟨j,rfl⟩:=h;simp
theorem Mq(hP:BP B)(hL:Places B)(W:bK B u)(hd t v:Int)(hm:ao m=true) :
  ∃I:Option (List P),(∀j,I=some j->bK B j)/\∀(b i:Nat)(S:aB)(s:P)(p e x:Option D),Bd B b i S->∃C E G,
   gC (Y (n+2)) [qr i,qt u,J hd,U s,qt [.str m,.int v],J t,p,e,x] S=match I with
    |none=>some (.rt (.p .non),[qr i,qt u,J hd,U s,qt [.str m,.int v],J t,C,E,G],S)
    |some j=>some (.nx,[qr i,qt j,J hd,U s,qt [.str m,.int v],J t,C,E,G],S):=by
 cases Q:cR [.inl hd,.inl t] B.ks B.vs with
 |none=>
  refine⟨none,λ_ q=>(by cases q),λb i S s p e x r=>⟨U .non,e,x,?_⟩⟩;obtain⟨Z,jp,jl,jm,mk,mv,h⟩:=r;unfold gC;refine(aA (e:=[qr i,qt u,J hd,U s,qt [.str m,.int v],J t,U .non,e,x]) (b:=S) ?_).trans (y2 ?_)
  .rw [ar,um,h.places rfl];simp[l_,h.pl,dM,dj,Q]
  .simp [tj,d8]
 |some d=>
  obtain⟨k,road,a,b',X,rfl,R⟩:=hL.ok _ _ _ Q;obtain⟨T,A,V,l⟩:=W.at R;obtain⟨ra,rb,L,c,d1,d2,ha,hb,hkd,hc1,hc2,y⟩:=hP.hr road X;have M:L2.atI [P.str ra,.str rb,.str L,.int c,.bl d1,.bl d2] 3=some (.int c):=bB (by decide) rfl;have s1:∀(b i:Nat)(S:aB)(s:P)(p e x:Option D),Bd B b i S->ar 6 (um (eB (aT Att) d5 "places") (v2 cY nO)) [qr i,qt u,J hd,U s,qt [.str m,.int v],J t,p,e,x] S=some (.nx,[qr i,qt u,J hd,U s,qt [.str m,.int v],J t,J (k:Int),e,x],S):=λb i S s p e x r=>by obtain⟨Z,jp,jl,jm,mk,mv,h⟩:=r;rw[ar,um,h.places rfl];simp[l_,h.pl,dM,dj,Q]
  by_cases hv:v.natAbs≤999
  .have g:¬(999:Int) < (if v < 0 then -v else v):=by split<;>lia
   by_cases N:c≤(A.length:Int)
   .refine⟨none,λ_ q=>(by cases q),λb i S s p e x r=>⟨J (k:Int),U road,x,?_⟩⟩;refine(aA (s1 b i S s p e x r)).trans ((aA (e:=[qr i,qt u,J hd,U s,qt [.str m,.int v],J t,J (k:Int),e,x]) (b:=S) ?_).trans ((aA (e:=[qr i,qt u,J hd,U s,qt [.str m,.int v],J t,J (k:Int),U road,x]) (b:=S) ?_).trans (y2 ?_)))
    .simp [tj,d8,pj,g]
    .obtain⟨Z,jp,jl,jm,mk,mv,h⟩:=r;rw[ar,lP,h.pr.ix (h.pairs rfl) (i:=(k:Int)) rfl (b_ R)];simp[pr]
    .simp [y,b_ l,cV,dF,M,N]
   .have H:(A++[P.tup [.str m,.int v]]).length≤3:=by simp;lia
    have F:oS (A++[P.tup [.str m,.int v]]):=⟨H,dU V.2 ⟨m,v,hm,hv,rfl⟩⟩;have ea:=ib (xs:=A) (c:=[P.tup [.str m,.int v]]) (by simp at H ⊢;lia);obtain⟨zs,hz,ez⟩:=Dk F;have hpl:=w8 hP;have hrl:=W.1;have er:=λ(w:P)=>rQ (n:=n) (xs:=u) (k:=k) T (by lia) w;obtain⟨f,o,K⟩:∃f,oS f/\((L="heap"/\f=zs)\/(¬L="heap"/\f=A++[P.tup [.str m,.int v]])):=by
     by_cases z:L="heap"
     .exact⟨zs,hz,.inl ⟨z,rfl⟩⟩
     .exact⟨_,F,.inr ⟨z,rfl⟩⟩
    refine⟨some (u.set k (.tup f)),λ_ q=>by cases q;exact W.set k o,λb i S s p e x r=>⟨J (k:Int),U road,qt f,?_⟩⟩;refine(aA (s1 b i S s p e x r)).trans ((aA (e:=[qr i,qt u,J hd,U s,qt [.str m,.int v],J t,J (k:Int),e,x]) (b:=S) ?_).trans ((aA (e:=[qr i,qt u,J hd,U s,qt [.str m,.int v],J t,J (k:Int),U road,x]) (b:=S) ?_).trans ?_))
    .simp [tj,d8,pj,g]
    .obtain⟨Z,jp,jl,jm,mk,mv,h⟩:=r;rw[ar,lP,h.pr.ix (h.pairs rfl) (i:=(k:Int)) rfl (b_ R)];simp[pr]
    rcases K with ⟨z,rfl⟩|⟨z,rfl⟩
    .simp [y,b_ l,cV,dF,M,N,ea,z,Jn,Jl,ez,eX,er]
    .simp [y,b_ l,cV,dF,M,N,ea,z,er]
  .have g:(999:Int) < (if v < 0 then -v else v):=by split<;>lia
   refine⟨none,λ_ q=>(by cases q),λb i S s p e x r=>⟨J (k:Int),e,x,?_⟩⟩;refine(aA (s1 b i S s p e x r)).trans (y2 ?_);simp[tj,d8,pj,g]
theorem Cf{B:BD}(F:BP B)(H:Places B){n:Nat}(hd v:Int){m:Str}(K:ao m=true):∀{l:List P},(∀t ∈ l,qR t)->∀{u:List P},bK B u ->
  ∃r:Option (List P),(∀s,r=some s->bK B s)/\∀(b i:Nat)(S:aB)(d:P)(w f c p:Option D),Bd B b i S->∃L z h a k,
   bu (ak 5) (gC (Y (n+2))) l [qr i,qt u,J hd,U d,qt [.str m,.int v],w,f,c,p] S=match r with
    |none=>some (.rt (.p .non),L,S)
    |some s=>some (.nx,[qr i,qt s,J hd,U d,qt [.str m,.int v],z,h,a,k],S)
 | [],_,u,y=>⟨some u,λ_ q=>by cases q;exact y,λb i S d w f c p _=>⟨[],w,f,c,p,rfl⟩⟩
 |t::l,A,u,y=>by
  obtain⟨j,rfl⟩:=A t aH;obtain⟨r,N,o⟩:=Mq F H (n:=n) y hd j v K;cases r with
  |none=>refine⟨none,λ_ q=>(by cases q),λb i S d w f c p g=>?_⟩;obtain⟨h,a,k,e⟩:=o b i S d f c p g;exact⟨_,w,f,c,p,sB rfl e⟩
  |some s=>obtain⟨r,R,T⟩:=Cf F H (n:=n) hd v K (l:=l) (λx Q=>A x (aI _ Q)) (N s rfl);refine⟨r,R,λb i S d w f c p g=>?_⟩;obtain⟨h,a,k,e⟩:=o b i S d f c p g;obtain⟨L,C,E,G,I,M⟩:=T b i S d (J j) h a k g;exact⟨L,C,E,G,I,by rw[<- M];exact cg rfl e⟩
theorem Jv(p:BP B)(f:Places B)(hd v:Int)(q:ao m=true)(w:∀t ∈ c,qR t)(d:bK B u) :
  ∃a:P,(a=.non\/∃r,bK B r/\a=.tup r)/\∀(b i:Nat)(S:aB),Bd B b i S->Y (n+3) "posted" [.ref i,.p (.tup u),.p (.int hd),.p (.lst c),.p (.tup [.str m,.int v])] S=some (.p a,S):=by
 obtain⟨s,k,x⟩:=Cf p f (n:=n) hd v q w d;cases s with
 |none=>refine⟨.non,.inl rfl,λb i S h=>?_⟩;obtain⟨L,_,_,_,_,e⟩:=x b i S (.lst c) none none none none h;rw[sE];simp only[qA]at e;simp[eN,mw,e]
 |some r=>refine⟨.tup r,.inr ⟨r,k r rfl,rfl⟩,λb i S h=>?_⟩;obtain⟨L,_,_,_,_,e⟩:=x b i S (.lst c) none none none none h;rw[sE];simp only[qA]at e;simp[eN,mw,e]
def Nx(y z:P):Prop:=∀s a:List P,∀q h:P,y=.tup [.tup s,q]->z=.tup [.tup a,h]->s≠a
def K1(dl:Nat)(y:P):Prop:=∃s h,y=.tup [.tup s,.lst h]/\s.length=dl/\(∀a ∈ s,qR a)/\∀t ∈ h,qR t
noncomputable abbrev mq(n:Str)(e:Nat)(r c w s:List P):P:=.tup [.str n,.int (e:Int),.lst r,.lst c,.lst w,.lst s]
theorem B6{s:List P}(h:∀x ∈ s,mD x){x:Str}(a:P.str x ∈ s):∃i:Nat,i < s.length/\mj s (.str x)=some i:=sm (λy e=>(h y e).ok 19) a
theorem tg_ok{B:BD}(Q:BP B){n:Nat}{hd:Nat}{T:Str}{u:Nat}{m c s x:List P}(hF:Fam B.roads T u m c s x)(hf:(bM B.fams)[hd]? = some (mq T u m c s x)){l:List P}(hw:l.length=s.length)(hwi:∀w ∈ l,qR w){j K:Str}
  (hc:(j="who"/\P.str K ∈ s)\/((j="all"\/j="any")/\∃r ∈ B.roads,rA r=T/\K=rB r)) :
  ∃(V:List P)(dl:Nat),dl≤1/\V.length≤4/\((∀y ∈ V,K1 dl y)/\V.Pairwise Nx)/\∀(b i:Nat)(S:aB),Bd B b i S->∃C,Y (n+4) "targets_of" [.ref i,.p (.int (hd:Int)),.p (.str j),.p (.str K),.p (.tup l)] S=some (.p (.lst V),C)/\Fr b S C:=by
 rcases hc with ⟨rfl,X⟩|⟨M,r,Z,hra,rfl⟩
 .obtain⟨k,hk,ek⟩:=B6 hF.hwh X;have hg:l[k]? = some (l[k]'(by lia)):=bI (by lia);generalize hv:l[k]'(by lia)=v at hg;have hvi:qR v:=by rw[<- hv];exact hwi _ (fE _)
  refine⟨[.tup [.tup [],.lst [v]]],0,by simp,by simp,⟨λy N=>⟨[],[v],by simpa using N,by simp,λ_ h=>(by cases h),λt R=>by rw[dY.mp R];exact hvi⟩,by simp⟩,λb i S H=>⟨S,?_,Fr.refl _ _⟩⟩;have ef:=zt (n:=n+1) H hf;obtain⟨jh,jp,jl,jm,mk,mv,h⟩:=H;have E:eA (mT Tb (Y (n+3))) d5 "family_of" (E4 hU) [qr i,J (hd:Int),qs "who",qs K,qt l,none] S=some (.p (mq T u m c s x),S):=
   (h.meth rfl (QR _) QV (l:=[.p (.int (hd:Int))]) (by simp)).trans ef
  rw[iD];simp[eN,fP,-eA,E,SI,ek,b_ hg]
 .have hs:rB r ∈ B.N:=by
   obtain⟨_,⟨f',h1,h2⟩⟩:=Q.ra r Z;rw[<- h2];exact Li Q h1
  have I:(cx (oth B.N (rB r) hd)).length≤4:=by
   have h4:B.N.length≤4:=oH Q;have:=ie B.N (rB r)
   have:=gY (λo=>!decide (hd=o)) (eJ B.N (rB r));simp[cx,oth];lia
  have F:∀t ∈ cx (oth B.N (rB r) hd),qR t:=λt R=>by unfold cx at R;obtain⟨o,_,rfl⟩:=bj.mp R;exact⟨_,rfl⟩
  have E:∀(b i:Nat)(S:aB),Bd B b i S->∃C,eA (mT Tb (Y (n+3))) d5 "hands_beside" (sY hU il) [qr i,J (hd:Int),qs j,qs (rB r),qt l,none] S=some (.p (.lst (cx (oth B.N (rB r) hd))),C)/\Fr b S C:=λb i S H=>by obtain⟨A,D,g⟩:=HA (n:=n+1) Q H hd hs;obtain⟨jh,jp,jl,jm,mk,mv,h⟩:=H;exact⟨A,(h.meth rfl (Th _) Tq (l:=[.p (.int (hd:Int)),.p (.str (rB r))]) (by simp)).trans D,g⟩
  have G:(cx (oth B.N (rB r) hd)).Pairwise (·≠·):=ly ((qU ..).filter _);generalize cx (oth B.N (rB r) hd)=os at I F E G;rcases M with rfl|rfl
  .refine⟨[.tup [.tup [],.lst os]],0,by simp,by simp,⟨λy N=>⟨[],os,by simpa using N,by simp,λ_ h=>(by cases h),F⟩,by simp⟩,λb i S H=>?_⟩;obtain⟨A,D,g⟩:=E b i S H;refine⟨A,?_,g⟩;rw[iD];simp[eN,fP,-eA,D]
  .refine⟨os.map fun o=>.tup [.tup [o],.lst [o]],1,by simp,by simpa using I,⟨fun y N=>?_,mP.mpr (G.imp fun {a b} h as as' q q' e e' z=>h (by
    simp only[P.tup.injEq,cy,ij]at e e';rw[<- e.1,<- e'.1]at z;simpa using z))⟩,λb i S H=>?_⟩
   .obtain⟨o,ho,rfl⟩:=bj.mp N;exact⟨[o],[o],rfl,by simp,λa W=>by rw[dY.mp W];exact F o ho,λa W=>by rw[dY.mp W];exact F o ho⟩
   .obtain⟨A,D,g⟩:=E b i S H;refine⟨A,?_,g⟩;have e2:bZ (ak 6) iN (aR (v2 (aR (v1 kC)) (bq (v1 kC)))) os [qr i,J (hd:Int),qs "any",qs (rB r),qt l,ql os,none] A=some (os.map λo=>.tup [.tup [o],.lst [o]],A):=by
     rw[dc (p:=λ_=>true) (f:=λo=>.tup [.tup [o],.lst [o]]) (Inv:=λL=>∃d,L=[qr i,J (hd:Int),qs "any",qs (rB r),qt l,ql os,d]) (λv hv L hL=>?_) ⟨none,rfl⟩,i6];obtain⟨d,rfl⟩:=hL;exact⟨[qr i,J (hd:Int),qs "any",qs (rB r),qt l,ql os,U v],rfl,⟨_,rfl⟩,rfl,λ_=>by simp⟩
    have hq:os.length≤1000000:=by lia
    rw[iD];simp[eN,fP,-eA,D,bO,hq,oY,e2]
def kT(y:P):Prop:=∃s p:Nat,y=.tup [.int (s:Int),.int (p:Int)]
theorem OC{n:Nat}{j:List P}{d:Str}{e:Nat}{r c o t:List P}(F:Fam j d e r c o t){x:List P}(hw:x.length=o.length)(i:∀w ∈ x,qR w){p y:P}(H:oA d j o p)(K:(p=.non/\y=.non)\/(p≠.non/\kT y)) :
  ∃f,f.length=o.length/\(∀w ∈ f,qR w)/\dJ (Y (n+3) "whos_behind") [mq d e r c o t,.tup x,p,y]=some (.tup f):=by
 rcases H with rfl|⟨m,a,g,u,_,_,_,_,_,b,rfl⟩
 .refine⟨x,hw,i,?_⟩;rw[gN,aO];simp[eY,tj,d8]
 .obtain⟨s,B,rfl⟩:kT y:=by
   rcases K with ⟨q,_⟩|⟨_,q⟩
   .cases q
   .exact q
  by_cases v:u=""
  .refine⟨x,hw,i,?_⟩;rw[gN,aO];simp[eY,tj,d8,v]
  .obtain⟨k,A,l⟩:=B6 F.hwh (b.resolve_left v);have S:=F.wl;have z:=rQ (n:=n) (xs:=x) (k:=k) (by lia) (by lia) (.int (s:Int));refine⟨x.set k (.int (s:Int)),by rw[cN];exact hw,λw h=>?_,?_⟩
   .rcases Bj h with h|rfl
    .exact i w h
    .exact⟨_,rfl⟩
   .rw [gN,aO];simp[eY,tj,d8,v,SI,l,z]
theorem wC(x:cj)(y:P):∀(n:List cj)(c:List P),n.Nodup->n.length=c.length->∃s a,sO x (.p y) n (c.map .p)=(s,a.map .p)/\s.Nodup/\s.length=a.length/\s.length≤n.length+1/\(∀k ∈ s,k=x\/k ∈ n)/\∀k,cF k s a=if x=k then some y else cF k n c
 | [],[],_,_=>⟨[x],[y],rfl,by simp,rfl,by simp,λk h=>.inl (by simpa using h),λk=>by by_cases q:x=k<;>simp[cF,q]⟩
 | [],_::_,_,h=>by simp at h
 |_::_,[],_,h=>by simp at h
 |f::n,v::c,m,l=>by
  obtain⟨t,m⟩:=cz.mp m;by_cases q:f=x
  .refine⟨f::n,y::c,by simp[sO,q],cz.mpr ⟨t,m⟩,by simpa using l,by simp,λk h=>.inr h,λk=>?_⟩;subst q;by_cases b:f=k
   .simp [cF,b]
   .simp [cF,b]
  .obtain⟨s,a,e,d,w,g,r,u⟩:=wC x y n c m (by simpa using l);refine⟨f::s,v::a,by simp[sO,q,e],cz.mpr ⟨λz=>?_,d⟩,by simp[w],by simp;lia,λk h=>?_,λk=>?_⟩
   .rcases r f z with z|z
    .exact q z
    .exact t z
   .rcases aP.mp h with rfl|h
    .exact .inr aH
    .rcases r k h with h|h
     .exact .inl h
     .exact .inr (aI _ h)
   .show (if f=k then some v else cF k s a)=_;by_cases b:f=k
    .subst b;have:¬x=f:=λz=>q z.symm
     simp[cF,this]
    .rw [au b,u];by_cases p:x=k
     .simp [p]
     .simp [p,cF,b]
structure Giv(gk:List cj)(gv:List P):Prop where
 nd:gk.Nodup
 ln:gk.length=gv.length
 le:gk.length≤100
 iv:∀k v,cF k gk gv=some v->qR v
variable{s:List cj}{f:List P}
theorem Giv.put(h:Giv s f)(l:s.length≤99)(y:cj)(i:Int):∃g x,sO y (.p (.int i)) s (f.map .p)=(g,x.map .p)/\Giv g x/\g.length≤s.length+1:=by
 obtain⟨n,b,e,c,m,r,p,t⟩:=wC y (.int i) s f h.nd h.ln;refine⟨n,b,e,⟨c,m,by lia,λk v a=>?_⟩,r⟩;rw[t]at a;split at a
 .cases a;exact⟨_,rfl⟩
 .exact h.iv k v a
theorem B'{o:EE}{k v:EV}{L:Lc}{S n:aB}{j:Nat}{s:List cj}{f:List P}{x:Str}{i:Int}(h:Giv s f)(l:s.length≤99)(q:v L S=some (.int i,n))(p:o L n=some (.ref j,n))(t:k L n=some (.str x,n))(r:n[j]? = some (.dct s (f.map .p))):∃g a,Giv g a/\g.length≤s.length+1/\ju o k v L S=some (.nx,L,n.set j (.dct g (a.map .p))):=by
 obtain⟨g,a,e,c,m⟩:=h.put l (.inr x) i;refine⟨g,a,c,m,?_⟩;have b:y4 o k v L S=some (.nx,L,n.set j (.dct g (a.map .p))):=by unfold y4;rw[q,aw,p,aw,t,aw];simp only[m_,r,dj];rw[am ⟨h.nd,by rw[sC];lia⟩,e]
 unfold ju;rw[b]
theorem uc{k:cj}:∀{s:List cj}{x:List P},DJ k s=false->cF k s x=none
 | [],_,_=>by cases ‹List P›<;>rfl
 |_::_,[],_=>rfl
 |a::s,v::x,h=>by unfold DJ at h;rw[gf,AE]at h;show(if a=k then some v else cF k s x)=none;rw[au (of_decide_eq_false h.1)];exact uc h.2
noncomputable abbrev fK(x:Str)(m w t:P)(c s:List P)(r:P):P:=.tup [.str x,m,w,t,.lst c,.lst s,r]
theorem xt(a b c d e f g:P):L2.atI [a,b,c,d,e,f,g] 3=some d:=bB (by decide) rfl
theorem O1(a b c d e f g:P):L2.atI [a,b,c,d,e,f,g] 4=some e:=bB (by decide) rfl
theorem O0(a b c d e f g:P):L2.atI [a,b,c,d,e,f,g] 5=some f:=bB (by decide) rfl
theorem Fq(a b c d e f g:P):L2.atI [a,b,c,d,e,f,g] 6=some g:=bB (by decide) rfl
theorem Ts(a b c d e f:P):L2.atI [a,b,c,d,e,f] 2=some c:=bB (by decide) rfl
theorem Ut(a b c d e f:P):L2.atI [a,b,c,d,e,f] 5=some f:=bB (by decide) rfl
theorem Nv{W:Str->GF}(G:Giv s f)(B:o=.dct s (f.map .p)\/o=.fz (.dct s f))(E:sk c)(r:m[k]? = some z)(F:∃i:Int,i.natAbs≤999/\z=.int i)(V:w.length≤1000)(t p q:Option D) :
  (∃L,a8 M [U a,qt m,U st,U A,qr 0,t,p,qr 1,J (k:Int),U c,q] [o,.lst (w.map .p)]=some (.rt (.p .non),L,[.fz (.dct s f),.lst (w.map .p)])) \/
  ∃i:Int,i.natAbs≤999/\a8 M [U a,qt m,U st,U A,qr 0,t,p,qr 1,J (k:Int),U c,q] [o,.lst (w.map .p)]=some (.nx,[U a,qt m,U st,U A,qr 0,t,p,qr 1,J (k:Int),U c,J i],[.fz (.dct s f),.lst ((w++[P.int i]).map .p)]):=by
 obtain⟨x,lo,j,u,_,N,Q,R,T,rfl⟩:=E;obtain⟨K,S,rfl⟩:=F;have d:toP 9 (.ref 0) [o,.lst (w.map .p)]=some (.dct s f,[.fz (.dct s f),.lst (w.map .p)]):=by
  rcases B with rfl|rfl
  .have:pA (toP 8) (f.map .p) [SO.dct s (f.map .p),.lst (w.map .p)]=some (f,[SO.dct s (f.map .p),.lst (w.map .p)]):=na ..;simp[toP,this]
  .rfl
 have I:qR ((cF (.inr x) s f).getD (.int K)):=by
  cases e:cF (.inr x) s f with
  |none=>exact⟨K,rfl⟩
  |some v=>exact G.iv _ v e
 obtain⟨n,h⟩:=I;have l:w.length≤1000000:=by lia
 cases b:DJ (.inr x) s with
 |false=>
  have y:n=K:=by rw[uc b]at h;exact(P.int.inj h).symm
  right;refine⟨n,by rw[y];exact S,?_⟩;rw[<- dE];simp[a8,d,dj,b_ r,h,K6,NR,ph,b,d9,l]
 |true=>
  by_cases H:lo≤n/\n≤j
  .right;refine⟨n,by lia,?_⟩;rw[<- dE];simp[a8,d,dj,b_ r,h,K6,NR,ph,b,d9,l,H.1,H.2]
  .left;refine⟨[U a,qt m,U st,U A,qr 0,t,p,qr 1,J (k:Int),qt [.str x,.int lo,.int j,.int u],J n],?_⟩;by_cases g:lo≤n
   .have C:¬n≤j:=λz=>H ⟨g,z⟩;simp[a8,d,dj,b_ r,h,K6,NR,ph,b,g,C]
   .simp [a8,d,dj,b_ r,h,K6,NR,ph,b,g]
theorem CQ{K:Str->GF}(v:∀c ∈ b,∃i:Int,i.natAbs≤999/\c=.int i)(G:Giv s f)(u g:Option D):∀{l:List P}{k:Nat},(∀c ∈ l,sk c)->k+l.length=b.length->∀{n:SO},(n=.dct s (f.map .p)\/n=.fz (.dct s f))->∀{w:List P},w.length=k->b.length≤1000->∀(j H q:Option D),
  (∃L S,bu (aW [ak 8,ak 9]) (a8 C) (bv (k:Int) l) [U m,qt b,U st,U A,qr 0,u,g,qr 1,j,H,q] [n,.lst (w.map .p)]=some (.rt (.p .non),L,S)) \/
  ∃y r t a o,y.length=l.length/\(∀c ∈ y,∃i:Int,i.natAbs≤999/\c=.int i)/\bu (aW [ak 8,ak 9]) (a8 C) (bv (k:Int) l) [U m,qt b,U st,U A,qr 0,u,g,qr 1,j,H,q] [n,.lst (w.map .p)]=some (.nx,[U m,qt b,U st,U A,qr 0,u,g,qr 1,r,t,a],[o,.lst ((w++y).map .p)])
 | [],k,_,_,n,_,w,_,_,j,H,q=>.inr ⟨[],j,H,q,n,rfl,λ_ h=>(by cases h),by simp[bv,bu]⟩
 |c::l,k,F,N,n,B,w,T,Q,j,H,q=>by
  simp only[aQ]at N;have d:b[k]? = some (b[k]'(by lia)):=bI (by lia);unfold bv;rcases Nv (M:=C) (W:=K) (a:=m) (st:=st) (A:=A) (w:=w) G B (F c aH) d (v _ (fE _)) (by lia) u g q with ⟨L,e⟩|⟨i,M,e⟩
  .exact .inl ⟨_,_,sB rfl e⟩
  .rcases CQ (C:=C) (K:=K) (m:=m) (st:=st) (A:=A) v G u g (l:=l) (k:=k+1) (λx R=>F x (aI _ R)) (by lia) (n:=.fz (.dct s f)) (.inr rfl) (w:=w++[.int i]) (by simp;lia) Q (J (k:Int)) (U c) (J i) with ⟨L,S,p⟩|⟨y,r,t,a,o,E,I,p⟩
   .rw [jE]at p;exact .inl ⟨L,S,(cg rfl e).trans p⟩
   .rw [jE]at p;refine .inr ⟨.int i::y,r,t,a,o,by simp[E],λz d=>?_,?_⟩
    .rcases aP.mp d with rfl|d
     .exact⟨i,M,rfl⟩
     .exact I z d
    .rw [show w++.int i::y=w++[.int i]++y by simp];exact(cg rfl e).trans p
theorem Qo{X t:List P}{W:Str}{F:P}(T:oA W X t F){K:List cj}{V:List P}(Q:nM (more F) K V){s:List cj}{f:List P}(G:Giv s f)(R:s.length≤99)(h p z A r:P)(x:Str)(c H:List P)(d u j l y q:Option D) :
  ∃g b,Giv g b/\dQ (jI (bV (fy dN (O (ac cY hZ)) (O (vC (.non))))) (fq (O (ac (ac cY hZ) eL)) (O (vt "")))) (ju lr (ac (ac cY hZ) eL) (ac eK (vt "it"))) eM [U h,U p,U (fK x z A F c H r),U (.dct K V),qr 0,d,u,j,l,y,q] [.dct s (f.map .p)]=some (.nx,[U h,U p,U (fK x z A F c H r),U (.dct K V),qr 0,d,u,j,l,y,q],[.dct g (b.map .p)]):=by
 rcases T with rfl|⟨m,a,n,w,_,_,_,_,_,_,rfl⟩
 .exact⟨s,f,G,by simp[xt,dN,d8]⟩
 .by_cases E:n=""
  .exact⟨s,f,G,by simp[xt,dN,d8,E]⟩
  .obtain⟨i,_,I⟩:=Q "it" (by simp[more]);obtain⟨B,C,M,Z,e⟩:=B' (o:=aN 4) (k:=ac (ac cY hZ) eL) (v:=ac eK (vt "it")) (L:=[U h,U p,U (fK x z A (.tup [.str m,.str a,.str n,.str w]) c H r),U (.dct K V),qr 0,d,u,j,l,y,q]) (S:=[.dct s (f.map .p)]) G R (i:=i) (n:=[.dct s (f.map .p)]) (x:=n) (by simp[I]) rfl (by simp[xt]) rfl;refine⟨B,C,M,?_⟩;rw[dQ];have N:(jI (bV (fy dN (O (ac cY hZ)) (O (vC (.non))))) (fq (O (ac (ac cY hZ) eL)) (O (vt "")))) [U h,U p,U (fK x z A (.tup [.str m,.str a,.str n,.str w]) c H r),U (.dct K V),qr 0,d,u,j,l,y,q] [.dct s (f.map .p)]=some (true,[.dct s (f.map .p)]):=by simp[xt,dN,d8,E]
   rw[N];exact e
theorem Qn{n:Nat}{rs:List P}{z:Str}{q:Nat}{m c a p:List P}(Z:Fam rs z q m c a p){Q:List P}(hc:CellsOk c Q){x:Str}{G M l:P}{d I:List P}{u:P}(hS:Stp z m c a rs G M l d I u){K:List cj}{V:List P}(he:nM (ua c++more l) K V) :
  ∃j:P,(j=.non\/∃H,CellsOk c H/\j=.tup H)/\dJ (Y (n+6) "cells_behind") [mq z q m c a p,.tup Q,fK x G M l d I u,.dct K V]=some j:=by
 have hN:∀x ∈ ua c++more l,mD x:=λx hx=>(bP.mp hx).elim (wb Z.hce.1 x) (wc l x);have hcl:=hS.cl;have hc3:=Z.cl;have hcn:=hc.1;let A:List (Option D):=[U (mq z q m c a p),qt Q,U (fK x G M l d I u),U (.dct K V),qr 0]
 let Inv:Nat->Lc->aB->Prop:=λi L S=>∃(s:List cj)(f:List P)(C E:Option D),Giv s f/\s.length≤i/\L=A++[C,E,none,none,none,none]/\S=[.dct s (f.map .p)]
 obtain⟨L',S',R,s,f,C,E,hG,hgl,rfl,rfl⟩:=cD (g:=aW [ak 5,ak 6]) (b:=gW (Y (n+5))) (Inv:=Inv) (xs:=d) (k:=0) (L:=A++[none,none,none,none,none,none]) (S:=[.dct [] []]) (λi v L S hv hI=>by obtain⟨s,f,C,E,hG,hgl,rfl,rfl⟩:=hI;have hi:=bR hv;obtain⟨y,t,_,ht,rfl⟩:=hS.ch v (a9 hv);obtain⟨r,er⟩:=rk hN he ht (n:=n+1);obtain⟨T,W,X,h2,e⟩:=B' (o:=aN 4) (k:=vv 5) (v:=cU (Y (n+5) "value_of") (v2 kC eK)) (L:=A++[qs y,U t,none,none,none,none]) (S:=[.dct s (f.map .p)]) hG (by lia) (i:=r) (n:=[.dct s (f.map .p)]) (by simp[A,er]) rfl rfl rfl;exact⟨_,_,_,rfl,e,T,W,_,_,X,by lia,rfl,rfl⟩) ⟨[],[],none,none,⟨by simp,rfl,by simp,λk v h=>by cases h⟩,by simp,rfl,rfl⟩
 simp only[A,mO,fD]at R;obtain⟨gk2,gv2,hG2,e2⟩:=Qo hS.htk (λx hx=>he x (eT _ hx)) hG (by lia) (mq z q m c a p) (.tup Q) G M u x d I C E none none none none;have B:=CQ (C:=Y (n+5)) (K:=Y (n+4)) (m:=mq z q m c a p) (st:=fK x G M l d I u) (A:=.dct K V) hc.2 hG2 C E (l:=c) (k:=0) Z.hce.1 (by lia) (.inl rfl) (w:=[]) rfl (by lia) none none none;rw[show((0:Nat):Int)=0 from rfl]at B;rcases B with ⟨L',S',F⟩|⟨N,q8',q9',q10',o,X,h2,F⟩
 .refine⟨.non,.inl rfl,?_⟩;rw[jC,aO];simp only[gc]at F;simp[-dQ,gb,pb,O1,R,e2,N5,F]
 .refine⟨.tup N,.inr ⟨N,⟨X,h2⟩,rfl⟩,?_⟩;rw[jC,aO];simp only[gc,fD]at F;have t1:toP 9 (.ref 1) [o,.lst (N.map .p)]=some (.lst N,[o,.fz (.lst N)]):=gu rfl;simp[-dQ,gb,pb,O1,R,e2,N5,F,t1,eX]
end My
namespace My
open PySem L2 Ev
def o_(B:BD)(t:Nat)(y:P):Prop:=∃s r,y=.tup [.tup s,.tup r]/\s.length=t/\(∀a ∈ s,qR a)/\bK B r
structure GS(B:BD)(K:List cj)(V:List P) extends GC B where
 kv:Nat
 hkv:b≤kv
 hk:S0[kv]? = some (.fz (.dct K V))
abbrev FL(i k r:Nat)(hd t m l:P)(d f b c q h:Option D)(x a e s n:Option D):Lc:=[qr i,U hd,U t,qr k,U m,U l,d,f,b,c,q,h,qr r,x,a,e,s,n]
theorem T_{B:BD}(j:BP B)(s:Places B){n:Nat}{K:List cj}{V:List P}(hd v:Int){m:Str}(hm:ao m=true){t:Nat}(ht:t≤10){f:List P}(has:f.length=t)(hai:∀a ∈ f,qR a){p:List P}(hr:bK B p)(I E l:P)(F A C x:Option D){dl:Nat}(hdl:dl≤1){y:P}(hy:K1 dl y) :
  ∃X:List P,X.length≤1/\((∀z ∈ X,o_ B (t+dl) z)/\∀z ∈ X,∃c q r,y=.tup [.tup c,q]/\z=.tup [.tup (f++c),.tup r])/\∀(G:GS B K V)(L:Lc)(S:aB)(w:List P),(∃d o H k,L=FL G.i G.kv G.r (.int hd) I E l d F A C x (qt [.str m,.int v]) (qt f) (qt p) o H k)->Fr G.b G.S0 S->S[G.r]? = some (.lst (w.map .p))->w.length+1≤1000 ->
   ∃L1 L2 u,aW [ak 15,ak 16] y L=some L1/\gP (Y (n+3)) L1 S=some (.nx,L2,u)/\(∃d o H k,L2=FL G.i G.kv G.r (.int hd) I E l d F A C x (qt [.str m,.int v]) (qt f) (qt p) o H k)/\Fr G.b G.S0 u/\u[G.r]? = some (.lst ((w++X).map .p)):=by
 obtain⟨c,M,rfl,hbl,hbi,hti⟩:=hy;obtain⟨ans,W,ep⟩:=Jv j s (n:=n) hd v hm hti hr;have R:=ib (xs:=f) (c:=c) (by lia);rcases W with rfl|⟨r,hr',rfl⟩
 .refine⟨[],by simp,⟨λ_ h=>(by cases h),λ_ h=>(by cases h)⟩,λG L S w N T Z hM=>?_⟩;obtain⟨d,o,H,k,rfl⟩:=N;obtain⟨u,e,i⟩:=yo (b:=G.b) (g:=Y (n+3) "posted") (q:=Lp d5 (aN 14) hU (aN 16) (aN 11)) (L:=FL G.i G.kv G.r (.int hd) I E l d F A C x (qt [.str m,.int v]) (qt f) (qt p) (qt c) (ql M) k) (S:=S) (l:=[.ref G.i,.p (.tup p),.p (.int hd),.p (.lst M),.p (.tup [.str m,.int v])]) rfl (ep G.b G.i S (G.bd.fr T)) (Fr.refl _ _);refine⟨FL G.i G.kv G.r (.int hd) I E l d F A C x (qt [.str m,.int v]) (qt f) (qt p) (qt c) (ql M) k,FL G.i G.kv G.r (.int hd) I E l d F A C x (qt [.str m,.int v]) (qt f) (qt p) (qt c) (ql M) (U .non),u,rfl,?_,⟨_,_,_,_,rfl⟩,T.trans i,?_⟩
  .refine (aA (e:=FL G.i G.kv G.r (.int hd) I E l d F A C x (qt [.str m,.int v]) (qt f) (qt p) (qt c) (ql M) (U .non)) (b:=u) ?_).trans ?_
   .rw [ar,O,e];rfl
   .simp [dN,d8]
  .rw [dB];exact i.hi _ _ (aF G.le G.hr) Z
 .refine⟨[.tup [.tup (f++c),.tup r]],by simp,⟨λz hz=>⟨f++c,r,by simpa using hz,by rw[bx];lia,λa ha=>(bP.mp ha).elim (hai a) (hbi a),hr'⟩,λz hz=>⟨c,_,r,rfl,by simpa using hz⟩⟩,λG L S w N T Z hM=>?_⟩;obtain⟨d,o,H,k,rfl⟩:=N;obtain⟨u,e,i⟩:=yo (b:=G.b) (g:=Y (n+3) "posted") (q:=Lp d5 (aN 14) hU (aN 16) (aN 11)) (L:=FL G.i G.kv G.r (.int hd) I E l d F A C x (qt [.str m,.int v]) (qt f) (qt p) (qt c) (ql M) k) (S:=S) (l:=[.ref G.i,.p (.tup p),.p (.int hd),.p (.lst M),.p (.tup [.str m,.int v])]) rfl (ep G.b G.i S (G.bd.fr T)) (Fr.refl _ _);have Q:=i.hi _ _ (aF G.le G.hr) Z;refine⟨FL G.i G.kv G.r (.int hd) I E l d F A C x (qt [.str m,.int v]) (qt f) (qt p) (qt c) (ql M) k,FL G.i G.kv G.r (.int hd) I E l d F A C x (qt [.str m,.int v]) (qt f) (qt p) (qt c) (ql M) (qt r),u.set G.r (.lst ((w++[P.tup [.tup (f++c),.tup r]]).map .p)),rfl,?_,⟨_,_,_,_,rfl⟩,(T.trans i).set G.le G.hr _,kL Q⟩;refine(aA (e:=FL G.i G.kv G.r (.int hd) I E l d F A C x (qt [.str m,.int v]) (qt f) (qt p) (qt c) (ql M) (qt r)) (b:=u) ?_).trans ?_
  .rw [ar,O,e];rfl
  .rw [dQ];have hc:(bV (fy dN (aN 17) (O (vC .non)))) (FL G.i G.kv G.r (.int hd) I E l d F A C x (qt [.str m,.int v]) (qt f) (qt p) (qt c) (ql M) (qt r)) u=some (true,u):=by simp[dN,d8]
   rw[hc,aw,am rfl];exact lD rfl Q (by simp[R]) Q (by lia)
theorem T9{B:BD}(j:BP B)(s:Places B){n:Nat}{K:List cj}{V:List P}{hd:Nat}{Q:Str}{C:Nat}{u p A H:List P}(I:Fam B.roads Q C u p A H)(o:(bM B.fams)[hd]? = some (mq Q C u p A H)){l:List P}(hw:l.length=A.length)(k:∀w ∈ l,qR w){h d:Str}
  (hc:(h="who"/\P.str d ∈ A)\/((h="all"\/h="any")/\∃r ∈ B.roads,rA r=Q/\d=rB r)) (v:Int) {m:Str} (hm:ao m=true) {t:Nat} (ht:t≤10) (sn rd:P) (q7 q8:Option D) {W:List P} (hW:∀y ∈ W,o_ B t y) (hWn:W.Pairwise Nx) :
  ∃(N:List P)(dl:Nat),dl≤1/\N.length≤4 * W.length/\((∀z ∈ N,o_ B (t+dl) z)/\N.Pairwise Nx)/\∀(G:GS B K V)(L:Lc)(S:aB)(Z:List P),(∃d6 T X i F E,L=FL G.i G.kv G.r (.int (hd:Int)) sn rd (.tup l) d6 q7 q8 (qs h) (qs d) (qt [.str m,.int v]) T X i F E)->Fr G.b G.S0 S->S[G.r]? = some (.lst (Z.map .p))->Z.length+4 * W.length≤1000 ->
   ∃L' S',bu (aW [ak 13,ak 14]) (e_ (Y (n+4))) W L S=some (.nx,L',S')/\(∃d6 T X i F E,L'=FL G.i G.kv G.r (.int (hd:Int)) sn rd (.tup l) d6 q7 q8 (qs h) (qs d) (qt [.str m,.int v]) T X i F E)/\Fr G.b G.S0 S'/\S'[G.r]? = some (.lst ((Z++N).map .p)):=by
 obtain⟨tg,dl,hdl,h1,⟨h2,h2n⟩,h3⟩:=tg_ok j (n:=n) I o hw k hc;obtain⟨f,f1,f2,f3⟩:=ei (m:=GS B K V) (c:=4) (M:=1000) (g:=aW [ak 13,ak 14]) (b:=e_ (Y (n+4))) (s:=W) (Sp:=fun G S=>Fr G.b G.S0 S) (r:=fun G=>G.r) (R:=fun x N=>(∀z ∈ N,o_ B (t+dl) z)/\N.Pairwise Nx/\∀z ∈ N,∃as bs q rs,x=.tup [.tup as,q]/\as.length=t/\z=.tup [.tup (as++bs),rs]) (p:=fun G L=>∃d6 T X i F E,L=FL G.i G.kv G.r (.int (hd:Int)) sn rd (.tup l) d6 q7 q8 (qs h) (qs d) (qt [.str m,.int v]) T X i F E) (fun x hx=>by
  obtain⟨as,rs,rfl,ha1,ha2,hr⟩:=hW x hx;obtain⟨g,k1,k2,k3⟩:=ei (m:=GS B K V) (c:=1) (M:=1000) (g:=aW [ak 15,ak 16]) (b:=gP (Y (n+4))) (s:=tg) (Sp:=λG S=>Fr G.b G.S0 S) (r:=λG=>G.r) (R:=λy N=>N.length≤1/\(∀z ∈ N,o_ B (t+dl) z)/\∀z ∈ N,∃bs q rs',y=.tup [.tup bs,q]/\z=.tup [.tup (as++bs),.tup rs']) (p:=λG L=>∃d6 i F E,L=FL G.i G.kv G.r (.int (hd:Int)) sn rd (.tup l) d6 q7 q8 (qs h) (qs d) (qt [.str m,.int v]) (qt as) (qt rs) i F E)
   (λy hy=>by obtain⟨N,l1,l2,l3⟩:=T_ j s (n:=n+1) (K:=K) (V:=V) (hd:Int) v hm ht ha1 ha2 hr sn rd (.tup l) q7 q8 (qs h) (qs d) hdl (h2 y hy);exact⟨N,l1,⟨l1,l2⟩,l3⟩)
  refine⟨tg.flatMap g,by lia,⟨λz hz=>?_,gm.mpr ⟨λy hy=>?_,h2n.imp_of_mem λ{a b} ha hb hab x hx y hy cs cs' q q' e e' z=>?_⟩,λz hz=>?_⟩,λG L S Z hLp fr hS hM=>?_⟩
  .obtain⟨y,hy,hz⟩:=dX.mp hz;exact(k2 y hy).2.1 z hz
  .have:=(k2 y hy).1;match hq:g y with
   | []=>exact .nil
   | [_]=>exact Bf ..
   |_::_::_=>rw[hq]at this;simp at this
  .obtain⟨bs1,q1,r1,ea,rfl⟩:=(k2 a ha).2.2 x hx;obtain⟨bs2,q2,r2,eb,rfl⟩:=(k2 b hb).2.2 y hy;simp only[P.tup.injEq,cy,ij]at e e';exact hab bs1 bs2 q1 q2 ea eb (List.append_cancel_left (e.1.trans (z.trans e'.1.symm)))
  .obtain⟨y,hy,hz⟩:=dX.mp hz;obtain⟨bs,q,r',_,rfl⟩:=(k2 y hy).2.2 z hz;exact⟨as,bs,_,_,rfl,ha1,rfl⟩
  obtain⟨d6,T,X,i,F,E,rfl⟩:=hLp;obtain⟨S1,e1,fr1⟩:=h3 G.b G.i S (G.bd.fr fr);obtain⟨S2,e2,fr2⟩:=yo (b:=G.b) (g:=Y (n+4) "targets_of") (q:=Lp d5 hU (aN 9) pp (aN 5)) (L:=FL G.i G.kv G.r (.int (hd:Int)) sn rd (.tup l) d6 q7 q8 (qs h) (qs d) (qt [.str m,.int v]) (qt as) (qt rs) i F E) (S:=S) (l:=[.ref G.i,.p (.int (hd:Int)),.p (.str h),.p (.str d),.p (.tup l)]) rfl e1 fr1;obtain⟨L',S',e3,hL',fr3,h4⟩:=k3 G _ S2 Z ⟨d6,i,F,E,rfl⟩ (fr.trans fr2) (fr2.hi _ _ (aF G.le G.hr) hS) (by lia);obtain⟨d6',q15',q16',q17',rfl⟩:=hL';refine⟨FL G.i G.kv G.r (.int (hd:Int)) sn rd (.tup l) d6 q7 q8 (qs h) (qs d) (qt [.str m,.int v]) (qt as) (qt rs) i F E,FL G.i G.kv G.r (.int (hd:Int)) sn rd (.tup l) d6' q7 q8 (qs h) (qs d) (qt [.str m,.int v]) (qt as) (qt rs) q15' q16' q17',S',rfl,?_,⟨_,_,_,_,_,_,rfl⟩,fr3,h4⟩;unfold e_;rw[bW,jf,e2];exact e3)
 refine⟨W.flatMap f,dl,hdl,f1,⟨λz hz=>?_,gm.mpr ⟨λx hx=>(f2 x hx).2.1,hWn.imp_of_mem λ{a b} ha hb hab x hx y hy as as' q q' e e' z=>?_⟩⟩,f3⟩
 .obtain⟨x,hx,hz⟩:=dX.mp hz;exact(f2 x hx).1 z hz
 .obtain⟨as1,bs1,q1,r1,ea,l1,rfl⟩:=(f2 a ha).2.2 x hx;obtain⟨as2,bs2,q2,r2,eb,l2,rfl⟩:=(f2 b hb).2.2 y hy;simp only[P.tup.injEq,cy,ij]at e e';refine hab as1 as2 q1 q2 ea eb (List.append_inj (e.1.trans (z.trans e'.1.symm)) (by lia)).1
theorem Fj(r:Fr b x S)(e:b≤x.length)(h:nN x S d W):∃a,toP 9 d (S++[.lst []])=some (.lst W,a)/\Fr b x a/\a[S.length]? = some (.lst []):=by
 have f:=r.trans (Fr.app b S [.lst []]);rcases h with rfl|⟨k,s,rfl,h⟩
 .exact⟨_,by simp,f,kn _ _⟩
 .have l:=h.lt;refine⟨_,(h.fr (Fr.app b S [.lst []])).frz,f.set e s _,?_⟩;rw[aL (by lia)];exact kn _ _
section
variable{B:BD}(j:BP B)(s:Places B){n:Nat}{K:List cj}{V:List P}{hd:Nat}{Q:Str}{C:Nat}{u p A H:List P}(I:Fam B.roads Q C u p A H)(o:(bM B.fams)[hd]? = some (mq Q C u p A H)){l:List P}(hw:l.length=A.length)(k:∀w ∈ l,qR w){N:List P}(m:∀x ∈ N,mD x)(a:nM N K V)
include j s I o hw k m a
theorem Te(e rd:P):∀{Z:List P},(∀c ∈ Z,si Q B.roads A N c)->∀{t:Nat},t+Z.length≤10->∀{W:List P},(∀y ∈ W,o_ B t y)->W.Pairwise Nx->4 ^ Z.length * W.length≤900 ->
  ∃(ys:List P)(T:Nat),T≤t+Z.length/\ys.length≤4 ^ Z.length * W.length/\((∀y ∈ ys,o_ B T y)/\ys.Pairwise Nx)/\∀(b i:Nat)(g S:aB)(f:Nat)(E:D)(q7 q8 q9 q10 H F q p d w u:Option D),Bd B b i g->b≤f->g[f]? = some (.fz (.dct K V))->Fr b g S->nN g S E W ->
   ∃L' S' d',bu (aW [ak 7,ak 8,ak 9,ak 10]) (gO (Y (n+5))) Z [qr i,J (hd:Int),U e,qr f,U rd,qt l,some E,q7,q8,q9,q10,H,F,q,p,d,w,u] S=some (.nx,L',S')/\L'[6]? = some (some d')/\Fr b g S'/\nN g S' d' ys
 | [],_,t,_,W,hW,hWn,_=>⟨W,t,by simp,by simp,⟨hW,hWn⟩,λb i g S f E q7 q8 q9 q10 H F q p d w u _ _ _ fr ha=>⟨_,S,E,rfl,rfl,fr,ha⟩⟩
 |c::Z,hs,t,ht,W,hW,hWn,hWl=>by
  simp only[aQ]at ht;rw[aQ,Bo,Bq]at hWl;have h4:4 * W.length≤900:=aF (Nat.le_mul_of_pos_left _ (Nat.pow_pos (by decide))) hWl;obtain⟨h,tr,C,z,hm,_,hsum,hcw,rfl⟩:=hs c aH;obtain⟨v,ev⟩:=rk m a hsum (n:=n+1);obtain⟨ys,dl,hdl,h1,⟨h2,h2n⟩,h3⟩:=T9 j s (n:=n+1) (K:=K) (V:=V) I o hw k hcw v hm (t:=t) (by lia) e rd (qs h) (U tr) hW hWn;obtain⟨zs,T,hT,k1,⟨k2,k2n⟩,k3⟩:=Te e rd (Z:=Z) (λx hx=>hs x (aI _ hx)) (t:=t+dl) (by lia) (W:=ys) h2 h2n (aF (Bu _ h1) hWl);refine⟨zs,T,by simp only[aQ];lia,?_,⟨k2,k2n⟩,λb i g S f E q7 q8 q9 q10 H F q p d w u hB hkv hk fr ha=>?_⟩
  .rw [aQ,Bo,Bq];exact aF k1 (Bu _ h1)
  .obtain⟨S1,e1,fr1,hS1⟩:=Fj fr hB.le ha;obtain⟨L2,S2,e2,⟨d6',G,L,M,R,X,rfl⟩,fr2,hS2⟩:=h3 { b:=b,i:=i,S0:=g,r:=S.length,bd:=hB,hr:=fr.len,kv:=f,hkv:=hkv,hk:=hk } (FL i f S.length (.int (hd:Int)) e rd (.tup l) (some E) (qs h) (U tr) (qs C) (qs z) (qt [.str h,.int v]) q p d w u) S1 [] ⟨_,_,_,_,_,_,rfl⟩ fr1 hS1 (by simp;lia);obtain⟨L',S',d',e3,h5,fr3,ha3⟩:=k3 b i g S2 f (.ref S.length) (qs h) (U tr) (qs C) (qs z) (qt [.str h,.int v]) (qr S.length) G L M R X hB hkv hk fr2 (.inr ⟨S.length,fr.len,rfl,.inl hS2⟩);refine⟨L',S',d',?_,h5,fr3,ha3⟩;refine(cg (h:=[qr i,J (hd:Int),U e,qr f,U rd,qt l,some E,qs h,U tr,qs C,qs z,H,F,q,p,d,w,u]) rfl ?_).trans e3;have tv:toP 9 (.ref f) S=some (.dct K V,S):=by
    have:=fr.hi _ _ hkv hk;simp[toP,this]
   unfold gO;rw[aA (by simp[tv,ev];exact⟨rfl,rfl⟩)];rw[aA (by simp;exact⟨rfl,rfl⟩)];refine(aA (e:=FL i f S.length (.int (hd:Int)) e rd (.tup l) d6' (qs h) (U tr) (qs C) (qs z) (qt [.str h,.int v]) G L M R X) (b:=S2) ?_).trans ?_
   .rw [bW,jf];show bL (bL (toP 9 E (S++[.lst []])) _) _=_;rw[e1];exact e2
   .rfl
theorem O6(M:∀c ∈ q,si Q B.roads A N c)(w:q.length≤3)(L:bK B r) :
  ∃(x:List P)(T:Nat),x.length≤64/\((∀y ∈ x,o_ B T y)/\x.Pairwise Nx)/\∀(b i:Nat)(S:aB)(v:Nat),Bd B b i S->b≤v->S[v]? = some (.fz (.dct K V)) ->
   ∃d f,Y (n+6) "sendings" [.ref i,.p (.int (hd:Int)),.p (.lst q),.ref v,.p (.tup r),.p (.tup l)] S=some (d,f)/\Fr b S f/\nN S f d x:=by
 have Z:4 ^ q.length≤64:=by have:=Nat.pow_le_pow_right (show 0 < 4 by decide) w;simpa using this
 obtain⟨x,T,_,z,H,F⟩:=Te j s (n:=n) I o hw k m a (.lst q) (.tup r) M (t:=0) (by lia) (W:=[.tup [.tup [],.tup r]]) (λy R=>⟨[],r,by simpa using R,by simp,λ_ h=>(by cases h),L⟩) (by simp) (by simp;lia);simp only[Bb,Nat.mul_one]at z;refine⟨x,T,by lia,H,λb i S v D p G=>?_⟩
 .obtain⟨X,f,u,e,C,g,E⟩:=F b i S S v (.p (.lst [.tup [.tup [],.tup r]])) none none none none none none none none none none none D p G (Fr.refl _ _) (.inl rfl);refine⟨u,f,?_,g,E⟩;rw[wo];simp[eN,nD,e,C]
end
def zP(f x:P):Prop:=∃Q C u p A H,f=mq Q C u p A H/\∃(r:Nat)(c l:List P),x=.tup [.int (r:Int),.tup c,.tup l]/\r < u.length/\CellsOk p c/\l.length=A.length/\∀w ∈ l,qR w
structure StL(B:BD)(hs rds:List P):Prop where
 hl:hs.length=(bM B.fams).length
 hh:∀(k:Nat) f x,(bM B.fams)[k]? = some f->hs[k]? = some x->zP f x
 hr:bK B rds
def fV(B:BD)(st:P):Prop:=∃h r,st=.tup [.tup h,.tup r]/\StL B h r
theorem StL.put(h:StL B c d)(o:(bM B.fams)[e]? = some f)(k:zP f b)(r:bK B t):StL B (c.set e b) t:=by
 refine⟨by rw[cN];exact h.hl,λi n x s a=>?_,r⟩;by_cases q:e=i
 .subst q;rw[o]at s;cases s;rw[bH (by rw[h.hl];exact bR o)]at a;cases a;exact k
 .rw [aL q]at a;exact h.hh i n x s a
noncomputable abbrev J8:P->P:=λy=>match y with | .tup (d::_)=>d|_=>.non
def dNe(z h:P):Prop:=J8 z≠J8 h
def xN(B:BD)(hd:Nat)(x:Str)(y z:P):Prop:=∃s e,z=.tup [.tup [.str "step",.int (hd:Int),.str x,y,.tup s],e]/\(∀a ∈ s,qR a)/\fV B e
def Hf(h:List P)(hd:Nat)(x:Str)(y w:P):P:=match w with
 | .tup [.tup a,.tup r]=>.tup [.tup [.str "step",.int (hd:Int),.str x,y,.tup a],.tup [.tup h,.tup r]]
 |_=>.non
abbrev SL(i:Nat)(st hd step y f r:P)(n k b q h x a e s:Option D):Lc:=[qr i,U st,U hd,U step,U y,U f,U r,n,k,b,q,h,x,a,e,s]
theorem Ng{p:List P}{K:List cj}{V:List P}(a:nM (ua p) K V){n:List cj}{f:List P}{z:Int}(c:z.natAbs≤999)(h:∀k,cF k n f=if (.inr "it":cj)=k then some (.int z) else cF k K V):nM (ua p++[.str "it"]) n f:=λx s=>by
 by_cases q:("it":Str)=x
 .exact⟨z,c,by rw[h,am (by rw[q])]⟩
 .rcases bP.mp s with s|s
  .obtain⟨i,b,e⟩:=a x s;exact⟨i,b,by rw[h,au λw=>q (kI w)];exact e⟩
  .exact absurd (P.str.inj (dY.mp s)).symm q
theorem O5{B:BD}(j:BP B){n:Nat}{hd:Nat}{Q:Str}{C:Nat}{u p A H:List P}(I:Fam B.roads Q C u p A H){w:List P}(Z:CellsOk p w){d:List P}(hr:bK B d){M y:P}(ht:oA Q B.roads A M)(hy:(M=.non/\y=.non)\/(M≠.non/\yv B d hd y)) :
  ∃(K:List cj)(V G:List P),nM (ua p++more M) K V/\bK B G/\∀(b i:Nat)(S:aB)(st step f r:P)(o F t q x a c:Option D),Bd B b i S->∃X,
   dQ (bV (fy dN lr (O (vC (.non))))) (ag (ar 11 (x8 (eB (aT Att) d5 "places") (v2 (ac jr fX) cY)))
    (ag (ju pp (vt "it") (ac (ac (ac kB j0) (ac jr cJ)) cJ))
    (ar 9 (O (cU (Y (n+2) "replaced") (v3 kB j0 (cU (Y (n+2) "without") (v2 (ac kB j0) (ac jr cJ))))))))) eM
    (SL i st (.int (hd:Int)) step y f r o F (qt d) (qr S.length) t q x a c) (S++[.dct (dG p) (w.map .p)])=some (.nx,SL i st (.int (hd:Int)) step y f r o F (qt G) (qr S.length) X q x a c,S++[.dct K (V.map .p)]):=by
 have E:=we Z;rcases hy with ⟨rfl,rfl⟩|⟨W,s,v,k,L,rfl,hg,hk,T,g,hsp⟩
 .exact⟨dG p,w,d,by simpa[more] using E,hr,λb i S st step f r o F t q x a c hB=>⟨t,by simp[dN,d8]⟩⟩
 .have hm:more M=[.str "it"]:=by
   cases M with
   |non=>exact absurd rfl W
   |_=>rfl
  have hls3:=g.1;have N:L[v]? = some L[v]:=bI hsp;obtain⟨m,z,_,hz,hzl⟩:=g.2 L[v] (fE _);rw[hzl]at N;have hkl:(dG p).length=w.length:=by rw[Z.1];simp[dG]
  obtain⟨K,V,e,h1,h2,h3,h4,h5⟩:=wC (.inr "it") (.int z) (dG p) w (kQ I.hce) hkl;have ew:=KH (n:=n) (xs:=L) (k:=v) (by lia);have hpl:=w8 j;have hrl:=hr.1;have er:=rQ (n:=n) (xs:=d) (k:=k) hk (by lia) (.tup (L.eraseIdx v));have hcl:=I.cl;have R:(dG p).length≤1000000:=by have:=Z.1;lia
  refine⟨K,V,d.set k (.tup (L.eraseIdx v)),by rw[hm];exact Ng E hz h5,hr.set k ⟨aF (Be ..) g.1,λl h=>g.2 l (Bh h)⟩,λb i S st step f r o F t q x a c hB=>⟨J (k:Int),?_⟩⟩;obtain⟨jh,jp,jl,jm,mk,mv,h⟩:=hB.fr (Fr.app b S [.dct (dG p) (w.map .p)]);rw[dQ];have hcn:(bV (fy dN lr (O (vC (.non))))) (SL i st (.int (hd:Int)) step (.tup [.int (s:Int),.int (v:Int)]) f r o F (qt d) (qr S.length) t q x a c) (S++[.dct (dG p) (w.map .p)])=some (true,S++[.dct (dG p) (w.map .p)]):=by simp[dN,d8]
  rw[hcn,aw,am rfl];refine(aA (e:=SL i st (.int (hd:Int)) step (.tup [.int (s:Int),.int (v:Int)]) f r o F (qt d) (qr S.length) (J (k:Int)) q x a c) (b:=S++[.dct (dG p) (w.map .p)]) ?_).trans ?_
  .rw [ar,x8,h.places rfl];simp[l_,h.pl,dM,dj,hg]
  refine(aA (e:=SL i st (.int (hd:Int)) step (.tup [.int (s:Int),.int (v:Int)]) f r o F (qt d) (qr S.length) (J (k:Int)) q x a c) (b:=S++[.dct K (V.map .p)]) ?_).trans ?_
  .have e2:y4 pp (vt "it") (ac (ac (ac kB j0) (ac jr cJ)) cJ) (SL i st (.int (hd:Int)) step (.tup [.int (s:Int),.int (v:Int)]) f r o F (qt d) (qr S.length) (J (k:Int)) q x a c) (S++[.dct (dG p) (w.map .p)])=some (.nx,SL i st (.int (hd:Int)) step (.tup [.int (s:Int),.int (v:Int)]) f r o F (qt d) (qr S.length) (J (k:Int)) q x a c,S++[.dct K (V.map .p)]):=by
    simp[y4,b_ T,b_ N,m_,dj,kQ I.hce,R,e]
   unfold ju;rw[e2]
  .simp [b_ T,ew,er]
theorem O4{B:BD}(j:BP B)(s:Places B){n:Nat}{hd:Nat}{Q:Str}{C:Nat}{u p A H:List P}(I:Fam B.roads Q C u p A H)(o:(bM B.fams)[hd]? = some (mq Q C u p A H)){r:Nat}{cs l:List P}(hr1:r < u.length)(hcs:CellsOk p cs)(hwl:l.length=A.length)(k:∀w ∈ l,qR w){N:List P}(hrd:bK B N){x:Str}(hx:ao x=true){rm wh tk:P}{chg sn:List P}{rm2:P}(hSt:Stp Q u p A B.roads rm wh tk chg sn rm2){y:P}(hy:(tk=.non/\y=.non)\/(tk≠.non/\yv B N hd y)){hs:List P}(hS:StL B hs N)(hhx:hs[hd]? = some (.tup [.int (r:Int),.tup cs,.tup l])) :
  ∃E:List P,E.length≤64/\((∀z ∈ E,xN B hd x y z)/\E.Pairwise dNe)/\∀(b i:Nat)(S:aB),Bd B b i S->∃d S',Y (n+8) "step_ends" [.ref i,.p (.tup [.tup hs,.tup N]),.p (.int (hd:Int)),.p (fK x rm wh tk chg sn rm2),.p y] S=some (d,S')/\Fr b S S'/\nN S S' d E:=by
 obtain⟨K,V,rds',a,hr',eit⟩:=O5 j (n:=n+5) I hcs hrd hSt.htk hy;obtain⟨ans,hans,ecb⟩:=Qn (n:=n+1) I hcs (x:=x) hSt a;have hy2:(tk=.non/\y=.non)\/(tk≠.non/\kT y):=by
  rcases hy with h|⟨h1,t,sp,_,_,e,_⟩
  .exact .inl h
  .exact .inr ⟨h1,t,sp,e⟩
 obtain⟨ws',hwl',hwi',ewb⟩:=OC (n:=n+4) I hwl k hSt.htk hy2;have m:∀x ∈ ua p++more tk,mD x:=λx hx=>(bP.mp hx).elim (wb I.hce.1 x) (wc tk x);obtain⟨W,T,hW1,⟨hW2,hWn⟩,esd⟩:=O6 j s (n:=n+1) I o hwl' hwi' m a hSt.hsn hSt.sl hr';let step:P:=fK x rm wh tk chg sn rm2
 let R:P:=mq Q C u p A H
 have pre:∀(b i:Nat) (S:aB),Bd B b i S->∃X,∀g:ES,(ag (ar 5 (eA (mT Tb (Y (n+7))) d5 "family_of" (E4 gD)))
   (ag (vW (aW [ak 6,ak 7,ak 8]) (ac (ac ce fX) cY))
   (ag (ar 9 (O (ac ce cJ)))
   (ag (ar 10 (ka (Y (n+7) "values_of") (sY (aN 5) vO)))
   (ag (dQ (bV (fy dN lr (O (vC (.non))))) (ag (ar 11 (x8 (eB (aT Att) d5 "places") (v2 (ac jr fX) cY)))
    (ag (ju pp (vt "it") (ac (ac (ac kB j0) (ac jr cJ)) cJ))
    (ar 9 (O (cU (Y (n+7) "replaced") (v3 kB j0 (cU (Y (n+7) "without") (v2 (ac kB j0) (ac jr cJ))))))))) eM) g)))))
   [qr i,qt [.tup hs,.tup N],J (hd:Int),U step,U y,none,none,none,none,none,none,none,none,none,none,none] S=g (SL i (.tup [.tup hs,.tup N]) (.int (hd:Int)) step y R (.int (r:Int)) (qt cs) (qt l) (qt rds') (qr S.length) X none none none none) (S++[.dct K (V.map .p)]):=λb i S hB=>by
  have ef:=zt (n:=n+5) hB o;obtain⟨X,e5⟩:=eit b i S (.tup [.tup hs,.tup N]) step R (.int (r:Int)) (qt cs) (qt l) none none none none none hB;obtain⟨jh,jp,jl,jm,mk,mv,h⟩:=hB;refine⟨X,λg=>?_⟩;refine(aA (e:=[qr i,qt [.tup hs,.tup N],J (hd:Int),U step,U y,U R,none,none,none,none,none,none,none,none,none,none]) (b:=S) ?_).trans ?_
  .rw [ar,h.meth rfl (QR _) QV (l:=[.p (.int (hd:Int))]) (by simp),ef];rfl
  rw[aA (by simp[b_ hhx];exact⟨rfl,rfl⟩)];rw[aA (by simp;exact⟨rfl,rfl⟩)];refine(aA (e:=SL i (.tup [.tup hs,.tup N]) (.int (hd:Int)) step y R (.int (r:Int)) (qt cs) (qt l) (qt N) (qr S.length) none none none none none) (b:=S++[.dct (dG p) (cs.map .p)]) ?_).trans ?_
  .rw [ar,ka];show bL (bL (some ([D.p R,D.p (.tup cs)],S)) _) _=_;rw[aw,BU (n:=n+5) I hcs S];rfl
  exact aA e5
 have tv:∀S:aB,toP 9 (.ref S.length) (S++[.dct K (V.map .p)])=some (.dct K V,S++[.fz (.dct K V)]):=λS=>by have:pA (toP 8) (V.map .p) (S++[.dct K (V.map .p)])=some (V,S++[.dct K (V.map .p)]):=na ..;simp[toP,this]
 rcases hans with rfl|⟨cs',hcs',rfl⟩
 .refine⟨[],by simp,⟨λ_ h=>(by cases h),.nil⟩,λb i S hB=>⟨.p (.lst []),S++[.fz (.dct K V)],?_,Fr.app _ _ _,.inl rfl⟩⟩;obtain⟨X,ep⟩:=pre b i S hB;rw[lO];show jw (eO _ [qr i,qt [.tup hs,.tup N],J (hd:Int),U step,U y,none,none,none,none,none,none,none,none,none,none,none] S)=_;unfold eO;rw[ep];simp only[R,step]at ecb ⊢;simp[tv,ecb,tj,d8]
 .obtain⟨v,hj,ej⟩:=sm (xs:=u) (s:=rm2) (λz hz=>(I.hro z hz).ok 19) hSt.h2;have h4:=jy j;have hW3:∀w ∈ W,∃as rs,w=.tup [.tup as,.tup rs]:=λw hw=>by
   obtain⟨as,rs,e,_⟩:=hW2 w hw;exact⟨as,rs,e⟩
  have hhd:hd < hs.length:=by rw[hS.hl];exact bR o
  have hsl:=hS.hl;have er:=rQ (n:=n+5) (xs:=hs) (k:=hd) hhd (by lia) (.tup [.int (v:Int),.tup cs',.tup ws']);generalize hhs:hs.set hd (.tup [.int (v:Int),.tup cs',.tup ws'])=Z at er;have hp:∀rs,bK B rs->fV B (.tup [.tup Z,.tup rs]):=λrs hr=>⟨_,_,rfl,hhs ▸ hS.put o ⟨Q,C,u,p,A,H,rfl,v,cs',ws',rfl,hj,hcs',hwl',hwi'⟩ hr⟩;refine⟨W.map (Hf Z hd x y),by simpa using hW1,⟨λz hz=>?_,mP.mpr (hWn.imp_of_mem λ{F b} ha hb hab q=>?_)⟩,λb i S hB=>?_⟩
  .obtain⟨w,hw,rfl⟩:=bj.mp hz;obtain⟨as,rs,rfl,_,hi,hr⟩:=hW2 w hw;exact⟨as,_,rfl,hi,hp rs hr⟩
  .obtain⟨as,rs,rfl,_⟩:=hW2 F ha;obtain⟨as',rs',rfl,_⟩:=hW2 b hb;simp only[Hf,P.tup.injEq,cy,ij,nT]at q;exact hab as as' _ _ rfl rfl q
  have hfm:W.map (Hf Z hd x y)=W.flatMap λw=>[Hf Z hd x y w]:=by rw[A7,List.map_eq_flatMap,A7]
  rw[hfm];obtain⟨h1,h3⟩:=ml (i:=GC B) (f:=λw=>[Hf Z hd x y w]) (g:=aW [ak 14,ak 15]) (b:=jF (Y (n+7))) (Sp:=λG S=>Fr G.b G.S0 S) (r:=λG=>G.r) (c:=1) (M:=1000) (s:=W)
   (p:=λG L=>∃X q14 q15,L=SL G.i (.tup [.tup hs,.tup N]) (.int (hd:Int)) step y R (.int (r:Int)) (qt cs') (qt ws') (qt rds') (qr G.S0.length) X (qt Z) (qr G.r) q14 q15) (λw hw=>by obtain⟨as,rs,rfl⟩:=hW3 w hw;refine⟨by simp,λG L S acc hLp fr hS' hM=>?_⟩;obtain⟨X,q14,q15,rfl⟩:=hLp;refine⟨SL G.i (.tup [.tup hs,.tup N]) (.int (hd:Int)) step y R (.int (r:Int)) (qt cs') (qt ws') (qt rds') (qr G.S0.length) X (qt Z) (qr G.r) (qt as) (qt rs),_,_,rfl,lD rfl hS' (y:=.tup [.tup [.str "step",.int (hd:Int),.str x,y,.tup as],.tup [.tup Z,.tup rs]]) ?_ hS' (by lia),⟨_,_,_,rfl⟩,fr.set G.le G.hr _,kL hS'⟩;simp[step])
  obtain⟨X,ep⟩:=pre b i S hB;have frA:=Fr.app b S [.fz (.dct K V),.lst []];have hk0:(S++[SO.fz (.dct K V),.lst []])[S.length]? = some (.fz (.dct K V)):=by simp
  have hk1:(S++[SO.fz (.dct K V),.lst []])[S.length+1]? = some (.lst []):=by simp
  obtain⟨d1,S1,e1,fr1,an1⟩:=esd b i (S++[.fz (.dct K V),.lst []]) S.length (hB.fr frA) hB.le hk0;have hb1:b≤(S++[SO.fz (.dct K V),.lst []]).length:=aF hB.le (by simp);obtain⟨S2,e2,fr2⟩:=sT (b:=b) (g:=Y (n+7) "sendings") (q:=SY d5 gD (O (ac eK sX)) pp (aN 9) (aN 8)) (L:=SL i (.tup [.tup hs,.tup N]) (.int (hd:Int)) step y R (.int (r:Int)) (qt cs') (qt ws') (qt rds') (qr S.length) X (qt Z) (qr (S.length+1)) none none) (S:=S++[.fz (.dct K V),.lst []]) (l:=[.ref i,.p (.int (hd:Int)),.p (.lst sn),.ref S.length,.p (.tup rds'),.p (.tup ws')]) (by simp[step,O0]) e1 fr1 hb1 an1;obtain⟨L',S',e3,hL',fr3,h5⟩:=h3 ⟨b,i,S,S.length+1,hB,by lia⟩ _ S2 [] ⟨X,none,none,rfl⟩ (frA.trans fr2) (fr2.hi _ _ (aF hB.le (by lia)) hk1) (by simp;lia);obtain⟨q11',q14',q15',rfl⟩:=hL';refine⟨.ref (S.length+1),S',?_,fr3,.inr ⟨S.length+1,by lia,rfl,.inl h5⟩⟩;rw[lO];show jw (eO _ [qr i,qt [.tup hs,.tup N],J (hd:Int),U step,U y,none,none,none,none,none,none,none,none,none,none,none] S)=_;unfold eO;rw[ep];rw[aA (by simp[tv,R,step,ecb];exact⟨rfl,rfl⟩)];rw[aA (by simp[tj,d8];exact⟨rfl,rfl⟩)];rw[aA (by simp[R,step,xt,ewb];exact⟨rfl,rfl⟩)];rw[aA (by simp[R,step,Fq,Ts,ej,er];exact⟨rfl,rfl⟩)];rw[aA (by simp;exact⟨rfl,rfl⟩)];rw[aA (by rw[bW,jf,e2];exact e3)];rfl
theorem P0{B:BD}(j:BP B)(s:Places B){n:Nat}{hd:Nat}{Q:Str}{C:Nat}{u p A H:List P}(I:Fam B.roads Q C u p A H)(o:(bM B.fams)[hd]? = some (mq Q C u p A H)){r:Nat}{cs l:List P}(hr1:r < u.length)(hcs:CellsOk p cs)(hwl:l.length=A.length)(k:∀w ∈ l,qR w){T:List P}(hrd:bK B T){hs:List P}(hS:StL B hs T)(hhx:hs[hd]? = some (.tup [.int (r:Int),.tup cs,.tup l])) :
  ∃E:List P,E.length≤6144/\((∀z ∈ E,∃x y,ao x=true/\(y=.non\/kT y)/\xN B hd x y z)/\E.Pairwise dNe)/\∀(b i:Nat)(S:aB),Bd B b i S->∃d S',Y (n+12) "hand_ends" [.ref i,.p (.tup [.tup hs,.tup T]),.p (.int (hd:Int))] S=some (d,S')/\Fr b S S'/\nN S S' d E:=by
 have ev:=C9 (n:=n+9) I hcs;have henv:=we hcs;have hrg:u[r]? = some u[r]:=bI hr1;obtain⟨rn,hrn,hre⟩:=I.hro u[r] (fE _);rw[hre]at hrg;let V:Nat->Nat->Option D->Option D->Lc:=λi r' q9 v=>[qr i,qt [.tup hs,.tup T],J (hd:Int),U (mq Q C u p A H),J (r:Int),qt cs,qt l,U (.dct (dG p) cs),qr r',q9,v]
 obtain⟨F,h1,hR,h3⟩:=ei (m:=GC B) (g:=ak 9) (b:=eH (Y (n+11))) (Sp:=fun G S=>Fr G.b G.S0 S) (r:=fun G=>G.r) (R:=fun m ys=>(∀z ∈ ys,∃y,ao (br m)=true/\(y=.non\/kT y)/\xN B hd (br m) y z)/\ys.Pairwise dNe) (c:=768) (M:=10000) (s:=H) (p:=fun G L=>∃q9 v,L=V G.i G.r q9 v) (fun x hx=>by
  obtain⟨sx,W,wh,tk,K,sn,N,hsx,hSt,rfl⟩:=I.hst x hx;obtain⟨W,hrm,rfl⟩:=I.hro W hSt.h1;obtain⟨hb,eh⟩:=GZ (wb I.hce.1) henv hSt.wh (n:=n+2);have hcond:∀(i r':Nat)(v:Option D)(S:aB),(jI (aV (O (ac kB cJ)) (O (ac (ac eK eL) jr))) (bT (O (cU (Y (n+11) "holds") (v2 (ac kB eL) lF))))) (V i r' (U (fK sx (.str W) wh tk K sn N)) v) S=some (decide (W=rn) && hb,S):=λi r' v S=>by by_cases q:W=rn<;>simp[V,Ts,b_ hrg,q,eh]
  cases hc:(decide (W=rn) && hb) with
  |false=>refine⟨[],by simp,⟨λ_ h=>(by cases h),.nil⟩,λG L S acc hLp fr X hM=>?_⟩;obtain⟨q9,v,rfl⟩:=hLp;refine⟨V G.i G.r (U (fK sx (.str W) wh tk K sn N)) v,V G.i G.r (U (fK sx (.str W) wh tk K sn N)) v,S,rfl,?_,⟨_,_,rfl⟩,fr,by simpa using X⟩;unfold eH;rw[dQ,hcond,hc];rfl
  |true=>
   obtain⟨ls,hl1,⟨hl2,hln⟩,el⟩:=Jc j s (n:=n+7) o hrd hSt.htk;obtain⟨f,k1,kR,k3⟩:=ei (m:=GC B) (g:=ak 10) (b:=jG (Y (n+11))) (Sp:=λG S=>Fr G.b G.S0 S) (r:=λG=>G.r) (R:=λy zs=>(∀z ∈ zs,xN B hd sx y z)/\zs.Pairwise dNe) (c:=64) (M:=10000) (s:=ls) (p:=λG L=>∃v,L=V G.i G.r (U (fK sx (.str W) wh tk K sn N)) v) (λy hy=>by obtain⟨E,hE,hE2,h⟩:=O4 j s (n:=n+3) I o hr1 hcs hwl k hrd hsx hSt (hl2 y hy) hS hhx;refine⟨E,hE,hE2,λG L S acc hLp fr X hM=>?_⟩;obtain⟨v,rfl⟩:=hLp;obtain⟨d,S1,e1,fr1,an⟩:=h G.b G.i S (G.bd.fr fr);obtain⟨S2,e2,Z⟩:=sT (b:=G.b) (g:=Y (n+11) "step_ends") (q:=Lp d5 hU gD (aN 9) pp) (L:=V G.i G.r (U (fK sx (.str W) wh tk K sn N)) (U y)) (S:=S) (l:=[.ref G.i,.p (.tup [.tup hs,.tup T]),.p (.int (hd:Int)),.p (fK sx (.str W) wh tk K sn N),.p y]) rfl e1 fr1 (aF G.le fr.len) an;have hS2:=Z.hi _ _ (aF G.le G.hr) X;exact⟨V G.i G.r (U (fK sx (.str W) wh tk K sn N)) (U y),_,_,rfl,nr rfl X e2 hS2 (by lia),⟨_,rfl⟩,(fr.trans Z).set G.le G.hr _,kL hS2⟩)
   refine⟨ls.flatMap f,by lia,⟨λz hz=>?_,gm.mpr ⟨λy hy=>(kR y hy).2,hln.imp_of_mem λ{a b} ha hb hab z hz z' hz' q=>?_⟩⟩,λG L S acc hLp fr X hM=>?_⟩
   .obtain⟨y,hy,hz⟩:=dX.mp hz;refine⟨y,hsx,?_,(kR y hy).1 z hz⟩;rcases hl2 y hy with h|⟨_,m,sp,_,_,h,_⟩
    .exact .inl h.2
    .exact .inr ⟨m,sp,h⟩
   .obtain⟨as,e,rfl,_⟩:=(kR a ha).1 z hz;obtain⟨as',e',rfl,_⟩:=(kR b hb).1 z' hz';simp only[P.tup.injEq,cy,ij,nT]at q;exact hab q.1
   .obtain⟨q9,v,rfl⟩:=hLp;obtain⟨d,S1,e1,fr1,an⟩:=el G.b G.i S (G.bd.fr fr);obtain⟨S2,e2,Z⟩:=sT (b:=G.b) (g:=Y (n+11) "takeable") (q:=Lq d5 (O (ac ce cJ)) gD (O (ac kB hZ))) (L:=V G.i G.r (U (fK sx (.str W) wh tk K sn N)) v) (S:=S) (l:=[.ref G.i,.p (.tup T),.p (.int (hd:Int)),.p tk]) (by simp[V,xt]) e1 fr1 (aF G.le fr.len) an;obtain⟨L',S',e3,⟨q10',rfl⟩,fr3,h5⟩:=k3 G _ S2 acc ⟨v,rfl⟩ (fr.trans Z) (Z.hi _ _ (aF G.le G.hr) X) (by lia);refine⟨V G.i G.r (U (fK sx (.str W) wh tk K sn N)) v,V G.i G.r (U (fK sx (.str W) wh tk K sn N)) q10',S',rfl,?_,⟨_,_,rfl⟩,fr3,h5⟩;unfold eH;rw[dQ,hcond,hc];show bW _ _ _ _ _=_;rw[bW,jf,e2];exact e3)
 have hsl:=I.sl;refine⟨H.flatMap F,by lia,⟨λz hz=>?_,gm.mpr ⟨λm hs=>(hR m hs).2,I.sd.imp_of_mem λ{a b} ha hb hab z hz z' hz' q=>?_⟩⟩,λb i S hB=>?_⟩
 .obtain⟨m,hs,hz⟩:=dX.mp hz;obtain⟨y,t,hy,h⟩:=(hR m hs).1 z hz;exact⟨_,y,t,hy,h⟩
 .obtain⟨_,_,_,_,_,rfl,_⟩:=(hR a ha).1 z hz;obtain⟨_,_,_,_,_,rfl,_⟩:=(hR b hb).1 z' hz';simp only[P.tup.injEq,cy,P.str.injEq,ij,nT]at q;exact hab q.1
 obtain⟨L',S',e3,⟨q9,v,rfl⟩,fr3,h5⟩:=h3 ⟨b,i,S,S.length,hB,al _⟩ (V i S.length none none) (S++[.lst []]) [] ⟨none,none,rfl⟩ (Fr.app _ _ _) (kn _ _) (by simp;lia);refine⟨.ref S.length,S',?_,fr3,.inr ⟨S.length,al _,rfl,.inl h5⟩⟩;have ef:=zt (n:=n+9) hB o;obtain⟨jh,jp,jl,jm,mk,mv,h⟩:=hB;rw[tz];show jw (jn _ [qr i,qt [.tup hs,.tup T],J (hd:Int),none,none,none,none,none,none,none,none] S)=_;unfold jn;rw[aA (e:=[qr i,qt [.tup hs,.tup T],J (hd:Int),U (mq Q C u p A H),none,none,none,none,none,none,none]) (b:=S) (by rw[ar,h.meth rfl (QR _) QV (l:=[.p (.int (hd:Int))]) (by simp),ef];rfl)];rw[aA (by simp[b_ hhx];exact⟨rfl,rfl⟩)];rw[aA (by simp[ev];exact⟨rfl,rfl⟩)];rw[aA (by simp[V];exact⟨rfl,rfl⟩)];rw[aA (by rw[bW,jf,show(ac eK sX) (V i S.length none none) (S++[.lst []])=some (.lst H,S++[.lst []]) by simp[V,Ut]];exact e3)];rfl
end My
namespace My
open PySem L2 Ev
def Qv(x y:P):Prop:=∀r h:P,∀a c:Nat,x=pr r a c->y=pr h a c->False
variable{N:LS}
theorem CN(h:i ∈ eJ N x):N[i]? = some x:=be (eE.mp h).2
variable{r:P}
theorem ol(h:pr r a c=pr n x e):a=x/\c=e:=by simp only[pr,P.tup.injEq,cy,P.int.injEq,ij]at h;exact⟨by lia,by lia⟩
theorem Cd(h:x ∈ D_ N r):∃a c,x=pr r a c/\N[a]? = some (rA r)/\N[c]? = some (rB r):=by obtain⟨a,e,h⟩:=dX.mp h;obtain⟨c,s,rfl⟩:=bj.mp h;exact⟨a,c,rfl,CN e,CN (eE.mp s).1⟩
theorem Mn(h:o.Pairwise RD):(bX N o).Pairwise Qv:=by
 refine gm.mpr ⟨λr _=>gm.mpr ⟨λa _=>mP.mpr ?_,?_⟩,h.imp λ{r H} i x f y b q d a c e s=>?_⟩
 .refine ((qU N (rB r)).filter _).imp λ{c w} g q d m t e s=>g ?_;have n:=ol e;have k:=ol s;lia
 .refine (qU N (rA r)).imp λ{a j} u x f y b q d m t e s=>u ?_;obtain⟨c,_,rfl⟩:=bj.mp f;obtain⟨w,_,rfl⟩:=bj.mp b;have n:=ol e;have k:=ol s;lia
 .obtain⟨l,z,rfl,n,k⟩:=Cd f;obtain⟨m,t,rfl,p,v⟩:=Cd b;obtain⟨rfl,rfl⟩:=ol e;obtain⟨rfl,rfl⟩:=ol s;rw[n]at p;rw[k]at v;exact i ⟨d4 p,d4 v⟩
variable{B:BD}{k:Nat}
theorem NJ(P:BP B)(h:B.PR[k]? = some (pr r a c))(b:B.PR[x]? = some (pr f a c)):k=x:=by
 have p:B.PR.Pairwise Qv:=Mn P.rd;rw[vn]at p;obtain⟨l,e⟩:=bz.mp h;obtain⟨n,s⟩:=bz.mp b;rcases Nat.lt_trichotomy k x with q|q|q
 .exact (p k x l n q r f a c e s).elim
 .exact q
 .exact (p x k n l q f r a c s e).elim
def Sm(w:Str):Prop:=w="lose"\/w="double"
def M7(B:BD)(h:List P)(w:Str)(a c:Nat)(z:P):Prop:=∃(s:Nat)(r:List P),z=.tup [.tup [.str w,.int (a:Int),.int (c:Int),.int (s:Int)],.tup [.tup h,.tup r]]/\bK B r
theorem IS{k:Str}{x:List P}{i:Nat}(h:i ∈ BZ k x):i < x.length:=gh.mp (eE.mp h).1
theorem IT{k:Str}{x:List P}:(BZ k x).length≤x.length:=aF (gY ..) (by simp)
theorem K7{B:BD}(hP:BP B){n:Nat}{w:Str}(hw:w="lose"\/w="double"){W o:List P}(hS:StL B W o) :
  ∃E:List P,E.length≤6144/\((∀z ∈ E,∃a c,M7 B W w a c z)/\E.Pairwise dNe)/\∀(b i:Nat)(S:aB),Bd B b i S->∃d S',Y (n+5) "flaw_ends" [.ref i,.p (.tup [.tup W,.tup o]),.p (.str w)] S=some (d,S')/\Fr b S S'/\nN S S' d E:=by
 have how:ao w=true:=by rcases hw with rfl|rfl<;>simp
 have hpl:=w8 hP;have hrl:=hS.hr.1;let t:Nat->Nat->Option D->Option D->Option D->Option D->Option D->Option D->Option D->Option D->Lc:=λi r' q4 q5 N Q T V m s=>[qr i,qt [.tup W,.tup o],qs w,qr r',q4,q5,N,Q,T,V,m,s]
 obtain⟨F,h1,hR,h3⟩:=ei (m:=GC B) (R:=fun v ys=>∀(k:Nat) (road:P) (a c:Nat),v=.tup [.int (k:Int),pr road a c]->(∀z ∈ ys,M7 B W w a c z)/\ys.Pairwise dNe) (g:=aW [ak 4,ak 5]) (b:=eI (Y (n+4))) (Sp:=fun G S=>Fr G.b G.S0 S) (r:=fun G=>G.r) (c:=3) (M:=10000) (s:=bv 0 B.PR) (p:=fun G L=>∃q4 q5 N Q T V m s,L=t G.i G.r q4 q5 N Q T V m s) (fun x hx=>by
  obtain⟨k,Z,hxe⟩:=mQ.mp hx;obtain⟨p,hp,rfl⟩:=jz (xs:=B.PR) (i:=k) (v:=x) (by rw[bI Z,hxe]);obtain⟨road,hro,a,c,rfl⟩:=sV (a9 hp);obtain⟨hkl,K,hls,hkr⟩:=hS.hr.at hp;have I:=hP.hr road hro;obtain⟨X,hkd⟩:∃X:Str,tR road (.int 2)=some (.str X):=by obtain⟨ra,rb,X,c,d1,d2,_,_,_,_,_,rfl⟩:=I;exact⟨X,by simp⟩
  obtain⟨hfb,ef⟩:=PZ (n:=n+2) hw I K;have eu:=KJ (n:=n+2) X hls;have hul:=IT (k:=X) (x:=K);generalize J6 w road K=fb at hfb ef;have hls3:=hls.1;have pre:∀(i r':Nat)(N Q T V m s:Option D)(S:aB)(g:ES),ag (vW (aW [ak 6,ak 7,ak 8]) nO) (ag (ar 9 (O (ac (ac ce cJ) jr))) g) (t i r' (J (k:Int)) (U (pr road a c)) N Q T V m s) S=g (t i r' (J (k:Int)) (U (pr road a c)) (U road) (J (a:Int)) (J (c:Int)) (qt K) m s) S:=λi r' N Q T V m s S g=>by
   rw [aA (by simp [t,pr];exact⟨rfl,rfl⟩),
    aA (by simp[t,b_ hkr];exact⟨rfl,rfl⟩)]
   rfl
  cases fb with
  |false=>refine⟨[],by simp,λ_ _ _ _ _=>⟨λ_ h=>(by cases h),.nil⟩,λG L S acc C fr l hM=>?_⟩;obtain⟨q4,q5,N,Q,T,V,m,s,rfl⟩:=C;refine⟨t G.i G.r (J (k:Int)) (U (pr road a c)) N Q T V m s,t G.i G.r (J (k:Int)) (U (pr road a c)) (U road) (J (a:Int)) (J (c:Int)) (qt K) m s,S,rfl,?_,⟨_,_,_,_,_,_,_,_,rfl⟩,fr,by simpa using l⟩;unfold eI;rw[pre];simp[t,ef]
  |true=>
   obtain⟨f,k1,kR,k3⟩:=ei (m:=GC B) (R:=λy zs=>∃(A:Nat)(rs:List P),y=.int (A:Int)/\zs=[.tup [.tup [.str w,.int (a:Int),.int (c:Int),.int (A:Int)],.tup [.tup W,.tup rs]]]/\bK B rs) (g:=ak 10) (b:=f_ (Y (n+4))) (Sp:=λG S=>Fr G.b G.S0 S) (r:=λG=>G.r) (c:=1) (M:=10000) (s:=cx (BZ X K)) (p:=λG L=>∃m s,L=t G.i G.r (J (k:Int)) (U (pr road a c)) (U road) (J (a:Int)) (J (c:Int)) (qt K) m s) (λy hy=>by obtain⟨A,hsp',rfl⟩:=bj.mp hy;have hsp:=IS hsp';obtain⟨H,ez⟩:=P' (n:=n+1) hw hls (λq=>hfb q rfl) hsp;have er:=rQ (n:=n+2) (xs:=o) (k:=k) hkl (by lia) (.tup (P_ w K A));generalize P_ w K A=zs at H ez er;refine⟨[.tup [.tup [.str w,.int (a:Int),.int (c:Int),.int (A:Int)],.tup [.tup W,.tup (o.set k (.tup zs))]]],by simp,⟨A,_,rfl,rfl,hS.hr.set k H⟩,λG L S acc C fr l hM=>?_⟩;obtain⟨m,s,rfl⟩:=C;refine⟨t G.i G.r (J (k:Int)) (U (pr road a c)) (U road) (J (a:Int)) (J (c:Int)) (qt K) (J (A:Int)) s,t G.i G.r (J (k:Int)) (U (pr road a c)) (U road) (J (a:Int)) (J (c:Int)) (qt K) (J (A:Int)) (qt (o.set k (.tup zs))),_,rfl,?_,⟨_,_,rfl⟩,fr.set G.le G.hr _,kL l⟩;unfold f_;refine(aA (by simp[t,ez,er])).trans (lD rfl l ?_ l (by lia));simp[t])
   have hnl:(cx (BZ X K)).length=(BZ X K).length:=by simp[cx]
   rw[hnl]at k1 k3;refine⟨_,aF k1 (by lia),λk' road' a' c' e=>?_,λG L S acc C fr l hM=>?_⟩
   .simp only[pr,P.tup.injEq,cy,P.int.injEq,ij]at e;cases lh e.2.2.1;cases lh e.2.2.2;refine⟨λz H=>?_,gm.mpr ⟨λy hy=>?_,(ly (lm.filter _)).imp_of_mem λ{u v} hu hv huv z H z' hz' q=>?_⟩⟩
    .obtain⟨y,hy,H⟩:=dX.mp H;obtain⟨A,rs,rfl,e,hr⟩:=kR y hy;rw[e]at H;exact⟨A,rs,dY.mp H,hr⟩
    .obtain⟨A,rs,rfl,e,hr⟩:=kR y hy;rw[e];exact .cons (λ_ h=>(by cases h)) .nil
    .obtain⟨A,rs,rfl,e,_⟩:=kR u hu;obtain⟨sp',rs',rfl,e',_⟩:=kR v hv;rw[e]at H;rw[e']at hz';cases dY.mp H;cases dY.mp hz';simp only[P.tup.injEq,cy,ij,nT]at q;exact huv q
   obtain⟨q4,q5,N,Q,T,V,m,s,rfl⟩:=C;obtain⟨L',S',e3,⟨q10',q11',rfl⟩,fr3,h5⟩:=k3 G _ S acc ⟨m,s,rfl⟩ fr l (by lia);refine⟨t G.i G.r (J (k:Int)) (U (pr road a c)) N Q T V m s,t G.i G.r (J (k:Int)) (U (pr road a c)) (U road) (J (a:Int)) (J (c:Int)) (qt K) q10' q11',S',rfl,?_,⟨_,_,_,_,_,_,_,_,rfl⟩,fr3,h5⟩;unfold eI;rw[pre];simp only[t]at e3;simp[t,ef,hkd,eu,e3])
 rw[h_]at h1 h3;refine⟨(bv 0 B.PR).flatMap F,by lia,⟨λz H=>?_,?_⟩,λb i S hB=>?_⟩
 .obtain⟨v,hv,H⟩:=dX.mp H;obtain⟨k,Z,e⟩:=mQ.mp hv;obtain⟨p,hp,rfl⟩:=jz (xs:=B.PR) (i:=k) (v:=v) (by rw[bI Z,e]);obtain⟨road,_,a,c,rfl⟩:=sV (a9 hp);exact⟨a,c,(hR _ hv k road a c rfl).1 z H⟩
 .have ha:∀k,k < B.PR.length->∃r a c,B.PR[k]? = some (pr r a c)/\(∀z ∈ F (.tup [.int (k:Int),(B.PR[k]?).getD .non]),M7 B W w a c z)/\(F (.tup [.int (k:Int),(B.PR[k]?).getD .non])).Pairwise dNe:=λk Z=>by
   have h0:=bI Z;obtain⟨r,_,a,c,e⟩:=sV (a9 h0);rw[e]at h0;exact⟨r,a,c,h0,hR _ (by rw[He];exact bj.mpr ⟨k,gh.mpr Z,rfl⟩) k r a c (by rw[h0];rfl)⟩
  rw[He,List.flatMap_map];refine gm.mpr ⟨λk Z=>?_,(lm (n:=B.PR.length)).imp_of_mem λ{i j} hi hj hij x hx y hy q=>?_⟩
  .obtain⟨r,a,c,_,_,h⟩:=ha k (gh.mp Z);exact h
  .obtain⟨r,a,c,e,h,_⟩:=ha i (gh.mp hi);obtain⟨r',a',c',e',h',_⟩:=ha j (gh.mp hj);obtain⟨_,_,rfl,_⟩:=h x hx;obtain⟨_,_,rfl,_⟩:=h' y hy;simp only[P.tup.injEq,cy,P.int.injEq,ij,nT]at q;cases lh q.1;cases lh q.2.1;exact hij (NJ hP e e')
 have frA:=Fr.app b S [.lst []];obtain⟨jh,jp,jl,jm,mk,mv,h⟩:=hB.fr frA;have frB:=frA.trans (Fr.frz h.bp h.pr);have hb:=hB.le;have hjp:=h.bp;obtain⟨L',S',e3,⟨q4,q5,N,Q,T,V,m,s,rfl⟩,fr3,h5⟩:=h3 ⟨b,i,S,S.length,hB,al _⟩ (t i S.length none none none none none none none none) ((S++[SO.lst []]).set jp (.fz (.lst B.PR))) [] ⟨none,none,none,none,none,none,none,none,rfl⟩ frB (by rw[aL (by lia)];exact kn _ _) (by simp;lia);refine⟨.ref S.length,S',?_,fr3,.inr ⟨S.length,al _,rfl,.inl h5⟩⟩;rw[tB];show jw (jo _ [qr i,qt [.tup W,.tup o],qs w,none,none,none,none,none,none,none,none,none] S)=_;unfold jo;rw[aA (by simp[t];exact⟨rfl,rfl⟩)];rw[aA (by rw[bW,ug,vE,h.pairs rfl,aw,h.pr.frz];exact e3)];rfl
def iC(d:P):Prop:=(∃(k:Int)(x:Str)(y:P)(s:List P),d=.tup [.str "step",.int k,.str x,y,.tup s]/\(y=.non\/kT y)/\∀a ∈ s,qR a)\/∃(w:Str)(a c p:Int),Sm w/\d=.tup [.str w,.int a,.int c,.int p]
theorem DQ(x y:P)(s h:List P):pQ (m9 (x::s)) (m9 (y::h))=(cb (pd x) (pd y) && pQ (m9 s) (m9 h)):=rfl
theorem Ha(x y:List P):cb (pd (.tup x)) (pd (.tup y))=pQ (m9 x) (m9 y):=rfl
theorem Kc(a b:Str):cb (pd (.str a)) (pd (.str b))=(a == b):=rfl
theorem Ke(a b:Int):cb (pd (.int a)) (pd (.int b))=(a == b):=rfl
theorem x3:∀{s e:List P},(∀a ∈ s,qR a)->(∀a ∈ e,qR a)->pQ (m9 s) (m9 e)=true->s=e
 | [],[],_,_,_=>rfl
 | [],_::_,_,_,h=>by cases (show false=true from h)
 |_::_,[],_,_,h=>by cases (show false=true from h)
 |a::s,b::e,k,f,h=>by obtain⟨i,rfl⟩:=k a aH;obtain⟨j,rfl⟩:=f b aH;simp only[DQ,Ke,az,kD]at h;obtain⟨rfl,h⟩:=h;rw[x3 (λx n=>k x (aI _ n)) (λx n=>f x (aI _ n)) h]
theorem Kf(e:y=.non\/kT y)(x:a=.non\/kT a)(h:cb (pd y) (pd a)=true):y=a:=by
 rcases e with rfl|⟨s,k,rfl⟩<;>rcases x with rfl|⟨n,p,rfl⟩
 .rfl
 .cases (show false=true from h)
 .cases (show false=true from h)
 .simp only[Ha,DQ,Ke,az,kD]at h;obtain⟨f,b,_⟩:=h;rw[show(s:Int)=n by lia,show(k:Int)=p by lia]
variable{d:P}{s:P}
theorem Nf(h:iC d)(m:iC s)(q:cb (pd d) (pd s)=true):d=s:=by
 have hw:("step":Str)≠"lose"/\("step":Str)≠"double":=by decide +kernel
 rcases h with ⟨k,x,y,i,rfl,t,r⟩|⟨w,a,c,o,l,rfl⟩<;>rcases m with ⟨z,S,F,b,rfl,n,e⟩|⟨H,g,j,u,f,rfl⟩
 .simp only[Ha,DQ,Kc,Ke,az,kD]at q;obtain⟨_,rfl,rfl,p,v,_⟩:=q;rw[Kf t n p,x3 r e v]
 .simp only[Ha,DQ,Kc,az,kD]at q;rcases f with rfl|rfl
  .exact absurd q.1 hw.1
  .exact absurd q.1 hw.2
 .simp only[Ha,DQ,Kc,az,kD]at q;rcases l with rfl|rfl
  .exact absurd q.1.symm hw.1
  .exact absurd q.1.symm hw.2
 .simp only[Ha,DQ,Kc,Ke,az,kD]at q;obtain⟨rfl,rfl,rfl,rfl,_⟩:=q;rfl
theorem fV.ok(h:fV B st):dh 5 st=true:=by
 obtain⟨k,d,rfl,S⟩:=h;have f:dh 4 (.tup k)=true:=bw.mpr λx a=>by
  obtain⟨i,n,rfl⟩:=mQ.mp a;obtain⟨_,_,_,_,_,_,_,r,s,w,e,_,m,_,hw⟩:=S.hh i _ _ (bI (by rw[<- S.hl];exact n)) (bI n);have o:dh 2 (.tup s)=true:=bw.mpr λc h=>by obtain⟨i,_,rfl⟩:=m.2 c h;simp
  have p:dh 2 (.tup w)=true:=bw.mpr λc h=>(hw c h).ok 1;rw[e];show(List.all [_,P.tup s,P.tup w] (dh 2))=true;rw[eR,eR,eR,o,p];simp
 have b:dh 4 (.tup d)=true:=bw.mpr λx a=>by obtain⟨q,t,rfl⟩:=S.hr.2 x a;exact bw.mpr λl h=>dR (t.2 l h).ok (by lia)
 show(List.all [P.tup k,P.tup d] (dh 4))=true;rw[eR,eR,f,b];rfl
theorem xN.deed(h:xN B k x y z)(c:ao x=true)(n:y=.non\/kT y):∃d e,z=.tup [d,e]/\iC d/\dh 3 d=true/\fV B e:=by
 obtain⟨s,e,rfl,i,b⟩:=h;refine⟨_,_,rfl,.inl ⟨_,_,_,_,rfl,n,i⟩,?_,b⟩;have o:dh 2 y=true:=by rcases n with e|⟨_,_,e⟩<;>rw[e]<;>simp
 have m:dh 2 (.tup s)=true:=bw.mpr λa f=>(i a f).ok 1;show(List.all [P.str "step",.int (k:Int),.str x,y,.tup s] (dh 2))=true;simp only[eR,A3,o,m,JK,Ck,c,Bool.and_true];decide +kernel
theorem Gf:∀{E:List P},E.Pairwise dNe->∀{z n:P},z ∈ E->n ∈ E->J8 z=J8 n->z=n
 | [],_,_,_,h,_,_=>by cases h
 |a::r,h,z,n,s,x,e=>by
  obtain⟨k,f⟩:=List.pairwise_cons.mp h;rcases aP.mp s with s|s<;>rcases aP.mp x with x|x
  .rw [s,x]
  .rw [s]at e;exact absurd e (k n x)
  .rw [x]at e;exact absurd e.symm (k z s)
  .exact Gf f s x e
theorem Kg(h:dh 20 (.tup x)=true)(a:dh 20 (.tup y)=true):CH (.tup x) (.tup y)=some (cb (pd (.tup x)) (pd (.tup y))):=by show(if (dh 20 (.tup x) && dh 20 (.tup y))=true then some _ else none)=_;rw[h,a];rfl
theorem iC.tup(h:iC d):∃x,d=.tup x:=by rcases h with ⟨_,_,_,_,rfl,_⟩|⟨_,_,_,_,_,rfl⟩<;>exact⟨_,rfl⟩
theorem Qa(h:iC d)(x:iC s)(o:dh 3 d=true)(a:dh 3 s=true):CH d s=some (cb (pd d) (pd s)):=by have e:=dR o (show 3≤20 by lia);have n:=dR a (show 3≤20 by lia);obtain⟨_,rfl⟩:=h.tup;obtain⟨_,rfl⟩:=x.tup;exact Kg e n
theorem CG(h:iC d)(x:iC s)(o:dh 3 d=true):cb (pd d) (pd s)=true↔d=s:=
 ⟨Nf h x,λe=>by rw[<- e];exact pO _ (gy 20 d (dR o (by lia))).1⟩
theorem StL.at(S:StL B h n)(s:k < (bM B.fams).length):∃f x,(bM B.fams)[k]? = some f/\h[k]? = some x/\zP f x:=by have a:=bI s;have e:h[k]? = some (h[k]'(by rw[S.hl];exact s)):=bI _;exact⟨_,_,a,e,S.hh k _ _ a e⟩
theorem Qb(hP:BP B)(hL:Places B)(u:StL B hs m) :
  ∃E:List P,E.length≤40000/\((∀z ∈ E,∃d e,z=.tup [d,e]/\iC d/\dh 3 d=true/\fV B e)/\E.Pairwise dNe)/\∀(b i:Nat)(S:aB),Bd B b i S->∃d S',Y 14 "ends_on" [.ref i,.p (.tup [.tup hs,.tup m])] S=some (d,S')/\Fr b S S'/\nN S S' d E:=by
 have h4:=jy hP;have hhl:=oG (f:=B.fams);obtain⟨la,la1,⟨N,la2⟩,ela⟩:=K7 hP (n:=8) (.inl rfl) u;obtain⟨da,da1,⟨X,da2⟩,eda⟩:=K7 hP (n:=8) (.inr rfl) u;let p:Nat->Nat->Option D->Lc:=λi r' A=>[qr i,qt [.tup hs,.tup m],qr r',A]
 obtain⟨f,h1,hR,h3⟩:=ei (m:=GC B) (g:=ak 3) (b:=lb (Y 13)) (Sp:=fun G S=>Fr G.b G.S0 S) (r:=fun G=>G.r) (R:=fun v V=>∀k:Nat,v=.int (k:Int)->(∀z ∈ V,∃x y,ao x=true/\(y=.non\/kT y)/\xN B k x y z)/\V.Pairwise dNe) (c:=6144) (M:=100000) (s:=intsFrom 0 (homes B.fams).length) (p:=fun G L=>∃A,L=p G.i G.r A) (fun x o=>by
  obtain⟨k,rfl,hk⟩:=dn o;simp only[df];obtain⟨f,x,g1,g2,_,_,_,_,_,_,hfe,r,cs,ws,rfl,hr1,hcs,hwl,hwi⟩:=u.at (k:=k) (by lia);obtain⟨nm,W,Q,C,whos,T,hF,rfl⟩:=nj hP.hf (a9 g1);obtain⟨rfl,hce,rfl,rfl,rfl,rfl⟩:nm=_/\W=_/\Q=_/\C=_/\whos=_/\T=_:=by simp only[P.tup.injEq,cy,P.str.injEq,P.int.injEq,P.lst.injEq,ij]at hfe;obtain⟨a,b,c,d,e,f⟩:=hfe;exact⟨a,lh b,c,d,e,f⟩
  obtain⟨E,m1,m2,m3⟩:=P0 hP hL (n:=1) hF g1 hr1 hcs hwl hwi u.hr u g2;refine⟨E,m1,λk' e=>?_,λG L S acc hLp fr hS' hM=>?_⟩
  .cases lh (P.int.inj e);exact m2
  obtain⟨A,rfl⟩:=hLp;obtain⟨d,S1,e1,t,an⟩:=m3 G.b G.i S (G.bd.fr fr);obtain⟨S2,e2,w⟩:=sT (b:=G.b) (g:=Y 13 "hand_ends") (q:=BQ d5 hU il) (L:=p G.i G.r (J (k:Int))) (S:=S) (l:=[.ref G.i,.p (.tup [.tup hs,.tup m]),.p (.int (k:Int))]) rfl e1 t (aF G.le fr.len) an;have hS2:=w.hi _ _ (aF G.le G.hr) hS';exact⟨p G.i G.r (J (k:Int)),_,_,rfl,nr rfl hS' e2 hS2 (by lia),⟨_,rfl⟩,(fr.trans w).set G.le G.hr _,kL hS2⟩)
 rw[bQ]at h1 h3;have hnd:(intsFrom 0 (homes B.fams).length).Pairwise (·≠·):=by rw[Cz];exact ly lm
 have l:∀z ∈ (intsFrom 0 (homes B.fams).length).flatMap f,∃(k:Nat)(x:Str)(y:P),ao x=true/\(y=.non\/kT y)/\xN B k x y z:=λz s=>by obtain⟨v,hv,s⟩:=dX.mp s;obtain⟨k,rfl,_⟩:=dn hv;obtain⟨x,y,h⟩:=(hR _ hv k (by simp)).1 z s;exact⟨k,x,y,h⟩
 have hpw:((intsFrom 0 (homes B.fams).length).flatMap f).Pairwise dNe:=gm.mpr ⟨fun v hv=>by
   obtain⟨k,rfl,_⟩:=dn hv;exact(hR _ hv k (by simp)).2,hnd.imp_of_mem λ{a b} ha j hab z s z' hz' q=>by
   obtain⟨k,rfl,_⟩:=dn ha;obtain⟨k',rfl,_⟩:=dn j;obtain⟨_,_,_,_,_,_,rfl,_⟩:=(hR _ ha k (by simp)).1 z s;obtain⟨_,_,_,_,_,_,rfl,_⟩:=(hR _ j k' (by simp)).1 z' hz';simp only[P.tup.injEq,cy,P.int.injEq,ij,nT]at q;exact hab (by rw[q.1])⟩
 generalize (intsFrom 0 (homes B.fams).length).flatMap f=V at h1 h3 l hpw;have hw:("step":Str)≠"lose"/\("step":Str)≠"double"/\("lose":Str)≠"double":=by decide +kernel
 have how:ao "lose"=true/\ao "double"=true:=by decide +kernel
 refine⟨V++la++da,by rw[bx,bx];lia,⟨λz s=>?_,vh.mpr ⟨vh.mpr ⟨hpw,la2,λx o y hy q=>?_⟩,da2,λx o y hy q=>?_⟩⟩,λb i S hB=>?_⟩
 .rcases bP.mp s with s|s
  .rcases bP.mp s with s|s
   .obtain⟨k,x,y,ox,hy,h⟩:=l z s;exact h.deed ox hy
   .obtain⟨a,c,sp,rs,rfl,hr⟩:=N z s;exact⟨_,_,rfl,.inr ⟨_,_,_,_,.inl rfl,rfl⟩,by simp[how.1],_,_,rfl,u.hl,u.hh,hr⟩
  .obtain⟨a,c,sp,rs,rfl,hr⟩:=X z s;exact⟨_,_,rfl,.inr ⟨_,_,_,_,.inr rfl,rfl⟩,by simp[how.2],_,_,rfl,u.hl,u.hh,hr⟩
 .obtain⟨_,_,_,_,_,_,_,rfl,_⟩:=l x o;obtain⟨_,_,_,_,rfl,_⟩:=N y hy;simp only[P.tup.injEq,cy,P.str.injEq]at q;exact hw.1 q.1
 .obtain⟨_,_,_,_,rfl,_⟩:=X y hy;rcases bP.mp o with o|o
  .obtain⟨_,_,_,_,_,_,_,rfl,_⟩:=l x o;simp only[P.tup.injEq,cy,P.str.injEq]at q;exact hw.2.1 q.1
  .obtain⟨_,_,_,_,rfl,_⟩:=N x o;simp only[P.tup.injEq,cy,P.str.injEq]at q;exact hw.2.2 q.1
 .have Z:=Fr.app b S [.lst []];have j:=hB.le;obtain⟨L',S1,e1,⟨A,rfl⟩,t,hl1⟩:=h3 ⟨b,i,S,S.length,hB,al _⟩ (p i S.length none) (S++[.lst []]) [] ⟨none,rfl⟩ Z (kn _ _) (by simp;lia);obtain⟨d2,T2,f2,w,an2⟩:=ela b i S1 (hB.fr t);obtain⟨S2,e2,H⟩:=sT (b:=b) (g:=Y 13 "flaw_ends") (q:=BQ d5 hU (O (vt "lose"))) (L:=p i S.length A) (S:=S1) (l:=[.ref i,.p (.tup [.tup hs,.tup m]),.p (.str "lose")]) rfl f2 w (aF j t.len) an2;have hl2:=H.hi _ _ j hl1;have I:Fr b S (S2.set S.length (.lst (([]++V++la).map .p))):=(t.trans H).set j (al _) _;have K:=kL (x:=.lst (([]++V++la).map .p)) hl2;obtain⟨d3,T3,f3,fr3,an3⟩:=eda b i _ (hB.fr I);obtain⟨S3,e3,F⟩:=sT (b:=b) (g:=Y 13 "flaw_ends") (q:=BQ d5 hU (O (vt "double"))) (L:=p i S.length A) (l:=[.ref i,.p (.tup [.tup hs,.tup m]),.p (.str "double")]) rfl f3 fr3 (aF j I.len) an3;have hl3:=F.hi _ _ j K;refine⟨.ref S.length,S3.set S.length (.lst (([]++V++la++da).map .p)),?_,(I.trans F).set j (al _) _,.inr ⟨S.length,al _,rfl,.inl (by rw[kL hl3];simp)⟩⟩;obtain⟨jh,jp,jl,jm,mk,mv,h⟩:=hB.fr Z;have hq:(homes B.fams).length < 1000000:=by lia
  rw[show Y 14 "ends_on"=_ from x6 12 rfl];show jw (lc _ [qr i,qt [.tup hs,.tup m],none,none] S)=_;unfold lc;rw[aA (by simp[p];exact⟨rfl,rfl⟩)];rw[aA (e:=p i S.length A) (b:=S1) (by rw[bW,show iM (fh (eB (aT Att) d5 "homes")) (p i S.length none) (S++[.lst []])=some (intsFrom 0 (homes B.fams).length,S++[.lst []]) by rw[JW,IQ,h.homes rfl];simp[h.ho.len,hq]];exact e1)]
  rw[aA (nr rfl hl1 e2 hl2 (by simp;lia))];rw[aA (nr rfl K e3 hl3 (by simp;lia))];rfl
end My
namespace My
open PySem L2 Ev
theorem lA[DecidableEq t](x:t)(y:D):∀(s:List t)(a:List D),s.Nodup->s.length=a.length->(dS x y s a).1.Nodup/\(dS x y s a).1.length=(dS x y s a).2.length/\(dS x y s a).1.length≤s.length+1/\(∀k ∈ (dS x y s a).1,k=x\/k ∈ s)/\∀k,cR k (dS x y s a).1 (dS x y s a).2=if x=k then some y else cR k s a
 | [],[],_,_=>⟨by simp[dS],rfl,by simp[dS],λk h=>.inl (by simpa[dS] using h),λk=>by by_cases q:x=k<;>simp[dS,cR,q]⟩
 | [],_::_,_,h=>by simp at h
 |_::_,[],_,h=>by simp at h
 |n::s,v::a,b,l=>by
  obtain⟨m,b⟩:=cz.mp b;by_cases q:n=x
  .have e:dS x y (n::s) (v::a)=(n::s,y::a):=by simp[dS,q]
   rw[e];refine⟨cz.mpr ⟨m,b⟩,by simpa using l,by simp,λk h=>.inr h,λk=>?_⟩;subst q;by_cases f:n=k<;>simp[cR,f]
  .obtain⟨p,d,u,c,w⟩:=lA x y s a b (by simpa using l);have e:dS x y (n::s) (v::a)=(n::(dS x y s a).1,v::(dS x y s a).2):=by simp[dS,q]
   rw[e];refine⟨cz.mpr ⟨λz=>?_,p⟩,by simp[d],by simp;lia,λk h=>?_,λk=>?_⟩
   .rcases c n z with z|z
    .exact q z
    .exact m z
   .rcases aP.mp h with rfl|h
    .exact .inr aH
    .rcases c k h with h|h
     .exact .inl h
     .exact .inr (aI _ h)
   .show (if n=k then some v else cR k (dS x y s a).1 (dS x y s a).2)=_;by_cases f:n=k
    .subst f;have:¬x=n:=λz=>q z.symm
     simp[cR,this]
    .rw [au f,w];by_cases r:x=k
     .simp [r]
     .simp [r,cR,f]
noncomputable def ti:P->List cj
 | .tup [_,.int a,.int b]=>[.inl a,.inl b]
 |_=>[]
noncomputable abbrev KV:=List (List cj)×List D
def putAll:Nat->List P->KV->KV
 |_,[],s=>s
 |k,p::r,s=>putAll (k+1) r (dS (ti p) (.p (.int (k:Int))) s.1 s.2)
structure KVok(s:KV):Prop where
 nd:s.1.Nodup
 ln:s.1.length=s.2.length
theorem KVok.put(h:KVok s)(k:List cj)(y:D):KVok (dS k y s.1 s.2):=by obtain⟨x,a,_⟩:=lA k y s.1 s.2 h.nd h.ln;exact⟨x,a⟩
theorem KY:∀(ps:List P)(k:Nat)(s:KV),KVok s->∀y d,cR y (putAll k ps s).1 (putAll k ps s).2=some d->cR y s.1 s.2=some d\/∃(j:Nat)(p:P),ps[j]? = some p/\d=.p (.int ((k+j:Nat):Int))
 | [],k,s,h,y,d,e=>.inl e
 |p::r,k,s,h,y,d,e=>by
  rcases KY r (k+1) _ (h.put (ti p) (.p (.int (k:Int)))) y d e with e|⟨j,n,x,a⟩
  .rw [(lA (ti p) (.p (.int (k:Int))) s.1 s.2 h.nd h.ln).2.2.2.2]at e;split at e
   .cases e;exact .inr ⟨0,p,rfl,rfl⟩
   .exact .inl e
  .exact .inr ⟨j+1,n,by simpa using x,by rw[a,show k+1+j=k+(j+1) by lia]⟩
theorem F_:∀(ps:List P)(k:Nat)(s:KV),KVok s->∀y,((∃d,cR y s.1 s.2=some d)\/∃p ∈ ps,ti p=y)->∃d,cR y (putAll k ps s).1 (putAll k ps s).2=some d
 | [],k,s,h,y,q=>by
  rcases q with q|⟨_,z,_⟩
  .exact q
  .cases z
 |p::r,k,s,h,y,q=>by
  refine F_ r (k+1) _ (h.put (ti p) (.p (.int (k:Int)))) y ?_;have e:=(lA (ti p) (.p (.int (k:Int))) s.1 s.2 h.nd h.ln).2.2.2.2 y;by_cases w:ti p=y
  .exact .inl ⟨_,by rw[e,am w]⟩
  .rcases q with ⟨d,q⟩|⟨x,z,q⟩
   .exact .inl ⟨d,by rw[e,au w];exact q⟩
   .rcases aP.mp z with rfl|z
    .exact absurd q w
    .exact .inr ⟨x,z,q⟩
def zb(f r w:List P):BD:=⟨f,r,w,(putAll 0 (bX (aY f) r) ([],[])).1,(putAll 0 (bX (aY f) r) ([],[])).2⟩
theorem Sj:KVok ([],[]):=⟨by simp,rfl⟩
theorem Dy(f o w:List P):Places (zb f o w) where
 get:=λr a b h=>F_ _ 0 _ Sj _ (.inr ⟨_,h,rfl⟩)
 ok:=λx y d h=>by
  rcases KY _ 0 _ Sj _ d h with e|⟨j,p,s,n⟩
  .cases e
  .obtain⟨r,k,a,b,rfl⟩:=sV (B:=zb f o w) (a9 s);exact⟨j,r,a,b,k,by rw[n,fG],s⟩
@[simp] theorem UI:¬("families":Str)="homes"/\¬("families":Str)="pairs"/\¬("families":Str)="places"/\¬("families":Str)="members"/\¬("homes":Str)="pairs"/\¬("homes":Str)="places"/\¬("homes":Str)="members"/\¬("pairs":Str)="places"/\¬("pairs":Str)="members"/\¬("places":Str)="members":=by decide +kernel
theorem Lb{j:Str->GF}(l:P)(a b c:D)(o u:SO):∀(ps:List P)(k:Nat)(s:KV),KVok s->s.1.length+ps.length≤900000->(∀p ∈ ps,∃r x y,p=.tup [r,.int x,.int y])->∀f m:Option D,∃q n,
  bu (aW [ak 2,ak 3]) (fS z) (bv (k:Int) ps) [qr 0,U l,f,m,none] [.ins "Board" ["families","homes","pairs","places"] [a,b,c,.ref 3],o,u,.dtt s.1 s.2]=some (.nx,[qr 0,U l,q,n,none],[.ins "Board" ["families","homes","pairs","places"] [a,b,c,.ref 3],o,u,.dtt (putAll k ps s).1 (putAll k ps s).2])
 | [],k,s,_,_,_,f,m=>⟨f,m,rfl⟩
 |p::r,k,s,h,i,g,f,m=>by
  simp only[aQ]at i;obtain⟨d,x,y,rfl⟩:=g p aH;have H:=(lA (ti (.tup [d,.int x,.int y])) (.p (.int (k:Int))) s.1 s.2 h.nd h.ln).2.2.1;obtain⟨q,n,e⟩:=Lb (z:=z) (j:=j) l a b c o u r (k+1) _ (h.put (ti (.tup [d,.int x,.int y])) (.p (.int (k:Int)))) (by lia) (λp v=>g p (aI _ v)) (J (k:Int)) (qt [d,.int x,.int y]);refine⟨q,n,?_⟩;unfold bv putAll;rw[jE]at e;refine(cg (h:=[qr 0,U l,J (k:Int),qt [d,.int x,.int y],none]) rfl ?_).trans e;have t:=h.nd;have w:s.1.length≤1000000:=by lia
  simp[fS,lJ,i3,l_,dM,dj,t,w,ti]
theorem CC:∀{s:List cj}{h:List D},cR k s h=cF k s h
 | [],_=>by cases ‹List D›<;>rfl
 |_::_,[]=>rfl
 |x::s,v::h=>by
  show(if x=k then some v else cR k s h)=if x=k then some v else cF k s h
  rw[CC]
theorem Ka{n:Nat}{a:List P}{S:aB}{d x e:D}(h:S[0]? = some (.ins "Board" fields [.p (.lst a),.ref 1,d,x,e]))(r:S[1]? = some (.lst ((homes a).map .p))){k:Nat}{f:P}(t:(bM a)[k]? = some f):Y (n+2) "Board.family_of" [.ref 0,.p (.int (k:Int))] S=some (.p f,S):=by
 obtain⟨p,s,b⟩:=uk t;have c:lP (eB (aT Att) (aN 0) "homes") (vv 1) [qr 0,J (k:Int)] S=some (.p (.int (p:Int)),S):=iP.ix (j:=1) (.inl r) (by simp[h,lJ,JS]) rfl (b_ s);have m:eB (aT Att) (aN 0) "families" [qr 0,J (k:Int)] S=some (.p (.lst a),S):=by simp[h,lJ,JS]
 rw[gU];show jw (aS _ [qr 0,J (k:Int)] S)=_;rw[aS,lP,m,aw,vE,c];simp[b_ b]
noncomputable def i8(N:LS)(t:Nat)(s:Str):List Nat:=(List.range t).filter λi=>decide (N[i]? = some s)
theorem ke(N:LS)(t:Nat)(s:Str):i8 N (t+1) s=if N[t]? = some s then i8 N t s++[t] else i8 N t s:=by
 unfold i8;rw[List.range_succ,List.filter_append];by_cases h:N[t]? = some s
 .rw [am h,vk (by simpa using h)];rfl
 .rw [au h,vj (by simpa using h)];simp
theorem zH(a:t≤N.length)(h:s ∉ N.take t):i8 N t s=[]:=by
 unfold i8;refine List.filter_eq_nil_iff.mpr λi x q=>h ?_
 have x:i < t:=gh.mp x;have e:=be q;rw[<- g7 x]at e;exact a9 e
structure MI(fams:List P)(o2 o3:SO)(t:Nat)(mk:List cj)(mv:List D)(S:aB):Prop where
 h0:S[0]? = some (.ins "Board" fields [.p (.lst fams),.ref 1,.ref 2,.ref 3,.ref 4])
 h1:S[1]? = some (.lst ((homes fams).map .p))
 h2:S[2]? = some o2
 h3:S[3]? = some o3
 h4:S[4]? = some (.dct mk mv)
 nd:mk.Nodup
 ln:mk.length=mv.length
 le:mk.length≤t
 yes:∀s ∈ (aY fams).take t,∃j,cR (.inr s) mk mv=qr j/\5≤j/\S[j]? = some (.lst ((cx (i8 (aY fams) t s)).map .p))
 no:∀s,s ∉ (aY fams).take t->cR (.inr s) mk mv=none
 inj:∀s s' j,cR (.inr s) mk mv=qr j->cR (.inr s') mk mv=qr j->s=s'
set_option tactic.hygienic true in
theorem JP{a:List P}{o2 o3:SO}{t:Nat}{mk:List cj}{m:List D}{S:aB}(h:MI a o2 o3 t mk m S){n:Nat}(ht:t≤100){rs:List P}(M:∀f ∈ a,iB rs f){f:P}(L:(bM a)[t]? = some f)(l:P)(v d:Option D) :
  ∃W X S',MI a o2 o3 (t+1) W X S'/\cH (Y (n+2)) [qr 0,U l,v,d,J (t:Int)] S=some (.nx,[qr 0,U l,v,d,J (t:Int)],S'):=by
 have N:(aY a)[t]? = some (br f):=by unfold aY;rw[dC,L];rfl
 have htl:t < (aY a).length:=bR N;have ef:=Ka (n:=n) h.h0 h.h1 L;have em:eA (mT Tb (Y (n+2))) (aN 0) "family_of" (bY (aN 4) jD) [qr 0,U l,v,d,J (t:Int)] S=some (.p f,S):=by rw[eA];show bL (some (D.ref 0,S)) _=_;rw[aw];simp only[h.h0,QR,QV];exact ef
 have ek:(nY tR (vE (eA (mT Tb (Y (n+2))) (aN 0) "family_of" (bY (aN 4) jD))) (vi 0)) [qr 0,U l,v,d,J (t:Int)] S=some (.str (br f),S):=by obtain⟨nm,c,Z,I,whos,steps,_,rfl⟩:=nj M (a9 L);rw[nY,vE,em];simp[br]
 have eo:eB (aT Att) (aN 0) "members" [qr 0,U l,v,d,J (t:Int)] S=some (.ref 4,S):=by simp[h.h0,lJ,JS]
 have l5:4 < S.length:=bR h.h4;have E:(aY a).take (t+1)=(aY a).take t++[br f]:=by rw[List.take_add_one,N];rfl
 have p:∀k,k < S.length->(S++[SO.lst []])[k]? = S[k]?:=λk B=>cA B;have u:m_ (.ref 4) S=some (4,mk,m):=by simp[m_,h.h4]
 have o:m_ (.ref 4) (S++[.lst []])=some (4,mk,m):=by simp[m_,p 4 l5,h.h4]
 have A:(mk.Nodup/\few mk=true):=⟨h.nd,by rw[sC];have:=h.le;lia⟩;by_cases V:br f ∈ (aY a).take t
 .obtain⟨j,F,hj,e2⟩:=h.yes _ V;have Q:j < S.length:=bR e2;have K:(S++[SO.lst []])[j]? = some (.lst ((cx (i8 (aY a) t (br f))).map .p)):=by rw[p j Q];exact e2
  have C:(cx (i8 (aY a) t (br f))).length≤1000000:=by have:=gY (λi=>decide ((aY a)[i]? = some (br f))) (List.range t);simp[cx,i8];simp at this;lia
  refine⟨mk,m,(S++[SO.lst []]).set j (.lst ((cx (i8 (aY a) (t+1) (br f))).map .p)),?_,?_⟩
  .have e:∀k,k < S.length->k≠j->((S++[SO.lst []]).set j (.lst ((cx (i8 (aY a) (t+1) (br f))).map .p)))[k]? = S[k]?:=λk B q=>by rw[aL (λz=>q z.symm),p k B]
   refine⟨by rw[e 0 (by lia) (by lia)];exact h.h0,by rw[e 1 (by lia) (by lia)];exact h.h1,by rw[e 2 (by lia) (by lia)];exact h.h2,by rw[e 3 (by lia) (by lia)];exact h.h3,by rw[e 4 (by lia) (by lia)];exact h.h4,h.nd,h.ln,by have:=h.le;lia,λs x=>?_,λs x=>?_,h.inj⟩
   .by_cases q:s=br f
    .subst q;exact⟨j,F,hj,by rw[bH (by simp;lia)]⟩
    .have g:s ∈ (aY a).take t:=by
      rw[E]at x;rcases bP.mp x with z|z
      .exact z
      .exact absurd (dY.mp z) q
     obtain⟨y,b,r,H⟩:=h.yes s g;have R:y≠j:=λz=>q (h.inj s (br f) j (z ▸ b) F);refine⟨y,b,r,?_⟩;rw[e y (bR H) R,ke,au λz=>q (by rw[N]at z;cases z;rfl)];exact H
   .exact h.no s λz=>x (by rw[E];exact iU _ z)
  .unfold cH;rw[cf,bA,nw,eo,aw];simp only[u,ek,aw];rw[show cZ bf [some (D.ref 0),U l,v,d,J (t:Int)] S=some (.ref S.length,S++[.lst []]) by simp];simp only[aw,o,dj,am A,F,d9,K];rw[show aN 4 [some (D.ref 0),U l,v,d,J (t:Int)] (S++[SO.lst []])=some (.p (.int (t:Int)),S++[.lst []]) from rfl,aw];simp only[K];rw[am (by rw[sC,bn];exact C),ke,am N];simp[cx]
 .have F:=h.no _ V;obtain⟨g1,g2,g3,g4,G⟩:=lA (.inr (br f):cj) (.ref S.length) mk m h.nd h.ln;have c0:i8 (aY a) t (br f)=[]:=zH (by lia) V;refine⟨(dS (Sum.inr (br f):cj) (.ref S.length) mk m).1,(dS (Sum.inr (br f):cj) (.ref S.length) mk m).2,((S++[SO.lst []]).set 4 (SO.dct (dS (Sum.inr (br f):cj) (.ref S.length) mk m).1 (dS (Sum.inr (br f):cj) (.ref S.length) mk m).2)).set S.length (.lst [.p (.int (t:Int))]),?_,?_⟩
  .have e:∀k,k < S.length->k≠4->(((S++[SO.lst []]).set 4 (.dct (dS (.inr (br f)) (.ref S.length) mk m).1 (dS (.inr (br f)) (.ref S.length) mk m).2)).set S.length (.lst [.p (.int (t:Int))]))[k]? = S[k]?:=λk B q=>by rw[aL (by lia),aL (λz=>q z.symm),p k B]
   refine⟨by rw[e 0 (by lia) (by lia)];exact h.h0,by rw[e 1 (by lia) (by lia)];exact h.h1,by rw[e 2 (by lia) (by lia)];exact h.h2,by rw[e 3 (by lia) (by lia)];exact h.h3,by rw[aL (by lia),bH (by simp;lia)],g1,g2,by have:=h.le;lia,λs x=>?_,λs x=>?_,λs s' j b r=>?_⟩
   .by_cases q:s=br f
    .subst q;refine⟨S.length,by rw[G,am rfl],by lia,?_⟩;rw[bH (by simp),ke,am N,c0];rfl
    .have g:s ∈ (aY a).take t:=by
      rw[E]at x;rcases bP.mp x with z|z
      .exact z
      .exact absurd (dY.mp z) q
     obtain⟨y,b,r,H⟩:=h.yes s g;refine⟨y,by rw[G,au λz=>q (kI z).symm];exact b,r,?_⟩;rw[e y (bR H) (by lia),ke,au λz=>q (by rw[N]at z;cases z;rfl)];exact H
   .rw [G,au λz=>x (by rw[E,<- kI z];simp)];exact h.no s λz=>x (by rw[E];exact iU _ z)
   .have low:∀s j,cR (.inr s) mk m=qr j->j < S.length:=λs j q=>by
     by_cases w:s ∈ (aY a).take t
     .obtain⟨y,b,_,H⟩:=h.yes s w;rw[q]at b;cases b;exact bR H
     .rw [h.no s w]at q;cases q
    rw[G]at b r;split at b
    .rename_i z1;cases b;split at r
     .rename_i z2;exact(kI z1).symm.trans (kI z2)
     .exact absurd (low _ _ r) (by lia)
    .split at r
     .cases r;exact absurd (low _ _ b) (by lia)
     .exact h.inj s s' j b r
  .have l1:((S++[SO.lst []]).set 4 (.dct (dS (.inr (br f)) (.ref S.length) mk m).1 (dS (.inr (br f)) (.ref S.length) mk m).2))[S.length]? = some (.lst []):=by
    rw[aL (by lia)];exact kn _ _
   unfold cH;rw[cf,bA,nw,eo,aw];simp only[u,ek,aw];rw[show cZ bf [some (D.ref 0),U l,v,d,J (t:Int)] S=some (.ref S.length,S++[.lst []]) by simp];simp only[aw,o,dj,am A,F,d9,l1];rw[show ∀T:aB,aN 4 [some (D.ref 0),U l,v,d,J (t:Int)] T=some (.p (.int (t:Int)),T) from λ_=>rfl,aw];simp only[l1];rfl
variable{n:Nat}
theorem JQ(r:∀f ∈ a,iB A f)(H:(bM a).length≤100)(p:P)(s c:Option D)(h:MI a o u 0 [] [] S) :
  ∃mk m x q,MI a o u (bM a).length mk m x/\bu (ak 4) (cH (Y (n+2))) (intsFrom 0 (bM a).length) [qr 0,U p,s,c,none] S=some (.nx,[qr 0,U p,s,c,q],x):=by
 obtain⟨z,x,e,mk,m,q,I,rfl⟩:=cD (g:=ak 4) (b:=cH (Y (n+2))) (Inv:=λt L S=>∃mk m q,MI a o u t mk m S/\L=[qr 0,U p,s,c,q]) (xs:=intsFrom 0 (bM a).length) (k:=0) (L:=[qr 0,U p,s,c,none]) (S:=S) (λi v L S y I=>by obtain⟨rfl,l⟩:=ints_get y;obtain⟨mk,m,q,I,rfl⟩:=I;simp only[df];rw[fG]at I ⊢;obtain⟨d,w,x,j,e⟩:=JP I (n:=n) (by lia) r (bI l) p s c;exact⟨_,_,x,rfl,e,d,w,_,j,rfl⟩) ⟨[],[],none,h,rfl⟩
 rw[bQ,fG]at I;exact⟨mk,m,x,q,I,e⟩
theorem yt(x:Pln f o w):∃S,Y (n+4) "Board.__init__" [.ref 0,.p (.tup [.lst f,.lst o,.lst w])] [.ins "Board" [] []]=some (.p .non,S)/\Bd (zb f o w) S.length 0 S:=by
 let l:P:=.tup [.lst f,.lst o,.lst w]
 let R:=bX (aY f) o
 have H:R.length≤2048:=w8 (B:=zb f o w) x;have E:=jy x;have m:=oG (f:=f);obtain⟨q,e,c⟩:=Lb (z:=Y (n+3)) (j:=Y (n+2)) l (.p (.lst f)) (.ref 1) (.ref 2) (.lst ((homes f).map .p)) (.fz (.lst R)) R 0 ([],[]) Sj (by simp;lia) (λp z=>by obtain⟨r,_,a,b,rfl⟩:=sV (B:=zb f o w) z;exact⟨r,a,b,rfl⟩) none none
 rw[show((0:Nat):Int)=0 from rfl]at c;generalize v:putAll 0 R ([],[])=k at c;have I:MI f (.fz (.lst R)) (.dtt k.1 k.2) 0 [] [] [.ins "Board" fields [.p (.lst f),.ref 1,.ref 2,.ref 3,.ref 4],.lst ((homes f).map .p),.fz (.lst R),.dtt k.1 k.2,.dct [] []]:=
  ⟨rfl,rfl,rfl,rfl,rfl,by simp,rfl,by simp,λs h=>(by simp at h),λs _=>rfl,λs L j h=>(by cases h)⟩
 obtain⟨mk,u,S,G,M,g⟩:=JQ (n:=n+1) x.hf (by lia) l q e I;have t:Bat (zb f o w) S.length 0 1 2 3 4 mk u S:=by
  refine⟨M.h0,.inl M.h1,.inr M.h2,?_,M.h4,λs K=>?_,bR M.h0,bR M.h1,bR M.h2,bR M.h3,bR M.h4,al _⟩
  .have:=M.h3;rw[<- v]at this;exact this
  .have N:(aY f).length=(bM f).length:=by simp[aY]
   obtain⟨j,A,_,d⟩:=M.yes s (by rw[<- N,qm];exact K);refine⟨j,bR d,by rw[<- CC];exact A,.inl ?_⟩;have:i8 (aY f) (bM f).length s=eJ (zb f o w).N s:=by rw[<- N];rfl
   rw[<- this];exact d
 refine⟨S,?_,1,2,3,4,mk,u,t⟩;have i:=K8 (n:=n+1) x.hf x.f0.2 (.lst o) (.lst w);have y:=KU (n:=n) x;rw[sI];show jw (iJ _ [qr 0,U l,none,none,none] [.ins "Board" [] []])=_;unfold iJ;rw[aA (e:=[qr 0,U l,none,none,none]) (b:=[.ins "Board" ["families"] [.p (.lst f)]]) (by simp[l,lJ,Ev.putK,Ev.tf])];rw[aA (e:=[qr 0,U l,none,none,none]) (b:=[.ins "Board" ["families","homes"] [.p (.lst f),.ref 1],.lst ((homes f).map .p)]) (by simp[l,lJ,Ev.putK,Ev.tf,i])];rw[aA (e:=[qr 0,U l,none,none,none]) (b:=[.ins "Board" ["families","homes","pairs"] [.p (.lst f),.ref 1,.ref 2],.lst ((homes f).map .p),.lst (R.map .p)]) (by simp[l,lJ,Ev.putK,Ev.tf,y,R])];rw[aA (e:=[qr 0,U l,none,none,none]) (b:=[.ins "Board" ["families","homes","pairs","places"] [.p (.lst f),.ref 1,.ref 2,.ref 3],.lst ((homes f).map .p),.lst (R.map .p),.dtt [] []]) (by simp[lJ,Ev.putK,Ev.tf])];have C:toP 9 (.ref 2) [.ins "Board" ["families","homes","pairs","places"] [.p (.lst f),.ref 1,.ref 2,.ref 3],.lst ((homes f).map .p),.lst (R.map .p),.dtt [] []]=some (.lst R,[.ins "Board" ["families","homes","pairs","places"] [.p (.lst f),.ref 1,.ref 2,.ref 3],.lst ((homes f).map .p),.fz (.lst R),.dtt [] []]):=gu rfl;rw[aA (e:=[qr 0,U l,q,e,none]) (b:=[.ins "Board" ["families","homes","pairs","places"] [.p (.lst f),.ref 1,.ref 2,.ref 3],.lst ((homes f).map .p),.fz (.lst R),.dtt k.1 k.2]) (by rw[bW,ug,vE];rw[show eB (aT Att) (aN 0) "pairs" [some (D.ref 0),U l,none,none,none] [SO.ins "Board" ["families","homes","pairs","places"] [.p (.lst f),.ref 1,.ref 2,.ref 3],.lst ((homes f).map .p),.lst (R.map .p),.dtt [] []]=some (.ref 2,[SO.ins "Board" ["families","homes","pairs","places"] [.p (.lst f),.ref 1,.ref 2,.ref 3],.lst ((homes f).map .p),.lst (R.map .p),.dtt [] []]) by simp[lJ,i3],aw,C];exact c)]
 rw[aA (e:=[qr 0,U l,q,e,none]) (b:=[.ins "Board" fields [.p (.lst f),.ref 1,.ref 2,.ref 3,.ref 4],.lst ((homes f).map .p),.fz (.lst R),.dtt k.1 k.2,.dct [] []]) (by simp[lJ,Ev.putK,Ev.tf,pb,fields])];have F:(homes f).length < 1000000:=by lia
 rw[bW,show iM (fh (eB (aT Att) (aN 0) "homes")) [some (D.ref 0),U l,q,e,none] [SO.ins "Board" fields [.p (.lst f),.ref 1,.ref 2,.ref 3,.ref 4],.lst ((homes f).map .p),.fz (.lst R),.dtt k.1 k.2,.dct [] []]=some (intsFrom 0 (homes f).length,[SO.ins "Board" fields [.p (.lst f),.ref 1,.ref 2,.ref 3,.ref 4],.lst ((homes f).map .p),.fz (.lst R),.dtt k.1 k.2,.dct [] []]) by simp[lJ,JS,cV,F],aw,m];rw[g];rfl
noncomputable abbrev cQ(B:BD):P:=.tup [.lst B.fams,.lst B.roads,.lst B.wishes]
theorem Hd(h:14≤m):Y m "ends_on"=Y 14 "ends_on":=by
 induction h with
 |refl=>rfl
 |step h i=>exact(Dq (p9.mpr ⟨rfl,Nat.ble_eq.mpr h⟩)).trans i
theorem Qc(m:B=zb B.fams B.roads B.wishes)(P:BP B)(c:∀(b i:Nat) (S:aB),Bd B b i S->∃d h,Y 14 "ends_on" [.ref i,.p st] S=some (d,h)/\Fr b S h/\nN S h d E):dJ (Y (n+18) "ends_from") [cQ B,st]=some (.lst E):=by obtain⟨h,k,x⟩:=yt P (n:=n+12);rw[<- m]at x;obtain⟨d,t,a,r,s⟩:=c _ _ _ x;rw[<- Hd (show 14≤n+17 by lia)]at a;obtain⟨p,f,_⟩:=s.toP r x.le;have e:Y (n+16) "Board.__init__" [.ref 0,.p (cQ B)] [.ins "Board" [] []]=some (.p .non,h):=k;rw[tD,aO];simp[lV,e,a,f]
end My
namespace My
open PySem L2 Ev
noncomputable def HJ:P->P
 | .tup [_,e]=>e
 |_=>.non
def pE(d z:P):Bool:=cb (pd (J8 z)) (pd d)
def mE(d:P):Prop:=iC d/\dh 3 d=true
structure SE(B:BD)(st:P)(E:List P):Prop where
 len:E.length≤40000
 sh:∀z ∈ E,∃d e,z=.tup [d,e]/\mE d/\fV B e
 nd:E.Pairwise dNe
 on:∀m,∀(b i:Nat)(S:aB),Bd B b i S->∃d S',Y (m+14) "ends_on" [.ref i,.p st] S=some (d,S')/\Fr b S S'/\nN S S' d E
 ef:∀m,dJ (Y (m+18) "ends_from") [cQ B,st]=some (.lst E)
noncomputable def AF(B:BD)(q:P):List P:=@dite _ (∃E,SE B q E) (zT _) (λh=>Classical.choose h) λ_=>[]
abbrev SA(B:BD):Prop:=∀{q:P},fV B q->SE B q (AF B q)
abbrev Bg(B:BD)(t:P):Prop:=∀m,dJ (Y (m+4) "begin") [cQ B]=some t
variable{B:BD}{q:P}
theorem Qu(f:B=zb B.fams B.roads B.wishes)(P:BP B)(L:Places B)(h:fV B q):SE B q (AF B q):=by
 obtain⟨l,r,rfl,S⟩:=h;have h:∃E,SE B (.tup [.tup l,.tup r]) E:=by obtain⟨E,a,⟨s,k⟩,x⟩:=Qb P L S;refine⟨E,a,λz b=>?_,k,λm=>by rw[Hd (Nat.le_add_left 14 m)];exact x,λm=>Qc (n:=m) f P x⟩;obtain⟨d,e,c,t,p,v⟩:=s z b;exact⟨d,e,c,⟨t,p⟩,v⟩
 unfold AF;rw[dif_pos h];exact zS h
def nx(B:BD)(q d:P):Option P:=((AF B q).find? (pE d)).map HJ
def wk(B:BD):List P->P->List P×Bool
 | [],_=>([],true)
 |d::r,q=>match nx B q d with
  |some e=>(e::(wk B r e).1,(wk B r e).2)
  |none=>([],false)
variable{d:P}{e:P}
theorem iY(h:nx B q d=some e):wk B (d::r) q=(e::(wk B r e).1,(wk B r e).2):=by simp[wk,h]
theorem mX(h:nx B q d=none):wk B (d::r) q=([],false):=by simp[wk,h]
section
variable{B:BD}(u:SA B){q:P}(l:fV B q)
include u l
theorem Gh(h:nx B q d=some e):fV B e:=by obtain⟨z,a,rfl⟩:=eQ.mp h;obtain⟨s,n,rfl,_,x⟩:=(u l).sh z (qx a);exact x
theorem MP(z:.tup [d,e] ∈ AF B q):nx B q d=some e:=by
 obtain⟨_,_,a,hd,_⟩:=(u l).sh _ z;simp only[P.tup.injEq,cy,ij]at a;obtain⟨rfl,rfl⟩:=a;unfold nx;cases f:(AF B q).find? (pE d) with
 |none=>exact absurd ((CG hd.1 hd.1 hd.2).mpr rfl) (List.find?_eq_none.mp f _ z)
 |some y=>have s:=qx f;have p:=u9 f;obtain⟨n,k,rfl,h,_⟩:=(u l).sh y s;have b:n=d:=(CG h.1 hd.1 h.2).mp p;have x:=Gf (u l).nd s z b;simp only[P.tup.injEq,cy,ij]at x;show some k=some e;rw[x.2]
end
theorem yR{B:BD}:∀(a:List P)(q:P),(wk B a q).1.length≤a.length/\((wk B a q).2=true->(wk B a q).1.length=a.length)
 | [],_=>⟨by simp[wk],λ_=>by simp[wk]⟩
 |d::r,q=>by
  cases h:nx B q d with
  |none=>rw[mX h];exact⟨by simp,λz=>by cases z⟩
  |some e=>rw[iY h];obtain⟨s,x⟩:=yR (B:=B) r e;exact⟨by simp;lia,λz=>by simp[x z]⟩
theorem E7(u:SA B):∀(a:List P){q:P},fV B q->∀e ∈ (wk B a q).1,fV B e
 | [],_,_,e,h=>by cases h
 |d::r,q,l,e,h=>by
  cases n:nx B q d with
  |none=>rw[mX n]at h;cases h
  |some s=>
   rw[iY n]at h;have x:=Gh u l n;rcases aP.mp h with rfl|h
   .exact x
   .exact E7 u r x e h
def iL(B:BD)(a:List P)(t:P):P:=if (wk B a t).2=true then .tup [.str "told",.lst (t::(wk B a t).1)] else .tup [.str "refused",.int ((wk B a t).1.length:Nat)]
variable{a:List P}{t:P}
theorem Ga(u:SA B)(b:fV B t):dh 20 (iL B a t)=true:=by
 unfold iL;split
 .have:dh 19 (.lst (t::(wk B a t).1))=true:=Pz λx h=>by
   rcases aP.mp h with rfl|h
   .exact dR b.ok (by lia)
   .exact dR (E7 u a b x h).ok (by lia)
  show(List.all [P.str "told",.lst (t::(wk B a t).1)] (dh 19))=true;rw[eR,eR,this];decide +kernel
 .show (List.all [P.str "refused",.int _] (dh 19))=true;simp only[eR,A3,Ck];decide +kernel
theorem Hb(h:mE d)(a:mE x):CH d x=some (cb (pd d) (pd x)):=Qa h.1 a.1 h.2 a.2
theorem K_(m p:Str->GF)(n:mE h)(a x:Option D)(S:aB):∀{s:List P},(∀z ∈ s,∃d e,z=.tup [d,e]/\mE d/\fV B e)->∀f c:Option D,∃L,bu (aW [ak 3,ak 4]) (dO m) s [a,x,U h,f,c] S=match s.find? (pE h) with|some z=>some (.rt (.p (HJ z)),L,S)|none=>some (.nx,L,S)
 | [],_,_,_=>⟨_,rfl⟩
 |y::s,k,f,c=>by
  obtain⟨d,q,rfl,hd,_⟩:=k y aH;have e:=Hb hd n;rw[jS];cases b:cb (pd d) (pd h) with
  |true=>rw[show pE h (.tup [d,q])=true from b];refine⟨[a,x,U h,U d,U q],?_⟩;rw[b]at e;unfold bu;simp[dO,e,HJ]
  |false=>rw[show pE h (.tup [d,q])=false from b];obtain⟨L,r⟩:=K_ m p n a x S (s:=s) (λz t=>k z (aI _ t)) (U d) (U q);rw[b]at e;exact⟨L,(cg (h:=[a,x,U h,U d,U q]) (L2:=[a,x,U h,U d,U q]) (x:=S) rfl (by simp[dO,e])).trans r⟩
variable{n:Nat}{b:Nat}{i:Nat}{S:aB}
theorem Nj(u:SA B)(l:fV B q)(hd:mE d)(k:Bd B b i S) :
  ∃x,Fr b S x/\match nx B q d with
  |some e=>Y (n+16) "do_on" [.ref i,.p q,.p d] S=some (.p e,x)
  |none=>Y (n+16) "do_on" [.ref i,.p q,.p d] S=none/\Xh (n+16) "do_on" [.ref i,.p q,.p d] S=some ((("NoDeed":Str),none),x):=by
 obtain⟨j,w,r,p,m⟩:=(u l).on (n+1) _ _ _ k;obtain⟨a,t,f⟩:=sT (b:=b) (g:=Y (n+15) "ends_on") (q:=sY d5 hU) (L:=[qr i,U q,U d,none,none]) (S:=S) (l:=[.ref i,.p q]) rfl r p k.le m;obtain⟨v,h⟩:=K_ (B:=B) (Y (n+15)) (Y (n+14)) hd (qr i) (U q) a (s:=AF B q) (u l).sh none none;have s:bW (jf (cK (Y (n+15) "ends_on") (sY d5 hU))) (aW [ak 3,ak 4]) (dO (Y (n+15))) [qr i,U q,U d,none,none] S=bu (aW [ak 3,ak 4]) (dO (Y (n+15))) (AF B q) [qr i,U q,U d,none,none] a:=by rw[bW,jf,t];rfl
 refine⟨a,f,?_⟩;unfold nx;rw[DR];cases c:(AF B q).find? (pE d) with
 |some z=>rw[c]at h;show jw (jH _ [qr i,U q,U d,none,none] S)=_;unfold jH;rw[ag,s,h];rfl
 |none=>
  rw[c]at h;refine⟨?_,?_⟩
  .show jw (jH _ [qr i,U q,U d,none,none] S)=_;unfold jH;rw[ag,s,h];rfl
  .rw [yO];show(((l7 _ [qr i,U q,U d,none,none] S).map λz=>(z.1,z.2.2)).bind λz=>if Rs.contains z.1.1=true then some z else none)=_;unfold l7;rw[rh,s,h];rfl
theorem Nh(u:SA B)(l:fV B q)(hd:mE d)(k:Int)(H:Bd B b i S) :
  ∃s,Fr b S s/\match nx B q d with
  |some e=>Y (n+18) "end_at" [.ref i,.p q,.p d,.p (.int k)] S=some (.p e,s)
  |none=>Y (n+18) "end_at" [.ref i,.p q,.p d,.p (.int k)] S=none/\Xh (n+18) "end_at" [.ref i,.p q,.p d,.p (.int k)] S=some ((("NotPossible":Str),some (("place":Str),.int k)),s):=by
 obtain⟨c,r,h⟩:=Nj u l hd (n:=n+1) H;cases m:nx B q d with
 |some e=>rw[m]at h;obtain⟨t,w,f⟩:=yo (b:=b) (g:=Y (n+17) "do_on") (q:=BQ d5 hU gD) (L:=[qr i,U q,U d,J k]) (S:=S) (l:=[.ref i,.p q,.p d]) rfl h r;refine⟨t,f,?_⟩;show Y (n+18) "end_at" _ S=_;rw[sH];show jw (iI _ [qr i,U q,U d,J k] S)=_;unfold iI;rw[aS,O,w];rfl
 |none=>
  rw[m]at h;obtain⟨y,o⟩:=h;refine⟨c,r,?_,?_⟩
  .rw [sH];show jw (iI _ [qr i,U q,U d,J k] S)=_;simp[iI,y]
  .rw [xg];show(((iX _ _ [qr i,U q,U d,J k] S).map λz=>(z.1,z.2.2)).bind λz=>if Rs.contains z.1.1=true then some z else none)=_;have p:(Rs.contains ("NoDeed":Str) && (pK.lookup ("NoDeed":Str)).any λa=>a.contains ("NoDeed":Str))=true:=by decide +kernel
   have v:Rs.contains ("NotPossible":Str)=true:=by decide +kernel
   have j:iX (Y (n+17)) (Xh (n+17)) [qr i,U q,U d,J k] S=some ((("NotPossible":Str),some (("place":Str),.int k)),[qr i,U q,U d,J k],c):=by unfold iX;rw[xh,fH];show(match (lj _ (Xh (n+17) "do_on" [.ref i,.p q,.p d] S):Option (XV×Lc×aB)) with|some (x,F,K)=>_|none=>none)=_;rw[o];show(if ((Rs.contains ("NoDeed":Str) && (pK.lookup ("NoDeed":Str)).any λa=>a.contains ("NoDeed":Str)) && true)=true then _ else none)=_;rw[p];rfl
   rw[j];exact am (e:=(none:Option (XV×aB))) v
theorem iP.put(h:iP S j x)(a:j < b):iP (S.set b o) j x:=by unfold iP;rw[aL (by lia)];exact h
theorem Bd.put(h:Bd B b i S):Bd B b i (S.set b o):=by
 obtain⟨n,p,k,m,mk,v,h⟩:=h;refine⟨n,p,k,m,mk,v,?_,h.ho.put h.bh,h.pr.put h.bp,?_,?_,λs l=>?_,h.bi,h.bh,h.bp,h.bl,h.bm,by rw[cN];exact h.bs⟩
 .rw [aL (by have:=h.bi;lia)];exact h.ins
 .rw [aL (by have:=h.bl;lia)];exact h.pl
 .rw [aL (by have:=h.bm;lia)];exact h.me
 .obtain⟨j,x,a,e⟩:=h.mm s l;exact⟨j,x,a,e.put x⟩
theorem lf(s:List h)(x:h):L2.atI (s++[x]) (-1)=some x:=by unfold L2.atI L2.Cy;simp;rw[am (by lia),jP,show(-1+((s.length:Int)+1)).toNat=s.length by lia];simp
abbrev Ki:nP:=Lq gD (lP il (Db nz cJ)) (aN 5) lr
theorem Kh{k:Int}(h:S[b]? = some (.lst (c.map .p)))(l:L2.atI c (-1)=some q) :
  Ki [U p,U rw,qr 0,qr b,J k,U d] S=some ([.ref 0,.p q,.p d,.p (.int k)],S):=by
 have e:=iP.ix (.inl h) (s:=aN 3) (k:=Db nz cJ) (L:=[U p,U rw,qr 0,qr b,J k,U d]) rfl rfl l;unfold Ki Lq gD il;rw[bY,show aN 2 [U p,U rw,qr 0,qr b,J k,U d] S=some (.ref 0,S) from rfl,aw,bY,e];rfl
theorem KI{B:BD}(u:SA B){n:Nat}(ι:Str->GF)(p rw:P){b:Nat}:∀(a:List P)(k:Nat)(c:List P)(q:P)(S:aB),(∀d ∈ a,mE d)->c.length+a.length≤100->L2.atI c (-1)=some q->fV B q->Bd B b 0 S->S[b]? = some (.lst (c.map .p))->∀i j:Option D,
  ((wk B a q).2=true->∃t v f,bu (aW [ak 4,ak 5]) (a6 (Y (n+18))) (bv (k:Int) a) [U p,U rw,qr 0,qr b,i,j] S=some (.nx,[U p,U rw,qr 0,qr b,t,v],f)/\f[b]? = some (.lst ((c++(wk B a q).1).map .p))) /\
  ((wk B a q).2=false->bu (aW [ak 4,ak 5]) (a6 (Y (n+18))) (bv (k:Int) a) [U p,U rw,qr 0,qr b,i,j] S=none/\∃L f,l8 (aW [ak 4,ak 5]) (a6 (Y (n+18))) (rj il (fH (Xh (n+18) "end_at") Ki)) (bv (k:Int) a) [U p,U rw,qr 0,qr b,i,j] S=some ((("NotPossible":Str),some (("place":Str),.int ((k+(wk B a q).1.length:Nat):Int))),L,f))
 | [],k,c,q,S,_,_,_,_,_,h,i,j=>⟨λ_=>⟨i,j,S,rfl,by simpa[wk] using h⟩,λz=>by simp[wk]at z⟩
 |d::r,k,c,q,S,G,T,R,l,E,h,i,j=>by
  simp only[aQ]at T;obtain⟨I,N,H⟩:=Nh u l (G d aH) (k:Int) (n:=n) E;have A:=Kh (p:=p) (rw:=rw) (d:=d) (k:=(k:Int)) h R;cases m:nx B q d with
  |some e=>
   rw[m]at H;rw[iY m];obtain⟨s,M,y⟩:=yo (b:=b) (g:=Y (n+18) "end_at") (q:=Ki) A H N;have C:=y.hi b _ (al _) h;have w:a6 (Y (n+18)) [U p,U rw,qr 0,qr b,J (k:Int),U d] S=some (.nx,[U p,U rw,qr 0,qr b,J (k:Int),U d],s.set b (.lst ((c++[e]).map .p))):=by unfold a6;exact lD (k:=b) rfl h (by rw[O];show bL (cK (Y (n+18) "end_at") Ki _ S) _=_;rw[M];rfl) C (by lia)
   have Q:(s.set b (.lst ((c++[e]).map .p)))[b]? = some (.lst ((c++[e]).map .p)):=bH (bR C);obtain⟨V,W⟩:=KI u (n:=n) ι p rw r (k+1) (c++[e]) e _ (λx m=>G x (aI _ m)) (by simp;lia) (lf c e) (Gh u l m) (E.fr y).put Q (J (k:Int)) (U d);have o:bv (k:Int) (d::r)=.tup [.int (k:Int),d]::bv ((k+1:Nat):Int) r:=by rw[bv,Ac];rfl
   rw[o];refine⟨λz=>?_,λz=>?_⟩
   .obtain⟨t,v,f,F,K⟩:=V z;refine⟨t,v,f,(cg (h:=[U p,U rw,qr 0,qr b,J (k:Int),U d]) rfl w).trans F,?_⟩;rw[K];simp
   .obtain⟨F,L,f,K⟩:=W z;refine⟨(cg (h:=[U p,U rw,qr 0,qr b,J (k:Int),U d]) rfl w).trans F,L,f,?_⟩;rw[show k+(e::(wk B r e).1).length=k+1+(wk B r e).1.length by simp;lia];rw[<- K];show(match a6 (Y (n+18)) [U p,U rw,qr 0,qr b,J (k:Int),U d] S with|some (.nx,L2,s)=>_|some (.ct,L2,s)=>_|some _=>none|none=>_)=_;rw[w]
  |none=>
   rw[m]at H;obtain⟨X,Z⟩:=H;rw[mX m];have o:bv (k:Int) (d::r)=.tup [.int (k:Int),d]::bv ((k:Int)+1) r:=rfl;have w:a6 (Y (n+18)) [U p,U rw,qr 0,qr b,J (k:Int),U d] S=none:=by
    unfold a6;rw[cf,bA];show bL (bL (some (D.ref b,S)) _) _=none;rw[aw];have:cK (Y (n+18) "end_at") Ki [U p,U rw,qr 0,qr b,J (k:Int),U d] S=none:=by rw[cK,A,aw,X];rfl
    simp only[d9,h,O];rw[show cK (Y (n+18) "end_at") (Lq gD (lP il (Db nz cJ)) (aN 5) lr) [U p,U rw,qr 0,qr b,J (k:Int),U d] S=none from this];rfl
   refine⟨λz=>(by cases z),λ_=>⟨?_,[U p,U rw,qr 0,qr b,J (k:Int),U d],I,?_⟩⟩
   .rw [o];show(match a6 (Y (n+18)) [U p,U rw,qr 0,qr b,J (k:Int),U d] S with|some (.nx,L2,s)=>_|some (.ct,L2,s)=>_|some (.bk,L2,s)=>_|x=>x)=_;rw[w]
   .rw [o];show(match a6 (Y (n+18)) [U p,U rw,qr 0,qr b,J (k:Int),U d] S with|some (.nx,L2,s)=>_|some (.ct,L2,s)=>_|some _=>none|none=>rj il (fH (Xh (n+18) "end_at") Ki) [U p,U rw,qr 0,qr b,J (k:Int),U d] S)=_;rw[w];show rj il (fH (Xh (n+18) "end_at") Ki) [U p,U rw,qr 0,qr b,J (k:Int),U d] S=_;rw[rj];show(match d9 (D.ref b) S with|some _=>fH (Xh (n+18) "end_at") Ki _ S|none=>none)=_;simp only[d9,h];rw[fH,A,aw,Z];rfl
theorem LI(j:B=zb B.fams B.roads B.wishes)(P:BP B)(u:SA B)(l:fV B t)(g:Bg B t)(y:∀d ∈ a,mE d)(F:a.length≤90) :
  ((wk B a t).2=true->∃b S,Y (n+20) "walked" [.p (cQ B),.p (.lst a)] []=some (.ref b,S)/\S[b]? = some (.lst ((t::(wk B a t).1).map .p))) /\
  ((wk B a t).2=false->Y (n+20) "walked" [.p (cQ B),.p (.lst a)] []=none/\∃S,Xh (n+20) "walked" [.p (cQ B),.p (.lst a)] []=some ((("NotPossible":Str),some (("place":Str),.int ((wk B a t).1.length:Nat))),S)):=by
 obtain⟨S,v,h⟩:=yt P (n:=n+14);rw[<- j]at h;have f:Y (n+18) "Board.__init__" [.ref 0,.p (cQ B)] [.ins "Board" [] []]=some (.p .non,S):=v;have i:=g (n+15);obtain⟨o,H⟩:=KI u (n:=n+1) (Y (n+18)) (cQ B) (.lst a) (b:=S.length) a 0 [t] t (S++[.lst [.p t]]) y (by simp;lia) (lf [] t) l (h.fr (.app _ _ _)) (by simp) none none;generalize cQ B=p at *
 have c:(ar 2 (sJ (Y (n+18) "Board.__init__") "Board" (E4 d5))) [U p,ql a,none,none,none,none] []=some (.nx,[U p,ql a,qr 0,none,none,none],S):=by simp[f]
 have m:(ar 3 (cZ (v1 (cU (Y (n+19) "begin") (v1 cI))))) [U p,ql a,qr 0,none,none,none] S=some (.nx,[U p,ql a,qr 0,qr S.length,none,none],S++[.lst [.p t]]):=by simp[i]
 have r:(bW (ug ce) (aW [ak 4,ak 5]) (a6 (Y (n+19)))) [U p,ql a,qr 0,qr S.length,none,none] (S++[.lst [.p t]])=bu (aW [ak 4,ak 5]) (a6 (Y (n+19))) (bv 0 a) [U p,ql a,qr 0,qr S.length,none,none] (S++[.lst [.p t]]):=rfl;refine⟨λz=>?_,λz=>?_⟩
 .obtain⟨K,A,x,s,k⟩:=o z;refine⟨S.length,x,?_,k⟩;rw[sD];show jw (iF _ _ [U p,ql a,none,none,none,none] [])=_;unfold iF;rw[aA c,aA m,aA (r.trans s)];rfl
 .obtain⟨s,L2,x,k⟩:=H z;refine⟨?_,x,?_⟩
  .rw [sD];show jw (iF _ _ [U p,ql a,none,none,none,none] [])=_;unfold iF;rw[aA c,aA m,ag,r.trans s];rfl
  .rw [xf];show(((iW _ _ _ [U p,ql a,none,none,none,none] []).map λz=>(z.1,z.2.2)).bind λz=>if Rs.contains z.1.1=true then some z else none)=_;have q:Rs.contains ("NotPossible":Str)=true:=by decide +kernel
   have w:iW (Y (n+19)) (Y (n+18)) (Xh (n+19)) [U p,ql a,none,none,none,none] []=some ((("NotPossible":Str),some (("place":Str),.int ((wk B a t).1.length:Nat))),L2,x):=by unfold iW;rw[rh,c];dsimp only;rw[rh,m];dsimp only;rw[rh,r.trans s];rw[fG]at k;exact k
   rw[w];exact am (e:=(none:Option (XV×aB))) q
def C0(B:BD)(a:List P)(t:P)(i:Nat)(S:aB):Prop:=if (wk B a t).2=true then ∃j,S[i]? = some (.tpl [.p (.str "told"),.ref j])/\S[j]? = some (.lst ((t::(wk B a t).1).map .p)) else S[i]? = some (.tpl [.p (.str "refused"),.p (.int ((wk B a t).1.length:Nat))])
theorem B3(j:B=zb B.fams B.roads B.wishes)(P:BP B)(u:SA B)(l:fV B t)(g:Bg B t)(o:∀d ∈ a,mE d)(z:a.length≤90) :
  ∃i S,Y (n+22) "_law_told" [.p (cQ B),.p (.lst a)] []=some (.ref i,S)/\C0 B a t i S:=by
 obtain⟨H,F⟩:=LI j P u l g (n:=n+1) o z;rw[wt];cases hw:(wk B a t).2 with
 |true=>
  obtain⟨b,S,h,e⟩:=H hw;refine⟨S.length,S++[.tpl [.p (.str "told"),.ref b]],?_,?_⟩
  .generalize cQ B=p at *
   show jw (fQ _ _ [U p,ql a,none,none,none] [])=_;simp[fQ,y3,h,tj,d8]
  .unfold C0;rw[am hw];exact⟨b,by simp,by rw[cA (bR e)];exact e⟩
 |false=>
  obtain⟨h,S,e⟩:=F hw;have x:i_ pK Rs "NoDeed" "NotPossible"=some false:=by decide +kernel
  have s:i_ pK Rs "NoPlan" "NotPossible"=some false:=by decide +kernel
  have f:i_ pK Rs "TooMany" "NotPossible"=some false:=by decide +kernel
  have m:i_ pK Rs "NotPossible" "NotPossible"=some true:=by decide +kernel
  have r:i_ pK Rs "ValueError" "NotPossible"=some true:=by decide +kernel
  have q:("NotPossible":Str) ∈ Rs/\((pK.lookup ("NotPossible":Str)).any λc=>decide (("RoadError":Str) ∈ c))=true:=by decide +kernel
  have v:G_.lookup ("NotPossible":Str)=some ("place":Str):=by decide +kernel
  generalize y:((wk B a t).1.length:Nat)=k at e;have w:dJ (Y (n+21) "_law_whole") [.int (k:Int)]=some (.bl true):=by rw[tq,aO];rfl
  refine⟨S.length+1,S++[.exc "NotPossible" (some ("place",.int (k:Int))),.tpl [.p (.str "refused"),.p (.int (k:Int))]],?_,?_⟩
  .generalize cQ B=p at *
   show jw (fQ _ _ [U p,ql a,none,none,none] [])=_;simp[fQ,y3,h,e,tj,d8,JY,x,s,f,m,r,q,v,w]
  .unfold C0;rw[au (by rw[hw];exact bt),y];simp
theorem JM(q d:P):nx B q d=(((AF B q).filter (pE d)).map HJ).head?:=by unfold nx;rw[List.head?_map,List.head?_filter]
theorem x9{B:BD}(u:SA B){n:Nat}(ι:Str->GF){h:P}(g:h=cQ B)(rw:P):∀(a:List P)(k:Nat)(c:List P)(q:P),(∀d ∈ a,mE d)->c.length+a.length≤100->L2.atI c (-1)=some q->fV B q->∀i j s:Option D,
  ((wk B a q).2=true->∃b m t,bu (aW [ak 3,ak 4]) (cw (Y (n+18))) (bv (k:Int) a) [U h,U rw,qr 0,i,j,s] [.lst (c.map .p)]=some (.nx,[U h,U rw,qr 0,b,m,t],[.lst ((c++(wk B a q).1).map .p)])) /\
  ((wk B a q).2=false->∃H S,bu (aW [ak 3,ak 4]) (cw (Y (n+18))) (bv (k:Int) a) [U h,U rw,qr 0,i,j,s] [.lst (c.map .p)]=some (.rt (.p (.tup [.str "refused",.int ((k+(wk B a q).1.length:Nat):Int)])),H,S))
 | [],k,c,q,_,_,_,_,i,j,s=>⟨λ_=>⟨i,j,s,by simp[wk,bv,bu]⟩,λz=>by simp[wk]at z⟩
 |d::r,k,c,q,Z,hl,ha,l,i,j,s=>by
  simp only[aQ]at hl;have hd:=Z d aH;have E:=u l;have V:=E.ef n;rw[<- g]at V;have G:=JM (B:=B) q d;have A:L2.atI (c.map D.p) (-1)=U q:=by rw[qV,ha];rfl
  have X:=E.len;have o:bZ (aW [ak 6,ak 7]) (aV (aN 6) lr) lF (AF B q) [U h,U rw,qr 0,J (k:Int),U d,s,none,none] [.lst (c.map .p)]=some (((AF B q).filter (pE d)).map HJ,[.lst (c.map .p)]):=by refine dc (p:=pE d) (f:=HJ) (Inv:=λL=>∃x y,L=[U h,U rw,qr 0,J (k:Int),U d,s,x,y]) (λv hv L hL=>?_) ⟨none,none,rfl⟩;obtain⟨x,y,rfl⟩:=hL;obtain⟨R,e,rfl,C,_⟩:=E.sh v hv;exact⟨[U h,U rw,qr 0,J (k:Int),U d,s,U R,U e],rfl,⟨_,_,rfl⟩,by simp[Hb C hd,pE],λ_=>by simp[HJ]⟩
  have Q:∀z ∈ ((AF B q).filter (pE d)).map HJ,dh 5 z=true:=λz M=>by obtain⟨y,hy,rfl⟩:=bj.mp M;obtain⟨R,e,rfl,_,I⟩:=E.sh y (eE.mp hy).1;exact I.ok
  have N:=qT (s:=((AF B q).filter (pE d)).map HJ) (Pz λz M=>dR (Q z M) (by lia));generalize hF:((AF B q).filter (pE d)).map HJ=F at o N G;have s1:(ar 5 (O (bO (jf (cU (Y (n+18) "ends_from") (v2 cI (vE (lP gD (Db nz cJ)))))) [] 2 (aW [ak 6,ak 7]) (aV (aN 6) lr) lF))) [U h,U rw,qr 0,J (k:Int),U d,s] [.lst (c.map .p)]=some (.nx,[U h,U rw,qr 0,J (k:Int),U d,ql F],[.lst (c.map .p)]):=by
   have hq:(AF B q).length≤1000000:=by lia
   rw[ar,O];unfold bO;rw[jf];simp[A,V,hq,oY,o]
  cases F with
  |nil=>have w:nx B q d=none:=G;rw[mX w];refine⟨λz=>(by cases z),λ_=>⟨[U h,U rw,qr 0,J (k:Int),U d,ql []],[.lst (c.map .p)],?_⟩⟩;refine sB (h:=[U h,U rw,qr 0,J (k:Int),U d,s]) rfl ?_;unfold cw;rw[aA s1];simp[N]
  |cons e W=>
   have w:nx B q d=some e:=G;rw[iY w];have T:cw (Y (n+18)) [U h,U rw,qr 0,J (k:Int),U d,s] [.lst (c.map .p)]=some (.nx,[U h,U rw,qr 0,J (k:Int),U d,ql (e::W)],[.lst ((c++[e]).map .p)]):=by unfold cw;rw[aA s1,aA (by simp[N];exact⟨rfl,rfl⟩)];exact lD (k:=0) (e:=[.lst (c.map .p)]) rfl rfl (by simp) rfl (by lia)
   obtain⟨i1,i2⟩:=x9 u (n:=n) ι g rw r (k+1) (c++[e]) e (λx w=>Z x (aI _ w)) (by simp;lia) (lf c e) (Gh u l w) (J (k:Int)) (U d) (ql (e::W));have o:bv (k:Int) (d::r)=.tup [.int (k:Int),d]::bv ((k+1:Nat):Int) r:=by rw[bv,Ac];rfl
   rw[o];refine⟨λz=>?_,λz=>?_⟩
   .obtain⟨b,m,t,K⟩:=i1 z;refine⟨b,m,t,(cg (h:=[U h,U rw,qr 0,J (k:Int),U d,s]) rfl T).trans (K.trans ?_)⟩;rw[gi];rfl
   .obtain⟨H,S,K⟩:=i2 z;refine⟨H,S,(cg (h:=[U h,U rw,qr 0,J (k:Int),U d,s]) rfl T).trans (K.trans ?_)⟩;rw[show k+(e::(wk B r e).1).length=k+1+(wk B r e).1.length by simp;lia]
theorem Hg(u:SA B)(f:fV B t)(b:Bg B t)(r:∀d ∈ a,mE d)(l:a.length≤90):dJ (Y (n+20) "_law_due") [cQ B,.lst a]=some (iL B a t):=by
 obtain⟨i,c⟩:=x9 u (n:=n+1) (Y (n+18)) rfl (.lst a) a 0 [t] t r (by simp;lia) (lf [] t) f none none none;have k:=b (n+15);rw[x5,aO];generalize cQ B=p at *
 show(match k_ _ [U p,ql a,none,none,none,none] [] with|some (.rt d,_,S)=>(toP 9 d S).map (λx=>x.fst)|some (.nx,_,_)=>some .non|_=>none)=some (iL B a t);unfold k_;rw[aA (by simp[k];exact⟨rfl,rfl⟩)];have s:(bW (ug ce) (aW [ak 3,ak 4]) (cw (Y (n+19)))) [U p,ql a,qr 0,none,none,none] [.lst [.p t]]=bu (aW [ak 3,ak 4]) (cw (Y (n+19))) (bv 0 a) [U p,ql a,qr 0,none,none,none] [.lst [.p t]]:=rfl;unfold iL;cases hw:(wk B a t).2 with
 |true=>
  obtain⟨q,v,w,e⟩:=i hw;rw[aA (s.trans e)];have h:=rH ([t]++(wk B a t).1);generalize (wk B a t).1=W at *
  rw[am rfl];simp only[List.singleton_append,aE]at h;simp[h]
 |false=>obtain⟨L,m,e⟩:=c hw;rw[ag,s.trans e,au bt,fG];rfl
theorem HD(x:List k):L2.atI x (-1)=x.getLast?:=by
 cases List.eq_nil_or_concat x with
 |inl h=>subst h;rfl
 |inr h=>obtain⟨s,y,rfl⟩:=h;rw[List.concat_eq_append,lf];simp
theorem BS:∀{a:List P}{t q:P},(wk B a t).2=true->(t::(wk B a t).1).getLast? = some q->nx B q d=some e->wk B (a++[d]) t=((wk B a t).1++[e],true)
 | [],t,q,_,l,n=>by cases (show some t=some q from l);rw[fD,iY n];rfl
 |x::r,t,q,hw,l,n=>by
  cases h:nx B t x with
  |none=>rw[mX h]at hw;cases hw
  |some s=>rw[iY h]at hw l;rw[mO,iY h,iY h,BS hw (by rw[<- l];simp) n];rfl
theorem CB{B:BD}(u:SA B){t:P}(Z:fV B t){n:Nat}(ι:Str->GF){F:P}(I:F=cQ B)(w:List Int):∀(S:List P),(∀k ∈ S,M6 12 k)->∀(a:List P),a.length+S.length≤90->(wk B a t).2=true->(∀d ∈ a,mE d)->∀T K b m:Option D,
  ∃(o:List P)(g j y H:Option D),o.length≤a.length+S.length/\(wk B o t).2=true/\(∀d ∈ o,mE d) /\
   bu (ak 6) (de (Y (n+18))) S [U (gG w),U F,J 34,J 12,qr 0,qr 1,T,K,b,m] [.lst ((t::(wk B a t).1).map .p),.lst (a.map .p)]=some (.nx,[U (gG w),U F,J 34,J 12,qr 0,qr 1,g,j,y,H],[.lst ((t::(wk B o t).1).map .p),.lst (o.map .p)])
 | [],_,a,_,G,N,T,K,b,m=>⟨a,T,K,b,m,by simp,G,N,rfl⟩
 |k::S,hk,a,h2,G,N,T,K,b,m=>by
  simp only[aQ]at h2;obtain⟨i,hi,rfl⟩:=hk k aH;obtain⟨q,v,A⟩:=atI_last (xs:=t::(wk B a t).1) (by simp);have l:fV B q:=by
   rcases aP.mp v with rfl|v
   .exact Z
   .exact E7 u a Z q v
  have W:=A;rw[HD]at W;have h:L2.atI ((t::(wk B a t).1).map D.p) (-1)=U q:=by rw[qV,A];rfl
  have X:=u l;have C:=X.ef n;rw[<- I]at C;have hw:=yR (B:=B) a t;have oy:dh 20 (.lst (AF B q))=true:=Pz λz M=>by obtain⟨d,s,rfl,hd,l⟩:=X.sh z M;show(List.all [d,s] (dh 18))=true;rw[eR,eR,dR hd.2 (by lia),dR l.ok (by lia)];rfl
  have E:=qT oy;generalize hys:AF B q=V at C E;generalize Q:t::(wk B a t).1=f at h W;by_cases R:V=[]
  .refine⟨a,J (i:Int),ql V,b,m,by lia,G,N,?_⟩;rw[Q];have e:de (Y (n+18)) [U (gG w),U F,J 34,J 12,qr 0,qr 1,J (i:Int),K,b,m] [.lst (f.map .p),.lst (a.map .p)]=some (.bk,[U (gG w),U F,J 34,J 12,qr 0,qr 1,J (i:Int),ql V,b,m],[.lst (f.map .p),.lst (a.map .p)]):=by
    rw[R]at C E ⊢;simp[de,h,C,E]
   simp[bu,e]
  .rw [ba R]at E;obtain⟨c,r,hr,e1,e2⟩:=i7 (n:=n+16) w (k:=34+(i:Int)) (p:=45) (by lia) (by lia) (by lia);obtain⟨z,M,ez⟩:=dI R r;rw[<- hys]at M;obtain⟨d,s,rfl,hd,_⟩:=X.sh z M;have hx:=MP u l M;have hl:=len_pos R;have L:=BS G (by rw[Q];exact W) hx;obtain⟨o,g,j,y,H,k2,k3,k4,e⟩:=CB u Z (n:=n) ι I w S (λx hx=>hk x (aI _ hx)) (a++[d]) (by simp;lia) (by rw[L]) (dU N hd) (J (i:Int)) (ql V) (U d) (U s);refine⟨o,g,j,y,H,by simp at k2 ⊢;lia,k3,k4,?_⟩;have hsl:f.length=a.length+1:=by rw[<- Q,aQ,hw.2 G]
   have f1:f.length≤1000000:=by lia
   have f2:a.length≤1000000:=by lia
   rw[L,<- mO,Q]at e;refine(cg (h:=[U (gG w),U F,J 34,J 12,qr 0,qr 1,J (i:Int),K,b,m]) rfl ?_).trans e;rw[<- dE,<- dE];simp[de,h,C,E,e1,e2,cV,dF,hl,ez,d9,f1,f2]
theorem P6(u:SA B)(r:fV B t)(b:Bg B t)(x:List Int) :
  ∃a:List P,a.length≤12/\(wk B a t).2=true/\(∀d ∈ a,mE d)/\dJ (Y (n+20) "_law_gone") [gG x,cQ B,.int 34,.int 12]=some (.tup [.lst (t::(wk B a t).1),.lst a]):=by
 have m:=b (n+15);obtain⟨a,y,z,o,H,f,v,w,e⟩:=CB u r (n:=n+1) (Y (n+18)) rfl x (intsFrom 0 12) (λk q=>by obtain⟨i,rfl,p⟩:=dn q;exact⟨i,p,by simp⟩) [] (by simp[bQ]) rfl (λ_ h=>(by cases h)) none none none none;rw[bQ]at f;refine⟨a,by simpa using f,v,w,?_⟩;generalize t::(wk B a t).1=s at e;have g:toP 9 (.ref 0) [.lst (s.map .p),.lst (a.map .p)]=some (.lst s,[.fz (.lst s),.lst (a.map .p)]):=gu rfl;have j:toP 9 (.ref 1) [.fz (.lst s),.lst (a.map .p)]=some (.lst a,[.fz (.lst s),.fz (.lst a)]):=gu rfl;rw[wy,aO];generalize cQ B=l at *
 have c:bu (ak 6) (de (Y (n+19))) (intsFrom 0 12) [U (gG x),U l,J 34,J 12,qr 0,qr 1,none,none,none,none] [.lst [.p t],.lst []]=_:=e;simp[nJ,m,c,g,j]
theorem Ku(h:mE d):∃(w:Str)(i:Int)(r:List P),d=.tup (.str w::.int i::r)/\mE (.tup (.str w::.int (i+1)::r))/\r.length≤3:=by
 obtain⟨h,o⟩:=h;rcases h with ⟨k,x,y,s,rfl,n,e⟩|⟨w,a,c,p,hw,rfl⟩
 .exact⟨_,k,_,rfl,⟨.inl ⟨k+1,x,y,s,rfl,n,e⟩,by simpa using o⟩,by simp⟩
 .exact⟨w,a,_,rfl,⟨.inr ⟨w,a+1,c,p,hw,rfl⟩,by simpa using o⟩,by simp⟩
variable{A:EV}{L:Lc}
theorem zO(h:A L S=some (.lst x,S))(b:C L S=some (.lst y,S))(f:x.length+y.length≤1000000):ai A C L S=some (.lst (x++y),S):=by unfold ai;rw[nY,h,aw,b,aw];simp[f]
theorem KP(h:A L S=some (x,S)):aR (v1 A) L S=some (.tup [x],S)/\bq (v1 A) L S=some (.lst [x],S):=by simp[h]
theorem Cj(h:A L S=some (x,S))(c:C L S=some (y,S))(a:g x y=some z):nY g A C L S=some (z,S):=by rw[nY,h,aw,c,aw,a];rfl
theorem B7{L:Lc}{S:aB}{a:List P}{lo h:EO}{i j:Option Int}(x:L[1]? = some (ql a))(e:lo L S=some (i,S))(s:h L S=some (j,S)):eF ce lo h L S=some (.lst (cut a i j),S):=by rw[eF];show bL (bL (match L[1]? with|some (some d)=>some (d,S)|_=>none) (toP 9)) _=_;rw[x];show bL (lo L S) _=_;rw[e,aw,s];rfl
theorem Kt{n:Nat}(r:Int){row:List P}(h0:row≠[])(hl:row.length≤12)(hr:∀d ∈ row,mE d):∃row',row'.length≤90/\(∀d ∈ row',mE d)/\dJ (Y (n+2) "_law_bent") [.int r,.lst row]=some (.lst row'):=by
 have hp:=len_pos h0;obtain⟨d1,m1,e1⟩:=dI h0 r;obtain⟨d2,m2,e2⟩:=dI h0 (r / 16);have cs:∀lo hi,(∀d ∈ cut row lo hi,mE d)/\(cut row lo hi).length≤12:=λlo hi=>⟨λd hd=>hr d (lB.1 d hd),aF lB.2 hl⟩;obtain⟨w,i,ds,rfl,hd3,hds⟩:=Ku (hr d1 m1);have c1:cut (P.str w::.int i::ds) none (some 1)=[.str w]:=(sP 1).trans rfl;have c2:cut (P.str w::.int i::ds) (some 2) none=ds:=(sQ 2).trans rfl;have fin:∀{xs ys zs:List P},(∀d ∈ xs,mE d)->(∀d ∈ ys,mE d)->(∀d ∈ zs,mE d)->∀d ∈ xs++ys++zs,mE d:=λhx hy hz d hd=>by
  rcases bP.mp hd with hd|hd
  .rcases bP.mp hd with hd|hd
   .exact hx d hd
   .exact hy d hd
  .exact hz d hd
 rw[wz,aO];have hm:(0:Int) < (row.length:Int):=by lia
 have m0:=dL r (z5 hm);generalize hat:r % (row.length:Int)=at' at e1;have q1:=cs none (some at');have q2:=cs (some (at'+1)) none;have q3:=cs (some at') (some (at'+1));have q4:=cs (some at') none;have f:∀{xs ys zs:List P},xs.length≤12->ys.length≤12->zs.length≤12->xs.length+ys.length≤1000000/\(xs++ys).length+zs.length≤1000000/\(xs++ys++zs).length≤90:=λh1 h2 h3=>by simp;lia
 show ∃row',_/\_/\(match kh _ [J r,ql row,none,none,none] [] with|some (.rt d,_,S)=>(toP 9 d S).map (λx=>x.fst)|some (.nx,_,_)=>some .non|_=>none)=some (P.lst row');unfold kh;rw[aA (e:=[J r,ql row,J at',none,none]) (b:=[]) (by simp[cV,dF,hp,hat])];rw[aA (e:=[J r,ql row,J at',U d2,none]) (b:=[]) (by simp[cV,dF,hp,e2])];rw[aA (e:=[J r,ql row,J at',U d2,J (r / 256 % 4)]) (b:=[]) (by simp)];generalize hL:([J r,ql row,J at',U d2,J (r / 256 % 4)]:Lc)=L;have l1:L[1]? = some (ql row):=by rw[<- hL];rfl
 have a1:eF ce di (cC cY) L []=some (.lst (cut row none (some at')),[]):=B7 l1 rfl (by rw[<- hL];rfl);have a2:eF ce (cC (ai cY cJ)) di L []=some (.lst (cut row (some (at'+1)) none),[]):=B7 l1 (by rw[<- hL];rfl) rfl;have a3:eF ce (cC cY) (cC (ai cY cJ)) L []=some (.lst (cut row (some at') (some (at'+1))),[]):=B7 l1 (by rw[<- hL];rfl) (by rw[<- hL];rfl);have a4:eF ce (cC cY) di L []=some (.lst (cut row (some at') none),[]):=B7 l1 (by rw[<- hL];rfl) rfl;have b1:bq (v1 eK) L []=some (.lst [d2],[]):=by rw[<- hL];simp
 have b2:(bq (v1 (ai (ai (eF (ac ce cY) di (cC cJ)) (aR (v1 (ai (ac (ac ce cY) cJ) cJ)))) (eF (ac ce cY) (cC eL) di)))) L []=some (.lst [.tup (.str w::.int (i+1)::ds)],[]):=by
  have g1:ac ce cY L []=some (.tup (.str w::.int i::ds),[]):=by rw[<- hL];simp[e1]
  have g2:eF (ac ce cY) di (cC cJ) L []=some (.tup [.str w],[]):=by rw[eF,g1];show lj (λv=>(v,([]:aB))) (zB (.tup (.str w::.int i::ds)) none (some 1))=_;rw[show zB (.tup (.str w::.int i::ds)) none (some 1)=some (P.tup (cut (P.str w::.int i::ds) none (some 1))) from rfl,c1];rfl
  have g3:eF (ac ce cY) (cC eL) di L []=some (.tup ds,[]):=by rw[eF,g1];show lj (λv=>(v,([]:aB))) (zB (.tup (.str w::.int i::ds)) (some 2) none)=_;rw[show zB (.tup (.str w::.int i::ds)) (some 2) none=some (P.tup (cut (P.str w::.int i::ds) (some 2) none)) from rfl,c2];rfl
  have g4:=(KP (Cj (g:=kX) (C:=vi 1) (Cj (g:=tR) (C:=vi 1) g1 rfl (z:=.int i) (Kv _ _ _)) rfl (z:=.int (i+1)) rfl)).1;have g5:kX (.tup [.str w]) (.tup [.int (i+1)])=some (.tup [.str w,.int (i+1)]):=rfl;have g6:kX (.tup [.str w,.int (i+1)]) (.tup ds)=some (.tup (.str w::.int (i+1)::ds)):=by show(if (true && hV (2+ds.length))=true then _ else none)=_;rw[am (by rw[uZ,lC];lia)];rfl
  exact(KP (Cj (Cj g2 g4 g5) g3 g6)).2
 have iy:∀{j:Int}{v:EV}{xs:List P}{g:ES},r / 256 % 4=j->v L []=some (.lst xs,[])->ag (dQ (aV lr (O (vi j))) (aS (O v)) eM) g L []=some (.rt (.p (.lst xs)),L,[]):=λ{j v xs g} hj hv=>by rw[ag,dQ,show aV lr (O (vi j)) L []=some (true,[]) by rw[<- hL];simp[hj],aw,am rfl,aS,O,hv];rfl
 have io:∀{j:Int}{f g:ES},¬r / 256 % 4=j->ag (dQ (aV lr (O (vi j))) f eM) g L []=g L []:=λ{j f g} hj=>by rw[ag,dQ,show aV lr (O (vi j)) L []=some (false,[]) by rw[<- hL];simp[hj],aw,au bt];rfl
 by_cases w0:r / 256 % 4=0
 .obtain⟨f1,f2,f3⟩:=f q1.2 (show[d2].length≤12 by simp) q2.2;refine⟨_,f3,fin q1.1 (λd hd=>by rw[dY.mp hd];exact hr d2 m2) q2.1,?_⟩;rw[iy w0 (zO (zO a1 b1 f1) a2 f2)];rfl
 rw[io w0];by_cases w1:r / 256 % 4=1
 .obtain⟨f1,_,f3⟩:=f q1.2 q2.2 (show([]:List P).length≤12 by simp);rw[dB]at f3;refine⟨_,f3,λd hd=>fin q1.1 q2.1 (zs:=[]) (λ_ h=>by cases h) d (by rw[dB];exact hd),?_⟩;rw[iy w1 (zO a1 a2 f1)];rfl
 rw[io w1];by_cases w2:r / 256 % 4=2
 .obtain⟨f1,f2,f3⟩:=f q1.2 q3.2 q4.2;refine⟨_,f3,fin q1.1 q3.1 q4.1,?_⟩;rw[iy w2 (zO (zO a1 a3 f1) a4 f2)];rfl
 rw[io w2];obtain⟨f1,f2,f3⟩:=f q1.2 (show[P.tup (.str w::.int (i+1)::ds)].length≤12 by simp) q2.2;refine⟨_,f3,fin q1.1 (λd hd=>by rw[dY.mp hd];exact hd3) q2.1,?_⟩;rw[aS,O,zO (zO a1 b2 f1) a2 f2];rfl
set_option tactic.hygienic true in
theorem C0.sh(h:C0 B a t i S):C0 B a t (i+S0.length) (S0++S.map (KQ S0.length)):=by
 have k:∀{j:Nat}{o:SO},S[j]? = some o->(S0++S.map (KQ S0.length))[j+S0.length]? = some (KQ S0.length o):=λ{j o} e=>by rw[cB (by lia),qA,dC,e];rfl
 unfold C0 at h ⊢;split at h
 .rename_i hw;rw[am hw];obtain⟨j,x,s⟩:=h;refine⟨j+S0.length,(k x).trans rfl,(k s).trans ?_⟩;show some (SO.lst (((t::(wk B a t).1).map D.p).map (HK S0.length)))=_;rw[mL];rfl
 .rename_i hw;rw[au hw];exact(k h).trans rfl
set_option tactic.hygienic true in
theorem C0.snap(h:C0 B a t i S):snap S 9 (.ref i)=some (iL B a t):=by
 unfold C0 at h;unfold iL;split at h
 .rename_i hw;rw[am hw];obtain⟨j,e,x⟩:=h;have s:Ev.snap S 8 (.ref j)=some (.lst (t::(wk B a t).1)):=by
   simp only[Ev.snap,x];rw[Cp];rfl
  show Ev.snap S (8+1) (.ref i)=_;rw[Ev.snap,e];simp only[kN,s,rN];rfl
 .rename_i hw;rw[au hw];simp[Ev.snap,h,kN]
set_option tactic.hygienic true in
theorem C0.pure(h:C0 B a t i S):∃x,toP 9 (.ref i) S=some (iL B a t,x):=by
 unfold C0 at h;unfold iL;split at h
 .rename_i hw;rw[am hw];obtain⟨j,e,s⟩:=h;have n:toP 8 (.ref j) S=some (.lst (t::(wk B a t).1),S.set j (.fz (.lst (t::(wk B a t).1)))):=gu s;refine⟨(S.set j (.fz (.lst (t::(wk B a t).1)))).set i (.fz (.tup [.str "told",.lst (t::(wk B a t).1)])),?_⟩;show toP (8+1) (.ref i) S=_;rw[toP,e];simp only[pA,KO];rw[aw,n];rfl
 .rename_i hw;rw[au hw];exact⟨_,by simp[toP,h,pA];rfl⟩
theorem FC(h:∀d ∈ a,mE d):dh 20 (.lst a)=true:=Pz λd hd=>dR (h d hd).2 (by lia)
theorem PK{B:BD}(C:B=zb B.fams B.roads B.wishes)(E:BP B)(u:SA B){t:P}(c:fV B t)(g:Bg B t){n:Nat}(X:Str->GF){a:List P}(r:∀d ∈ a,mE d)(w:a.length≤90)(e s k b q y:Option D)(S:aB) :
  ∃m z,kj (Y (n+22)) [e,U (cQ B),s,k,b,q,ql a,ql a,U (iL B a t),y] S=some (.nx,[e,U (cQ B),s,k,b,q,ql a,ql a,U (iL B a t),m],z):=by
 obtain⟨i,o,H,T⟩:=B3 C E u c g (n:=n) r w;have F:=Hg u c g (n:=n+2) r w;have T:=T.sh (S0:=S);have l:=T.snap;have M:=xG (Ga u (a:=a) c);have N:=xG (FC r);generalize cQ B=p at *
 generalize I:i+S.length=x at T l;generalize G:S++o.map (KQ S.length)=h at T l;have Q:(ar 9 (wB (Y (n+22) "_law_told") (v2 ce lF))) [e,U p,s,k,b,q,ql a,ql a,U (iL B a t),y] S=some (.nx,[e,U p,s,k,b,q,ql a,ql a,U (iL B a t),qr x],h):=by simp[H,HK,I,G]
 have K:G4 (.ref x) (.p (iL B a t)) h=some (.bl false):=by unfold G4;rw[l,jP,rN,jP,M];rfl
 have A:G4 (.p (.lst a)) (.p (.lst a)) h=some (.bl false):=by rw[P8,N];rfl
 unfold kj;rw[aA Q];rw[aA (e:=[e,U p,s,k,b,q,ql a,ql a,U (iL B a t),qr x]) (b:=h) (by rw[dQ,CV];unfold fq;rw[bV,fy];show bL (bL (bL ((G4 (.ref x) (.p (iL B a t)) h).map λv=>(v,h)) _) _) _=_;rw[K];show bL (fq vO (aN 6) [e,U p,s,k,b,q,ql a,ql a,U (iL B a t),qr x] h) _=_;unfold fq;rw[bV,fy];show bL (bL ((G4 (.p (.lst a)) (.p (.lst a)) h).map λv=>(v,h)) _) _=_;rw[A];rfl)]
 unfold C0 at T;split at T
 .obtain⟨j,V,W⟩:=T;have f:(t::(wk B a t).1).length≤1000000:=by
   have:=(yR (B:=B) a t).1;rw[aQ];lia
  refine⟨qr x,h.set j (.lst ((t::(wk B a t).1).map .p++[.p .non])),?_⟩;generalize t::(wk B a t).1=R at *
  simp[V,W,d9,f,F]
 .refine⟨qr x,h,?_⟩;have L:¬("refused":Str)="told":=by decide +kernel
  simp[T,L]
theorem PJ(F:B=zb B.fams B.roads B.wishes)(P:BP B)(u:SA B)(y:fV B t)(p:Bg B t)(C:Str->GF)(o:∀d ∈ a,mE d)(z:a.length≤90)(f c m r w K A x:Option D)(S:aB) :
  ∃h j l q s,ki (Y (n+22)) [f,U (cQ B),c,m,r,w,ql a,K,A,x] S=some (.nx,[f,U (cQ B),c,m,r,h,ql a,j,l,q],s):=by
 have H:=Hg u y p (n:=n+2) o z;obtain⟨E,s,e,h,q,rfl⟩:=cD (g:=ak 5) (b:=kj (Y (n+22))) (Inv:=λ_ L _=>∃w x,L=[f,U (cQ B),c,m,r,w,ql a,ql a,U (iL B a t),x]) (xs:=intsFrom 0 2) (k:=0) (L:=[f,U (cQ B),c,m,r,w,ql a,ql a,U (iL B a t),x]) (S:=S) (λi v L S G I=>by obtain⟨w,x,rfl⟩:=I;obtain⟨q,s,e⟩:=PK F P u y p (n:=n) C o z f c m r (U v) x S;exact⟨_,_,s,rfl,e,_,_,rfl⟩) ⟨_,_,rfl⟩
 generalize cQ B=M at *
 refine⟨h,ql a,U (iL B a t),q,s,?_⟩;unfold ki;rw[aA (by simp[kY];exact⟨rfl,rfl⟩)];rw[aA (by simp[H];exact⟨rfl,rfl⟩)];exact e
theorem HB{B:BD}(P:BP B):fV B (.tup [.tup ((bM B.fams).map i5),.tup (List.replicate B.PR.length (.tup []))]):=by refine⟨_,_,rfl,by simp,λk f x n b=>?_,by simp,λr q=>⟨[],⟨by simp,λ_ h=>(by cases h)⟩,(qo.mp q).2⟩⟩;rw[dC,n]at b;cases b;obtain⟨v,a,m,e,o,s,F,rfl⟩:=nj P.hf (a9 n);refine⟨v,a,m,e,o,s,rfl,0,e.map sv,List.replicate o.length (.int (-1)),rfl,len_pos F.r0,⟨by simp,λc p=>?_⟩,by simp,λw hw=>⟨_,(qo.mp hw).2⟩⟩;obtain⟨d,hd,rfl⟩:=bj.mp p;obtain⟨x,lo,l,t,_,u,g,i,j,rfl⟩:=F.hce.1 d hd;exact⟨t,by lia,rfl⟩
def xO(r:P):Prop:=∃a,r=.lst a/\(∀d ∈ a,mE d)/\a.length≤90
theorem PL{n:Nat}(Z:Str->GF)(h:List Int){a:List P}(C:a≠[])(M:a.length≤12)(N:∀d ∈ a,mE d)(x f m t w u:Option D){l:List P}(H:∀r ∈ l,xO r)(Q:l.length≤10) :
  ∃(y:List P)(q:Option D),(∀r ∈ y,xO r)/\bu (ak 5) (iH (Y (n+2))) (intsFrom 0 2) [U (gG h),x,f,ql a,qr 0,none,m,t,w,u] [.lst (l.map .p)]=some (.nx,[U (gG h),x,f,ql a,qr 0,q,m,t,w,u],[.lst (y.map .p)]):=by
 obtain⟨V,W,e,s,q,E,z,rfl,rfl⟩:=cD (g:=ak 5) (b:=iH (Y (n+2))) (Inv:=λi L S=>∃(s:List P)(q:Option D),s.length≤10+i/\(∀r ∈ s,xO r)/\L=[U (gG h),x,f,ql a,qr 0,q,m,t,w,u]/\S=[.lst (s.map .p)]) (xs:=intsFrom 0 2) (k:=0) (L:=[U (gG h),x,f,ql a,qr 0,none,m,t,w,u]) (S:=[.lst (l.map .p)]) (λi v L S F I=>by have G:=bR F;rw[bQ]at G;obtain⟨j,rfl,X⟩:=dn (a9 F);obtain⟨s,q,E,z,rfl,rfl⟩:=I;simp only[df];obtain⟨c,r,_,K,A⟩:=i7 (n:=n) h (k:=50+(j:Int)) (p:=46) (by lia) (by lia) (by lia);obtain⟨o,R,T,B⟩:=Kt (n:=n) r C M N;refine⟨[U (gG h),x,f,ql a,qr 0,J (j:Int),m,t,w,u],[U (gG h),x,f,ql a,qr 0,J (j:Int),m,t,w,u],[SO.lst ((s++[P.lst o]).map D.p)],rfl,?_,s++[.lst o],_,by simp;lia,dU z ⟨o,rfl,T,R⟩,rfl,rfl⟩;unfold iH;exact lD (k:=0) (e:=[.lst (s.map .p)]) rfl rfl (by simp[K,A,B]) rfl (by lia)) ⟨l,none,by lia,H,rfl,rfl⟩
 exact⟨s,q,z,e⟩
theorem MV{n:Nat}(f:List Int):dJ (Y (n+30) "law") [gG f]=some (.bl true):=by
 obtain⟨y,o,w,H,N⟩:=JA (n:=n+23) f;generalize p:zb y o w=B;have V:B.fams=y:=by rw[<- p];rfl
 have j:B.roads=o:=by rw[<- p];rfl
 have hw:B.wishes=w:=by rw[<- p];rfl
 have A:B=zb B.fams B.roads B.wishes:=by rw[V,j,hw,p]
 rw[<- V,<- j,<- hw]at H N;clear p V j hw;have hL:Places B:=by rw[A];exact Dy _ _ _
 have u:∀{q:P},fV B q->SE B q (AF B q):=λh=>Qu A H hL h;have c:∀m,dJ (Y (m+4) "begin") [cQ B]=some (.tup [.tup ((bM B.fams).map i5),.tup (List.replicate B.PR.length (.tup []))]):=λm=>HC (n:=m) H;have F:=HB H;generalize P.tup [.tup ((bM B.fams).map i5),.tup (List.replicate B.PR.length (.tup []))]=t at c F;obtain⟨a,W,hw,j,eg⟩:=P6 u F c (n:=n+9) f;have Q:dJ (Y (n+29) "_law_plan") [gG f,.int 3]=some (cQ B):=N;have l3:=λ{a:List P}(j:∀d ∈ a,mE d)(W:a.length≤90)=>PJ A H u F c (n:=n+7) (Y (n+28)) j W;have R:dJ (Y (n+29) "_law_told") [cQ B,.lst a]=some (iL B a t):=by obtain⟨i,S,e1,hT⟩:=B3 A H u F c (n:=n+7) j (by lia);obtain⟨I,e2⟩:=hT.pure;unfold dJ;rw[show Y (n+29) "_law_told" ([cQ B,P.lst a].map .p) []=some (.ref i,S) from e1];show(toP 9 (.ref i) S).map (λx=>x.1)=_;rw[e2];rfl
 have M:=Hc (Ga u (a:=a) F);have nn:=lz (FC j);unfold iL at R M;rw[am hw]at R M;generalize t::(wk B a t).1=s at *
 clear c F u hL H A N hw;generalize cQ B=K at *
 obtain⟨z,l,X,e5⟩:∃(z:List P)(l:Option D),(∀r ∈ z,xO r)/\(dQ (fq il (O (bq bf))) (bW (iM eL) (ak 5) (iH (Y (n+29)))) eM) [U (gG f),U K,ql s,ql a,qr 0,none,none,none,none,none] [.lst [.p (.lst a),.p (.lst [])]]=some (.nx,[U (gG f),U K,ql s,ql a,qr 0,l,none,none,none,none],[.lst (z.map .p)]):=by
  have h2:∀r ∈ [P.lst a,.lst []],xO r:=λr h=>by
   rcases aP.mp h with rfl|h
   .exact⟨a,rfl,j,by lia⟩
   .rw [dY.mp h];exact⟨[],rfl,λ_ h=>(by cases h),by simp⟩
  by_cases T:a=[]
  .subst T;exact⟨_,none,h2,by simp[nn]⟩
  .obtain⟨z,l,Z,e⟩:=PL (n:=n+27) (Y (n+28)) f T W j (U K) (ql s) none none none none h2 (by simp);refine⟨z,l,Z,?_⟩;rw[ba T]at nn;rw[dQ,show fq il (O (bq bf)) [U (gG f),U K,ql s,ql a,qr 0,none,none,none,none,none] [.lst [.p (.lst a),.p (.lst [])]]=some (true,[.lst [.p (.lst a),.p (.lst [])]]) by simp[nn],aw,am rfl];exact e
 obtain⟨L',I,e6,q5',q6,C,E,G,rfl⟩:=cD (g:=ak 6) (b:=ki (Y (n+29))) (Inv:=λ_ L _=>∃l q6 C E G,L=[U (gG f),U K,ql s,ql a,qr 0,l,q6,C,E,G]) (xs:=z) (k:=0) (L:=[U (gG f),U K,ql s,ql a,qr 0,l,none,none,none,none]) (S:=[.fz (.lst z)]) (λi v L S hv hI=>by obtain⟨l,q6,C,E,G,rfl⟩:=hI;obtain⟨r,rfl,Z,k2⟩:=X v (a9 hv);obtain⟨q5',q7',q8',q9',I,e⟩:=l3 Z k2 (U (gG f)) (ql s) (ql a) (qr 0) l C E G S;exact⟨_,_,I,rfl,e,_,_,_,_,_,rfl⟩) ⟨_,_,_,_,_,rfl⟩
 rw[Kj,aO];show(match wZ _ [U (gG f),none,none,none,none,none,none,none,none,none] [] with|some (.rt d,_,S)=>(toP 9 d S).map (λx=>x.fst)|some (.nx,_,_)=>some .non|_=>none)=some (P.bl true);unfold wZ;rw[aA (by simp[Q];exact⟨rfl,rfl⟩)];rw[aA (by simp[eg];exact⟨rfl,rfl⟩)];rw[aA (by simp;exact⟨rfl,rfl⟩)];rw[aA e5];rw[aA (by rw[bW,jf];show bL (bL (toP 9 (.ref 0) [.lst (z.map .p)]) _) _=_;rw[rH];exact e6)]
 simp[R,M]
theorem Gw{K:FG}{H:Hp}{a:Addr}{s:List Int}(l:s.length≤63)(h:D8 H)(S:iO K H a (s.map V.int)):qL K (Lh Gv Att pK Rs Tb 200 "law") [.ref a] H (λv _=>v=.bl true) (λ_ _ _=>False):=by have e:=MV (n:=170) s;unfold Y at e;exact MW h S e
end My
set_option tactic.hygienic true
namespace PySem.W.Fast
def tw2649720054912436990:Unit:=()
def tw9308645709551830401:Unit:=()
def tw16609995449903150467:Unit:=()
def tw18217196640096684725:Unit:=()
def tw5705817477595877784:Unit:=()
def tw13932099519274344790:Unit:=()
def tw12841339923414948302:Unit:=()
def tw9376021066396889612:Unit:=()
def tw9870545260357576364:Unit:=()
def tw4173782923567478217:Unit:=()
def tw2350947251489883311:Unit:=()
def tw5932458084242070233:Unit:=()
def tw11890305755837825350:Unit:=()
def tw12412961170363512719:Unit:=()
def tw9941186413044857103:Unit:=()
def tw5527102982535530206:Unit:=()
def tw18086895032483489621:Unit:=()
def tw18099366633542067713:Unit:=()
def tw4939782227124205835:Unit:=()
def tw13853617389746359129:Unit:=()
def tw97868729618205421:Unit:=()
def tw16976415250283779583:Unit:=()
def tw6361534249548631460:Unit:=()
def tw15852473373868115919:Unit:=()
def tw9579537525440978227:Unit:=()
def tw237281550043121216:Unit:=()
def tw1023367806033639085:Unit:=()
def tw6349101478113412764:Unit:=()
def tw10494164164927542846:Unit:=()
def tw1572817808631801136:Unit:=()
def tw1769673687939451299:Unit:=()
def tw649469753170294289:Unit:=()
def tw11272483801340691697:Unit:=()
def tw7384748959839956625:Unit:=()
def tw5546472889219301153:Unit:=()
def tw8400676741445612791:Unit:=()
def tw6510068749748579010:Unit:=()
def tw17840896401841223980:Unit:=()
def tw2133050143929125733:Unit:=()
def tw5486883953884521253:Unit:=()
def tw2534027200979683817:Unit:=()
def tw11694744449387257840:Unit:=()
def tw9256672418867903757:Unit:=()
def tw5870382208037085110:Unit:=()
def tw11796926773335903320:Unit:=()
def tw6608785749390600703:Unit:=()
def tw6851940378958838905:Unit:=()
def tw11350363770511674901:Unit:=()
def tw10346601085495143587:Unit:=()
def tw21648323596191914:Unit:=()
def tw8692891029421285301:Unit:=()
def tw16258959440747929937:Unit:=()
def tw6664860894966496448:Unit:=()
def tw18061844536327794173:Unit:=()
def tw642900036764087392:Unit:=()
def tw13201299882878822539:Unit:=()
def tw18351297724874259935:Unit:=()
def tw1528253798390748612:Unit:=()
def tw1771802322932244115:Unit:=()
def tw6530746026913734186:Unit:=()
def tw9337295477362761801:Unit:=()
def tw8459946410739163068:Unit:=()
def tw48023147525098958:Unit:=()
def tw6709070118453974667:Unit:=()
def tw17715190439944462518:Unit:=()
def tw2286124538761908582:Unit:=()
def tw8481146003870341445:Unit:=()
def tw10195608644272606732:Unit:=()
def tw15243412958960994437:Unit:=()
def tw11716001202040921409:Unit:=()
def tw16015763552576746153:Unit:=()
def tw11476589734089149464:Unit:=()
def tw2431732782103707775:Unit:=()
def tw17700575925414093249:Unit:=()
def tw4740847074481494182:Unit:=()
def tw17139134739076198410:Unit:=()
def tw2928935113075831057:Unit:=()
def tw9537439963882836672:Unit:=()
def tw6415531759401008019:Unit:=()
def tw12760923659889455598:Unit:=()
def tw949381703733957774:Unit:=()
def tw3544596254816347570:Unit:=()
def tw16550187954933330307:Unit:=()
def tw14418525189287402201:Unit:=()
def tw17950029837810058934:Unit:=()
def tw10396745390225854562:Unit:=()
def tw15357338100643366271:Unit:=()
def tw11928783403374781675:Unit:=()
def tw6092792054277033403:Unit:=()
def tw12734419546069258260:Unit:=()
def tw14073667303803042085:Unit:=()
def tw2545075194483184766:Unit:=()
def tw18231300511324784607:Unit:=()
def tw14792070804495935397:Unit:=()
def tw3368947815273223607:Unit:=()
def tw7033553375402721089:Unit:=()
def tw6444974894467925523:Unit:=()
def tw7191308121547869859:Unit:=()
def tw12732070026495915773:Unit:=()
def tw7019964570170355394:Unit:=()
def tw2150168765648978469:Unit:=()
def tw2297795440937630318:Unit:=()
def tw4957797403482087895:Unit:=()
def tw16438606598896033017:Unit:=()
def tw9493074415102107520:Unit:=()
def tw1330687086634132763:Unit:=()
def tw4762433697278284360:Unit:=()
def tw17604673434672284282:Unit:=()
def tw15031156664716115392:Unit:=()
def tw16747973788114422163:Unit:=()
def tw9795962226384928942:Unit:=()
def tw10932488491075363578:Unit:=()
def tw3952359994501273192:Unit:=()
def tw13859743516768671369:Unit:=()
def tw622703937143009082:Unit:=()
def tw3002127484238484306:Unit:=()
def tw5198902148312968313:Unit:=()
def tw14015654346688211349:Unit:=()
def tw11119372051978700075:Unit:=()
def tw12383587544903936910:Unit:=()
def tw11162005279867189084:Unit:=()
def tw1215291348317710438:Unit:=()
def tw10204154611858842259:Unit:=()
def tw6207456291931702916:Unit:=()
def tw10728123061351136297:Unit:=()
def tw8329049924688277171:Unit:=()
def tw3056177327936034088:Unit:=()
def tw3206926389066396960:Unit:=()
def tw5094709386241316378:Unit:=()
def tw10160874018039653821:Unit:=()
def tw2389420864260691813:Unit:=()
def tw10946033176481166562:Unit:=()
def tw4016550296839577390:Unit:=()
def tw777389431115509698:Unit:=()
def tw12772220293455607057:Unit:=()
def tw6305222065596244983:Unit:=()
def tw12123705585761970427:Unit:=()
def tw15472374256503455027:Unit:=()
def tw3141175894438426410:Unit:=()
def tw5229895772627966845:Unit:=()
def tw1810703864692708710:Unit:=()
def tw2682627583984208824:Unit:=()
def tw10667709242062581115:Unit:=()
def tw17495813829100718245:Unit:=()
def tw11815202605246656722:Unit:=()
def tw2878013253152674483:Unit:=()
def tw10950792490272331421:Unit:=()
def tw6287359728362221030:Unit:=()
def tw7895134646501287594:Unit:=()
def tw2572561109088066663:Unit:=()
def tw1138734947173358199:Unit:=()
def tw18336951118229216739:Unit:=()
def tw3343841318019513180:Unit:=()
def tw10969904772846218383:Unit:=()
def tw15715440651786566162:Unit:=()
def tw3436905374946276693:Unit:=()
def tw12070174866559141675:Unit:=()
def tw8310731424096086611:Unit:=()
def tw5477707276132298497:Unit:=()
def tw5384695456568605793:Unit:=()
def tw1753739312915360557:Unit:=()
def tw14181412649990776127:Unit:=()
def tw5252452718928969004:Unit:=()
def tw13752885470914923789:Unit:=()
def tw11381575151449086760:Unit:=()
def tw14291421291908683293:Unit:=()
def tw8162758954891223875:Unit:=()
def tw1356596183925956240:Unit:=()
def tw14497870571555051759:Unit:=()
def tw17467102940905839780:Unit:=()
def tw8720305207433925811:Unit:=()
def tw15289683311218942138:Unit:=()
def tw8556265069099803203:Unit:=()
def tw5128595124637416960:Unit:=()
def tw12918183135597309915:Unit:=()
def tw9811330067898531392:Unit:=()
def tw7408160016027938232:Unit:=()
def tw3636519887533855789:Unit:=()
def tw7951492282388434584:Unit:=()
def tw17113064882896638022:Unit:=()
def tw17827547155427975389:Unit:=()
def tw8329856174200261620:Unit:=()
def tw17287436808113148498:Unit:=()
def tw1646079949363434284:Unit:=()
def tw14322973535136462195:Unit:=()
def tw5120326906440628338:Unit:=()
def tw1511987472222239698:Unit:=()
def tw13627251098593946746:Unit:=()
def tw13945453133779255776:Unit:=()
def tw2585398430543868286:Unit:=()
def tw15877072523766924172:Unit:=()
def tw13031942525116142463:Unit:=()
def tw18158699253883666831:Unit:=()
def tw11152948099314421028:Unit:=()
def tw15365145069664343134:Unit:=()
def tw4505074980141205822:Unit:=()
def tw8433218251777038925:Unit:=()
def tw7033063654333306440:Unit:=()
def tw8343246445058936447:Unit:=()
def tw1922948183725168767:Unit:=()
def tw1959709590888218649:Unit:=()
def tw11828847886567204286:Unit:=()
def tw16583202784310473235:Unit:=()
def tw2032147305223225718:Unit:=()
def tw11589644855324912159:Unit:=()
def tw3791829497664290613:Unit:=()
def tw1611237905243996133:Unit:=()
def tw10563885755825231507:Unit:=()
def tw6554368707196888691:Unit:=()
def tw170538965956298853:Unit:=()
def tw7021260747282125568:Unit:=()
def tw11104833080025014686:Unit:=()
def tw6617416124057619027:Unit:=()
def tw15529191337886060443:Unit:=()
def tw3992096603195082273:Unit:=()
def tw8143305066939790751:Unit:=()
def tw14535312250057595250:Unit:=()
def tw9626807379576510556:Unit:=()
def tw10830319172385730433:Unit:=()
def tw576757341057489793:Unit:=()
def tw5444811333419056043:Unit:=()
def tw17435731029566740363:Unit:=()
def tw9355103717300786545:Unit:=()
def tw1469945978625519339:Unit:=()
def tw8331233775422843426:Unit:=()
def tw11439263130145397208:Unit:=()
def tw14376555950844161292:Unit:=()
def tw2622853320413019291:Unit:=()
def tw8867085403276034602:Unit:=()
end PySem.W.Fast
open PySem PySem.W PyProof.Rows
set_option maxRecDepth 100000 in
set_option maxHeartbeats 0 in
theorem PySem.Challenge.cw_roadsall_k30_runs_walked_holds : PySem.Challenge.rw_roadsall_k30_runs_walked.Holds := by
 w_on;o_law;k_head;(case hw=>w_witness2)
 k_fill
 refine L2.E8 (l:=PySem.Challenge.rw_roadsall_k30_runs_walked) (n:=63) (k:=200) (x:="_law_script") (CX:=L2.pL) (sp:=fun K=>Ev.qL K (Ev.Lh My.Gv My.Att My.pK My.Rs My.Tb 200 "law")) rfl (by decide) rfl ⟨rfl,by decide,by decide⟩ (fun w h Y=>PySem.W.kIn_of Y) ?F ?S ?C
 case F=>
  intro w mg fa h KX G hmg
  have T:Ev.TOk w My.Gv My.Att My.pK My.Rs My.Tb (L2.TD KX) mg:=by
   dsimp only [L2.TD]
   refine' My.NE KX G ?ca0 ?cb0 ?cc0 ?cd0' ?ce0 ?cf0 ?cg0 ?na0_0 ?na0_1 ?na0_2 ?na0_3 ?na0_4 ?h0 ?h1 ?h2 ?h3 ?h4 ?h5 ?h6 ?h7 ?h8 ?h9 ?h10 ?h11 ?h12 ?h13 ?h14 ?h15 ?h16 ?h17 ?h18 ?h19 ?h21 ?h22 ?h23 ?h24 ?h26 ?h27 ?h28 ?h29 ?h30 ?h31 ?h32 ?h33 ?h34 ?h36 ?h37 ?h38 ?h39 ?h40 ?h41 ?h42 ?h43 ?h44 ?h45 ?a20 ?w20 ?l20 ?c20 ?k20 ?a25 ?w25 ?l25 ?c25 ?k25 ?a35 ?w35 ?l35 ?c35 ?k35 ?gv0 ?gv1 ?z (My.Nc KX G ?ea0 ?en0 ?ea1 ?en1 ?ea2 ?en2 ?ea3 ?en3 ?ea4 ?en4 ?ev ?env ?xg2 ?xh2 ?gD ?xc2 ?xb2 ?sY ?xo2 ?eL ?xs2 ?cY ?xr2 ?xk2_0 ?xm2_0 ?xk2_1 ?xk2_2 ?xm2_2 ?xk2_3 ?xk2_4 ?xg3 ?xh3 ?il ?xc3 ?xb3 ?BQ ?xo3 ?hZ ?xs3 ?eK ?xr3 ?xk3_0 ?xm3_0 ?xk3_1 ?xk3_2 ?xk3_3 ?xm3_3 ?xk3_4)
   case ea0|en0|ea1|en1|ea2|en2|ea3|en3|ea4|en4|ev|env|xg2|xh2|gD|xc2|xb2|sY|xo2|eL|xs2|cY|xk2_0|xm2_0|xk2_1|xk2_2|xm2_2|xk2_3|xk2_4|xg3|xh3|il|xc3|xb3|BQ|xo3|hZ|xs3|eK|xk3_0|xm3_0|xk3_1|xk3_2|xk3_3|xm3_3|xk3_4=>first|k_is|rfl|kernel_rfl
   case xr2=>exact⟨_,_,_,by k_is,⟨_,_,_,_,_,_,_,_,_,_,_,_,_,_,by rfl⟩,by first|k_is|kernel_rfl,by first|k_is|kernel_rfl,by k_is⟩
   case xr3=>exact My.J3 ⟨⟨_,by k_is,by first|rfl|kernel_rfl,by first|rfl|kernel_rfl⟩,by k_is,by k_is⟩ ⟨_,_,_,_,_,_,_,_,_,_,_,_,by k_is,⟨_,_,_,_,_,_,_,_,_,_,_,_,_,_,by rfl⟩,by first|k_is|kernel_rfl,by first|k_is|kernel_rfl,by k_is,by k_is,by k_is,by k_is⟩
   case ca0|cb0|cc0|cd0'|ce0|cf0|cg0|na0_0|na0_1|na0_2|na0_3|na0_4=>k_is
   case h0|h1|h2|h3|h4|h5|h6|h7|h8|h9|h10|h11|h12|h13|h14|h15|h16|h17|h18|h19|h21|h22|h23|h24|h26|h27|h28|h29|h30|h31|h32|h33|h34|h36|h37|h38|h39|h40|h41|h42|h43|h44|h45=>exact⟨_,_,_,_,_,_,_,_,_,_,by k_is,by k_is,by k_is,by k_is⟩
   case a20|w20|l20|c20|k20|a25|w25|l25|c25|k25|a35|w35|l35|c35|k35=>k_is
   case gv0 | gv1=>exact⟨_,by k_is⟩
   case z=>
    intro x hx
    simp only [Ev.Ks,List.mem_cons,List.not_mem_nil,or_false] at hx
    rcases hx with rfl|rfl|rfl|rfl|rfl|rfl|rfl|rfl|rfl|rfl|rfl|rfl|rfl|rfl|rfl|rfl|rfl|rfl|rfl <;> k_is
  obtain⟨f,fd,h1⟩:=T.fn My.wP (by simp [My.Tb])
  have e0:=hmg.symm.trans (h1.gl (by decide +kernel))
  cases e0
  refine⟨fd,?_,fun base kb nb=>((Ev.CJ T 200).1 My.wP (by simp [My.Tb]) _ fd h1.fn).1⟩
  obtain⟨oc,od,kV,doc,pm,an,cdv,ct,osl,rfl,lk,hcd⟩:=h1.fn.ex
  exact fun s v=>.of_eq rfl
 case S=>exact fun w H a ns hl hO hS=>My.Gw hl hO hS
 case C=>exact fun _ _ _ _ z=>z
