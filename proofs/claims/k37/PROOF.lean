import PyProof.Rows.All
import Wide.All
import OpenK.AllK
import Wide.FinOn
import Lean
import PyProof.EqAt
import PyProof.EqKinds
import PyProof.TupleCall
import PySem.Challenge.RW_roadsall_k37_least_ones
set_option Elab.async false
set_option linter.all false
set_option maxRecDepth 100000
set_option maxHeartbeats 4000000
noncomputable section
abbrev VP:=PySem.Value->PySem.Shared->Prop
abbrev PN:=List (PySem.Addr×PySem.Obj)
abbrev SV:=PySem.Str->Option PySem.Value
abbrev Aa:=PySem.Addr->Prop
abbrev LS:=List PySem.Str
abbrev LV:=List PySem.Value
abbrev Ab:=List PySem.Expr
abbrev OV:=Option PySem.Value
abbrev FG:=PySem.W.Frag
abbrev bu:=@of_decide_eq_true
abbrev ai:=@if_pos
abbrev al:=@if_neg
abbrev cw:=@decide_eq_false
abbrev jy:=@decide_eq_true
abbrev d8:=@congrArg
abbrev eX:=@or_false
abbrev oW:=@beq_eq_false_iff_ne
abbrev g7:=@if_false
abbrev qE:=@decide_eq_true_eq
abbrev eL:=@if_true
abbrev jB:=@and_true
abbrev i4:=@not_or
abbrev o_:=@beq_iff_eq
open PySem renaming wpAny_bind->ab,wpAny_pure->ah,wpAny_mono->cy,wpAny_field->dw,wpAny_holding->eK,wpAny_truthy_bool->i3,wpAny_seqItems->gM,wpAny_Call_Name_kw->jA,wpAny_loadPart'->iW,wpAny_newObj_type->kH,wpAny_callSpecial?_slot->o9,call_meets->gL,codeAny_builtin->kG,mem_of_lookup->o8,wpAny_call_entry->mn,plainId_quiet->kF,wpAny_setField_rec->o7,tupleKind_room_in1->o6,sizeLine_eq->jz,wpAny_passesOwn->o5,wpAny_tryCatch->o4,wpAny_pyIter_tuple->rZ,wpAny_pyIter_list->rX,wpAny_pyIter_enum->rO,wpAny_letGo->mm,wpAny_typeOf->o3,wpAny_nextOf_list_item->wb,call_meetsIn->o0,wpAny_rule->oZ,wpAny_Name->oY,typeIs_int->oX,wpAny_Call_method->wa,codeAny_mono->rJ,wpAny_pyIter_zip->v_,noFill_tuple_add->v9,seqIndex_of->rH,wpAny_updateSeq->v7,wpAny_execs_nil->v5,Within->v0,wpAny_newTuple->vZ,wpAny_letOwnedTupleGo_enum->BU,wpAny_binaryOp_repeat_ref->BS,wpAny_standAt->vY,wpAny_onRaise->vX,wpAny_newList->vW,seq_tuple_add->vV,wpAny_Call_method_late->BR,seqSlot_of->BQ,seqIndex_neg->vU,concat_meets->vT,wpAny_nextOf_list_end->BO,builtinLookup_eq_fast->BN,wpAny_updateSeq_pair->BM,wpAny_newFunctionEnv->BL,wpAny_loadName_local->BK,wpAny_loadName_free->BJ,wpAny_call->vS,wpAny_sequenceKey->BI,wpAny_assign_Name->BG,slot_list_getitem->BF,slot_dict_getitem->BE,wpAny_forIn_list->BC,wpAny_execs_cons->BB,wpAny_eqBool_str->BA,wpAny_eqBool_int->Bz,wpAny_Dict_empty->By,small_one->vR,typeLookup_type->Bx,wpAny_setField->Bw,rangeSize_one->Bv,eval_ListComp->Bu,evalPart_none->Bt,call_list_seq->Bs
open PySem.Heap renaming get?_push_of_some->aV,lt_size->aI,get?_push_size->bP,SameBut->eW,get?_update_other->oV,get?_update_self->oU,size_push->oS,get?_none_of_le->vQ,ExtBut->vP,IsTuple->Br
open Option.some renaming inj->du,injEq->Ia
open PySem.W renaming findIn->dN,keepIn->em,emptyDict->gE,codeIn->fW,instObj->hY,fnOf->fV,plainGet->ly,codeHdIn->lx,nsIn->j6,tabObj->lw,CodeHd->lv,hasDictIn->oG,kas_sort->oF,lookIn->oE,plainGet_of->sW,callWith_K->sV,plainOver->sU,methodObj->sT,isFn->oD,takerIn->sS,makesIn->sR,kia_one->sQ,noTabs->sP,mg_of->sO,mem_of_lookupK->y4,cellsFrom_some->y3,methodCall_KW->y2,codeHd_of_K->y1,specialIn->y0,handedIn->yZ,OpenLaw->yY,KasFin->yX,WalkO->yW
open Nat renaming le_refl->ag,lt_of_lt_of_le->bM,ne_of_lt->bc,le_trans->bh,ne_of_gt->bL,zero_le->b9,zero_add->cD,lt_succ_self->fU,lt_irrefl->gC,lt_of_le_of_lt->j5,le_of_lt->gB,lt_or_ge->hX,le_succ->hW,lt_trans->j4,mul_comm->oC,le_of_succ_le->sN,succ_ne_self->sM,succ_mul->sL,eq_zero_or_pos->yV,le_succ_of_le->yU,sub_self->yS,le_of_eq->yR,log2_lt->yQ,not_lt->yP
open List renaming getElem?_eq_some_iff->aP,mem_of_getElem?->aM,mem_cons_of_mem->aR,mem_cons_self->aO,getElem?_eq_getElem->bq,getElem?_append_left->bw,map_cons->aF,getElem?_set_ne->bg,getD_eq_getElem?_getD->bH,getElem?_map->aZ,size_toArray->ba,length_cons->aX,length_map->aU,getElem?_append_right->bU,all_eq_true->be,mem_cons->aW,length_append->bK,mem_map->a_,getElem?_set_self->cC,getElem?_eq_none->cB,replicate_succ->cA,not_mem_nil->cm,nodup_cons->b8,eq_nil_of_length_eq_zero->hV,set_set->cj,mem_append_right->fS,append_nil->dR,getElem_mem->ej,set_getElem_self->gA,append_assoc->fj,flatten_cons->fR,mem_iff_getElem?->hU,nil_append->fh,length_set->fg,foldl_cons->ff,length_take->fQ,getElem?_range->hG,filter_eq_self->hE,mem_filter->fP,mem_append->fO,mem_singleton->g_,getElem?_take_of_lt->j3,any_cons->fN,lookup->e_,ext_getElem?->i0,mem_filterMap->j1,map_nil->gy,map_map->gx,forIn_cons->iY,flatMap_cons->j0,mem_range->iX,mem_iff_getElem->lu,mem_append_left->lr,filterMap_cons->lq,find?_cons->jZ,length_filter_le->oB,isEmpty_iff->lp,length_nil->ll,map_congr_left->oA,lookup_cons->oz,getElem?_replicate->sK,any_eq_true->oy,of_mem_zip->ou,filter_map->oq,length_replicate->sJ,mem_of_mem_take->sH,length->lj,length_pos_iff->sG,all_cons->oo,mem_replicate->sF,findIdx?_cons->sE,pairwise_map->sD,nodup_append->sC,length_range->sB,range'_succ->sv,nodup_range->su,mem_flatMap->ss,length_drop->sr,drop_length->sm,map_append->sk,idxOf_lt_length_of_mem->yO,foldl->on,drop_zero->sj,pairwise_iff_getElem->yN,mem_of_find?_eq_some->yM,getElem?_zip_eq_some->yL,getElem?_eq_none_iff->yK,drop_eq_getElem_cons->yJ,filter_cons_of_pos->yI,filter_cons_of_neg->yH,pairwise_flatMap->yG,mem_of_mem_drop->yF,map_eq_nil_iff->yE,zip_cons_cons->yD,filter_filter->yC,take_sublist->yB,take_length->yA,mem_reverse->yz,filter_cons->yy,cons_append->yx,find?_some->yw,nodup_nil->yv,forIn_nil->yu,drop_drop->yt,findIdx?->yr,toArray->yq,range'->yp,map_id->yo
open Option renaming map_eq_some_iff->cV,bind_eq_some_iff->iV,isSome_iff_exists->jY,map_some->jX,bind_some->li,getD_some->om,map->ol,isSome_map->yn,getD_none->ym
open Ne renaming symm->aK
open PySem.Calls renaming spliced_cons->ei,spliced_nil->g9,callWith_builtin->jW,evalArgs_plain->lh,Name_function_global->yk
open Array renaming length_toList->jV,getElem?_eq_some_iff->si,getElem?_append_left->yj,getElem?_eq_getElem->yi,toList->sh,forIn_toList->yh,size_append->yg,all_append->yf
open Bool renaming and_eq_true->av,false_ne_true->a8,false_eq_true->fM,false_or->lg,eq_iff_iff->oj,not_eq_true'->sg,true_and->sf,not_eq_true->ye,or_eq_true->yd,false_and->yc,not_true->yb,and_true->ya,and_self->x'
open PySem.Builtin.Range renaming rangeSize->oh,small->x_
open PyProof.Rows renaming callWith_type1->iU,slot_tuple_getitem->g8,boot_list->og,boot_sorted->x9,lt_int->se,boot_tuple->x8,boot_zip->x6,reads_list_at->r_,subscriptTail_builtinR->x5,tail_any->oe,entry_tuple_getitem->x4,boot_range->r9,args_tuple_getitem->x3,lt_str->FH,get?_update_seq->x2,entry_list_sort->xZ,callWith_builtin1->FF,boot_min->FE,boot_isinstance->FD,boot_int->FC,boot_dict->FA,boot_bool->Fz,boot_abs->Fy,slot_list_sort->xY,slicePart_none->xX,boot_enumerate->xW,tupleItemsOf_->xV,listUpdate_at->xU,getItem_tuple->xT
open PySem.EqNone renaming ne_str_none->Fx,ne_none_str->Fw,ne_none_none->Fv,ne_none_int->Fu,ne_none_bool->Ft,ne_int_none->Fs,ne_bool_none->Fq,eq_str_none->Fp,eq_none_str->Fo,eq_none_none->Fk,eq_none_int->Fj,eq_none_bool->Fi,eq_int_none->Fh,eq_bool_none->Fg
open PySem.EqMixed renaming ne_str_int->Ff,ne_str_bool->Fe,ne_int_str->Fd,ne_bool_str->Fc,eq_str_int->Fb,eq_str_bool->Fa,eq_int_str->E_,eq_bool_str->E9
open PySem.Around renaming under_plainId->iT,under->rY
open PySem.F renaming slot_dict_get->jU,plain_min_loop->iR,slot_tuple_iterator_next->oa,plainAttrs_list->n_,slot_tuple_mul->nZ,entry_dict_get->nY,slot_int_rmul->nX,args_tuple_add_2->rW,plainAttrs_dict->rV,entry_tuple_add->rT,slot_tuple_add->rS,slot_zip_getattribute->rR,slot_dict_setdefault->xS,slot_tuple_index->xR,entry_min_loop->rQ,args_tuple_mul_2->xQ,slot_tuple_rmul->xP,slot_list_index->xO,entry_tuple_mul->xN,args_dict_get_3->xM,args_dict_get_2->xL,args_tuple_iterator_next_1->xK,type_dict_get->xJ,entry_tuple_iterator_next->xI,slot_list_extend->xH,slot_list_append->xG,slot_list_clear->xF,args_int_rmul_2->xE,slot_int_index->xD,entry_int_rmul->xB,fills_int_mul->xA,plain_list_iadd->xz,slot_zip_next->xy
open PySem.Builtin.Slice renaming slicePlaces->nW,sliceAdjust->rN,sliceApplied->xx,slicePartIndex->E8,sliceFields->E7
open PySem.Builtin.Tuple renaming tupleExact->nV,tupleItemsOf->xw,tupleTooMany->E6,tupleCompareSizes->E5
open PySem.Str renaming length->lf,ofString_eq_toList->xu
open PySem.Obj renaming mapSeq->gw,mapFields->xt
open PySem.Builtin.List renaming listTooLong->nU
open Int renaming emod_lt_of_pos->cJ,emod_nonneg->ci,zero_add->cI,toNat_natCast->lc,toNat_of_nonneg->xr,natCast_mul->xq,lt_irrefl->xp,le_of_lt->xo
open PySem.PyData renaming strOk->aA,eqv->bB,depthAll->jT,canLayAll0->k_,eqvAll->k9,depth->k8,canLay0->rM
open PySem.SeqAt renaming readOf->k7,shaped->xn,eqv_refl->E4
open PySem.AutoSeq1 renaming wpAny_loadPart'->rL,sub_tuple_tuple->rK,idx_int->xm
open List.cons renaming injEq->eZ
open PySem.Heap.SameBut renaming update->k6
open PySem.Builtin.SmallTypes renaming nextOf->eY,ownedTupleIsFree->nT,ownedTupleHandOut->E3
open PySem.Builtin.Dict renaming updateFrom->xl,selfAndRest->E2,pairItems->E1,addKeywords->EZ
open Sum.inl renaming injEq->k5
set_option Elab.async false
set_option linter.all false
set_option maxRecDepth 100000
set_option tactic.hygienic false
namespace L2
open PySem PySem.Spec PyProof.Rows
noncomputable abbrev dJ:=Sum Int Str
noncomputable def qS:dJ->Value->Bool
 | .inl k,v=>Value.isInt k v
 | .inr x,v=>Value.isStrOf x v
noncomputable def Pq(w:World):dJ->Int
 | .inl k=>hashInt k
 | .inr x=>hashStr w x
theorem cL:∀{k:dJ}{v:Value},qS k v=true->(∃i t,k=Sum.inl i/\v=Value.int i t)\/(∃x t,k=Sum.inr x/\v=Value.str x t)
 | .inl i,v,h=>by obtain⟨t,e⟩:=Value.isInt_shape (k:=i) (v:=v) h;exact .inl ⟨i,t,rfl,e⟩
 | .inr x,v,h=>by obtain⟨t,e⟩:=Value.isStrOf_shape (x:=x) (v:=v) h;exact .inr ⟨x,t,rfl,e⟩
theorem AT(i:Int)(t:Tok):qS (.inl i) (.int i t)=true:=by simp[qS,Value.isInt]
theorem AS(x:Str)(t:Tok):qS (.inr x) (.str x t)=true:=by simp[qS,Value.isStrOf]
theorem JY(a b:Int):decide ((Sum.inl a:dJ)=Sum.inl b)=(a == b):=by
 by_cases e:a=b
 .subst e;simp
 .have h:¬(Sum.inl a:dJ)=Sum.inl b:=λq=>e (Sum.inl.inj q);rw[cw h];exact(oW.mpr e).symm
theorem JV(a b:Str):decide ((Sum.inr a:dJ)=Sum.inr b)=decide (a=b):=by
 by_cases e:a=b
 .subst e;simp
 .have h:¬(Sum.inr a:dJ)=Sum.inr b:=λq=>e (Sum.inr.inj q);rw[cw h,cw e]
theorem JX(a:Int)(b:Str):decide ((Sum.inl a:dJ)=Sum.inr b)=false:=cw (λq=>nomatch q)
theorem JW(a:Str)(b:Int):decide ((Sum.inr a:dJ)=Sum.inl b)=false:=cw (λq=>nomatch q)
def bX(prog:Program)(w:World):PySem.KeyKind prog w dJ where
 is:=qS
 hash:=Pq w
 inj:=λv a b c f=>by
  rcases cL c with ⟨i,t,rfl,rfl⟩|⟨x,t,rfl,rfl⟩
  .rcases cL f with ⟨j,u,rfl,e⟩|⟨y,u,rfl,e⟩
   .injection e with s _;rw[s]
   .exact nomatch e
  .rcases cL f with ⟨j,u,rfl,e⟩|⟨y,u,rfl,e⟩
   .exact nomatch e
   .injection e with s _;rw[s]
 byValue:=λk v h=>by rcases cL h with ⟨i,t,rfl,rfl⟩|⟨x,t,rfl,rfl⟩<;>rfl
 pyHash:=λn h=>by
  rcases cL n with ⟨i,t,rfl,rfl⟩|⟨x,t,rfl,rfl⟩
  .exact wpAny_pyHash_int h
  .exact wpAny_pyHash_str h
 eqBool:=λm n h=>by
  rcases cL m with ⟨i,t,rfl,rfl⟩|⟨x,t,rfl,rfl⟩
  .rcases cL n with ⟨j,u,rfl,rfl⟩|⟨y,u,rfl,rfl⟩
   .rw [JY]at h;exact Bz h
   .rw [JX]at h;exact SeqAt.EqAt.int_str i t y u _ _ _ _ h
  .rcases cL n with ⟨j,u,rfl,rfl⟩|⟨y,u,rfl,rfl⟩
   .rw [JW]at h;exact SeqAt.EqAt.str_int x t j u _ _ _ _ h
   .rw [JV]at h;exact BA h
 «strs»:=λk x t v h=>by
  rcases cL h with ⟨i,u,rfl,e⟩|⟨y,u,rfl,e⟩
  .exact nomatch e
  .injection e with s _;subst s;cases v<;>rfl
theorem u7(prog:Program)(w:World)(i:Int)(t:Tok):(bX prog w).is (.inl i) (.int i t)=true:=AT i t
theorem u6(prog:Program)(w:World)(x:Str)(t:Tok):(bX prog w).is (.inr x) (.str x t)=true:=AS x t
inductive V where
 |non|bl (b:Bool)|int (i:Int)|str (x:Str)|byt (b:Array UInt8)|flt (b:UInt64)|ref (a:Addr)|ty (n:String)
 deriving DecidableEq
def RelV:V->Value->Prop
 | .non,u=>u=Value.none
 | .bl b,u=>u=Value.bool b
 | .int i,u=>∃t,u=Value.int i t
 | .str x,u=>∃t,u=Value.str x t
 | .byt b,u=>∃t,u=Value.bytes b t
 | .flt b,u=>∃t,u=Value.float b t
 | .ref a,u=>u=Value.ref a
 | .ty n,u=>u=Value.type n
abbrev bb:List V->LV->Prop:=Paired RelV
variable{j:LV}
theorem bb.length(r:bb xs j):xs.length=j.length:=Paired.length r
theorem bb.get:∀{xs:List V}{j:LV}{i:Nat}{x:V},bb xs j->xs[i]? = some x->∃u,j[i]? = some u/\RelV x u
 |_,_,_,_,.nil,e=>by simp at e
 |_,_,0,_,.cons r _,e=>by simp at e;subst e;exact⟨_,rfl,r⟩
 |_,_,i+1,x,.cons _ t,e=>by obtain⟨u,h1,h2⟩:=bb.get (i:=i) (x:=x) t (by simpa using e);exact⟨u,by simpa using h1,h2⟩
variable{u:Value}
theorem bb.set(r:RelV x u):∀{xs:List V}{j:LV}(i:Nat),bb xs j->bb (xs.set i x) (j.set i u)
 |_,_,_,.nil=>.nil
 |_,_,0,.cons _ t=>.cons r t
 |_,_,i+1,.cons q t=>.cons q (bb.set r i t)
theorem bb.append:∀{xs ys:List V}{j w:LV},bb xs j->bb ys w->bb (xs++ys) (j++w)
 |_,_,_,_,.nil,s=>s
 |_,_,_,_,.cons r t,s=>.cons r (bb.append t s)
theorem bb.take:∀{xs:List V}{j:LV}(n:Nat),bb xs j->bb (xs.take n) (j.take n)
 |_,_,0,_=>.nil
 |_,_,_+1,.nil=>.nil
 |_,_,n+1,.cons r t=>.cons r (bb.take n t)
theorem bb.drop:∀{xs:List V}{j:LV}(n:Nat),bb xs j->bb (xs.drop n) (j.drop n)
 |_,_,0,r=>r
 |_,_,_+1,.nil=>.nil
 |_,_,n+1,.cons _ t=>bb.drop n t
def ju:Option V->OV->Prop
 |some v,some u=>RelV v u
 |none,none=>True
 |_,_=>False
def KV:List (κ×V)->List (κ×Value)->Prop:=Paired λ(p:κ×V)(q:κ×Value)=>p.1=q.1/\RelV p.2 q.2
noncomputable def kV:dJ->V
 | .inl i=>.int i
 | .inr x=>.str x
def mX(h:Heap)(a:Addr)(i:Array Value):Prop:=∃o,h.get? a=some o/\(o.cls=.type "tuple"/\∃n,o.data=.seq i n)/\o.dict=none
variable{h:Heap}{a:Addr}
theorem mX.tup(x:mX h a q):IsTup h a q:=by obtain⟨o,e,c,_⟩:=x;exact⟨o,e,c⟩
theorem mX.lt(x:mX h a q):a < h.objs.size:=x.tup.lt
theorem mX.new(h:Heap)(i:Array Value):mX (h.push { cls:=.type "tuple",data:=.seq i }) h.objs.size i:=⟨_,bP _ rfl,⟨rfl,_,rfl⟩,rfl⟩
inductive HO where
 |lst (xs:List V)
 |tup (xs:List V)
 |dK (kvs:List (dJ×V))|dT (kvs:List (List dJ×V))
 |set (S:Int->Bool) (n:Nat)
 |ins (C dx:Addr) (fs:List (Str×V))
 |own (x:Addr)
 |xd (fs:List (Str×V))
 |met (f x:Addr)
 |rng (lo hi:Int)
 |frz (o:Obj) (u:HO)
 |tbl
 |ext (φ:Heap->Prop)
noncomputable abbrev Y:=Addr->Option HO
noncomputable def bN(H:Y)(a:Addr)(o:HO):Y:=λb=>if b=a then some o else H b
variable{H:Y}
theorem aJ:bN H a o a=some o:=by unfold bN;rw[ai rfl]
variable{b:Addr}
theorem aj(h:b≠a):bN H a o b=H b:=by unfold bN;rw[al h]
theorem MJ{H:Y}{a b:Addr}{o u:HO}(h:H a=some o)(h':H b=some u)(d:o≠u):a≠b:=by intro e;subst e;rw[h]at h';exact d (du h')
theorem a6(h:H a=some o)(h':H b=none):a≠b:=by intro e;subst e;rw[h]at h';cases h'
noncomputable def DI:Str:="Renamer.__init__"
noncomputable def pM:Str:="Renamer.__init__.<locals>.<lambda>"
noncomputable def wN:Pos:=⟨30,56,30,83⟩
def Cf(p:Addr×Obj):Option Addr:=match p.2.data with
 | .fields v=>match (v[1]?:OV),(v[11]?:OV) with
  |some (.str q _),some (.ref P)=>if q=DI then some P else none
  |_,_=>none
 |_=>none
def bS(K:FG):List Addr:=K.filterMap Cf
def qc(H:Y)(h:Heap)(a:Addr):Prop:=∃ps,h.get? a=some (lw ps)/\(ps=#[]\/∃c,ps=#[rawInt wN.line,rawInt wN.col,.ref c]/\H c=some (.own a)/\h.CodeRec (.ref c) pM)
section
variable(P:Program)(w:World)
def cT(H:Y)(h:Heap)(a:Addr):HO->Prop
 | .lst xs=>xs.length≤sizeLine/\∃(its:LV)(n:Nat),bb xs its/\h.get? a=some { cls:=.type "list",data:=.seq its.toArray n }
 | .tup xs=>xs.length≤sizeLine/\∃its:LV,bb xs its/\mX h a its.toArray
 | .dK kvs=>kvs.length≤sizeLine/\(a == sysModules)=false/\∃vs,KV kvs vs/\h.DictOf (bX P w) a vs
 | .dT kvs=>kvs.length≤sizeLine/\(a == sysModules)=false/\∃xs:List (List dJ×Addr×Value),
   Paired (λ(p:List dJ×V)(q:List dJ×Addr×Value)=>p.1=q.1/\H q.2.1=some (.tup (p.1.map kV))/\RelV p.2 q.2.2) kvs xs /\
   ∃o es ep,h.get? a=some o/\o.ExactDict/\o.data=.dict es ep/\es.toList=xs.map (entryOfKey (tupleKind (bX P w)))/\(xs.map (·.1)).Nodup
 | .set S n=>h.SetOf (intKind P w) a S n
 | .ins C dx fs=>H dx=some (.own a)/\fs.length≤1000/\dx≠a/\h.get? a=some (hY C dx) /\
   ∃mA,h.Ns1 dx mA/\(∀f,ju (fs.lookup f) (mA f))/\v0 mA (fs.map (·.1))
 | .own _=>∃o,h.get? a=some o
 | .xd fs=>∃mA,h.Ns1 a mA/\∀f,ju (fs.lookup f) (mA f)
 | .rng lo hi=>∃t u v,h.get? a=some { cls:=.type "range",data:=.fields #[.int lo t,.int hi u,.int 1 v] }
 | .frz o u=>h.get? a=some o/\cT H h a u
 | .tbl=>qc H h a
 | .met f x=>h.get? a=some (sT (.ref f) (.ref x))
 | .ext φ=>φ h/\(∃o,h.get? a=some o)/\∀h1 h2:Heap,φ h1->(∀o,h1.get? a=some o->h2.get? a=some o)->φ h2
def kf(H:Y)(h:Heap):Prop:=∀a o,H a=some o->cT P w H h a o
end
section
variable{P:Program}{w:World}{H H':Y}{h h':Heap}{a:Addr}{o:HO}
theorem cT.lt(x:cT P w H h a o):a < h.objs.size:=by
 cases o with
 |lst xs=>obtain⟨_,_,_,_,e⟩:=x;exact aI e
 |tup xs=>obtain⟨_,_,_,p⟩:=x;exact p.lt
 |dK kvs=>obtain⟨_,_,_,_,o,_,_,e,_⟩:=x;exact aI e
 |dT kvs=>obtain⟨_,_,_,_,o,_,_,e,_⟩:=x;exact aI e
 |set S n=>obtain⟨o,_,_,_,e,_⟩:=x;exact aI e
 |ins C dx fs=>obtain⟨_,_,_,e,_⟩:=x;exact aI e
 |own y=>obtain⟨_,e⟩:=x;exact aI e
 |xd fs=>obtain⟨_,⟨_,_,_,e,_⟩,_⟩:=x;exact aI e
 |rng lo hi=>obtain⟨_,_,_,e⟩:=x;exact aI e
 |frz ob u=>obtain⟨e,_⟩:=x;exact aI e
 |tbl=>obtain⟨_,e,_⟩:=(show qc H h a from x);exact aI e
 |met f y=>exact aI (show h.get? a=some _ from x)
 |ext φ=>obtain⟨_,⟨_,e⟩,_⟩:=x;exact aI e
theorem Paired.mapP:∀{l:List α}{h:List z},Paired F l h->(∀a b,F a b->q a b)->Paired q l h
 |_,_,.nil,_=>.nil
 |_,_,.cons r t,f=>.cons (f _ _ r) (Paired.mapP t f)
theorem cT.stay(x:cT P w H h a o)(k:∀b u,(b=a\/H b=some (.own a))->h.get? b=some u->h'.get? b=some u)
  (ho:∀b,H b=some (.own a)->H' b=some (.own a)) (ht:∀b xs,H b=some (.tup xs)->H' b=some (.tup xs)):cT P w H' h' a o:=by
 induction o with
 |lst xs=>obtain⟨z,its,n,r,e⟩:=x;exact⟨z,its,n,r,k _ _ (.inl rfl) e⟩
 |tup xs=>obtain⟨z,its,r,ob,e,c⟩:=x;exact⟨z,its,r,ob,k _ _ (.inl rfl) e,c⟩
 |dK kvs=>obtain⟨z,y,vs,r,ob,es,ep,e,c⟩:=x;exact⟨z,y,vs,r,ob,es,ep,k _ _ (.inl rfl) e,c⟩
 |dT kvs=>obtain⟨z,y,xs,r,ob,es,ep,e,c⟩:=x;exact⟨z,y,xs,Paired.mapP r λp q z=>⟨z.1,ht _ _ z.2.1,z.2.2⟩,ob,es,ep,k _ _ (.inl rfl) e,c⟩
 |set S n=>obtain⟨ob,es,ep,t,e,c⟩:=x;exact⟨ob,es,ep,t,k _ _ (.inl rfl) e,c⟩
 |ins C dx fs=>obtain⟨d,z,ne,e,mA,⟨od,es,ep,e2,c⟩,r⟩:=x;exact⟨ho _ d,z,ne,k _ _ (.inl rfl) e,mA,⟨od,es,ep,k _ _ (.inr d) e2,c⟩,r⟩
 |own y=>obtain⟨ob,e⟩:=x;exact⟨ob,k _ _ (.inl rfl) e⟩
 |xd fs=>obtain⟨mA,⟨od,es,ep,e,c⟩,r⟩:=x;exact⟨mA,⟨od,es,ep,k _ _ (.inl rfl) e,c⟩,r⟩
 |rng lo hi=>obtain⟨t,u,v,e⟩:=x;exact⟨t,u,v,k _ _ (.inl rfl) e⟩
 |frz ob u ih=>obtain⟨e,q⟩:=x;exact⟨k _ _ (.inl rfl) e,ih q⟩
 |tbl=>obtain⟨ps,e,z⟩:=(show qc H h a from x);refine⟨ps,k a _ (.inl rfl) e,z.imp id ?_⟩;rintro ⟨c,e1,e2,c',oc,vs,t,e3,e4,e5⟩;cases e3;exact⟨c,e1,ho _ e2,c,oc,vs,t,rfl,k _ _ (.inr e2) e4,e5⟩
 |met f y=>have e:h.get? a=some (sT (.ref f) (.ref y)):=x;show h'.get? a=some (sT (.ref f) (.ref y));exact k a _ (.inl rfl) e
 |ext φ=>obtain⟨p,⟨o,e⟩,st⟩:=x;exact⟨st _ _ p λo q=>k _ _ (.inl rfl) q,⟨o,k _ _ (.inl rfl) e⟩,st⟩
theorem kf.lt(x:kf P w H h)(e:H a=some o):a < h.objs.size:=(x a o e).lt
theorem kf.fresh(x:kf P w H h)(e:h.objs.size≤a):H a=none:=by
 cases q:H a with
 |none=>rfl
 |some u=>exact absurd (bM (x.lt q) e) (gC _)
theorem kf.kept(x:kf P w H h)(k:∀b u,h.get? b=some u->h'.get? b=some u):kf P w H h':=λa o e=>
 (x a o e).stay (λb u _ q=>k b u q) (λ_ q=>q) λ_ _ q=>q
theorem kf.laid(x:kf P w H h)(k:∀b u,h.get? b=some u->h'.get? b=some u)(p:h.objs.size≤a)(n:cT P w (bN H a o) h' a o):kf P w (bN H a o) h':=λb u e=>by
 have f:=x.fresh p;by_cases s:b=a
 .subst s;rw[aJ]at e;cases e;exact n
 .rw [aj s]at e;exact(x b u e).stay (λc v _ q=>k c v q) (λc q=>by rw[aj (a6 q f)];exact q) λc xs q=>by rw[aj (a6 q f)];exact q
end
def Rd(H:Y)(a:Addr)(u:HO):Prop:=H a=some u\/∃o,H a=some (.frz o u)
theorem Rd.ok{P:Program}{w:World}{H:Y}{h:Heap}{a:Addr}{u:HO}(r:Rd H a u)(x:kf P w H h):cT P w H h a u:=by
 rcases r with r|⟨o,r⟩
 .exact x a u r
 .obtain⟨_,q⟩:=x a _ r;exact q
def Nl:Option HO->Prop
 |some (.lst _)=>True
 |some (.dK _)=>True
 |some (.dT _)=>True
 |some (.set _ _)=>True
 |some (.ins _ _ _)=>True
 |some (.ext _)=>True
 |_=>False
section
variable{P:Program}{w:World}{H:Y}{h h':Heap}{x e:Addr}{o':HO}
theorem kf.write(ok:kf P w H h)(m:Nl (H x))(d:e=x\/H e=some (.own x))(k:∀b u,b≠e->h.get? b=some u->h'.get? b=some u)(o:∃u,h'.get? e=some u)
  (p:cT P w (bN H x o') h' x o'):kf P w (bN H x o') h':=λb u q=>by
 have n:∀c y,H c=some (.own y)->c≠x:=λc y r z=>by subst z;rw[r]at m;exact m
 have t:∀c xs,H c=some (.tup xs)->c≠x:=λc xs r z=>by subst z;rw[r]at m;exact m
 by_cases s:b=x
 .subst s;rw[aJ]at q;cases q;exact p
 .rw [aj s]at q;by_cases a:b=e
  .have g:H b=some (.own x):=by
    rcases d with z|z
    .exact absurd (a.trans z) s
    .rw [a];exact z
   rw[q]at g;cases g;obtain⟨v,i⟩:=o;exact⟨v,by rw[a];exact i⟩
  .refine (ok b u q).stay (λc v f r=>k c v ?_ r) (λc r=>by rw[aj (n c b r)];exact r) λc xs r=>by rw[aj (t c xs r)];exact r
   rcases f with rfl|f
   .exact a
   .rintro rfl;rcases d with z|z
    .exact n c b f z
    .rw [f]at z;cases z;exact s rfl
end
structure Un(fs ex:List Addr)(H H':Y)(h h':Heap):Prop where
 keep:∀b o,h.get? b=some o->H b=none->b ∉ fs->b ∉ ex->h'.get? b=some o
 slot:∀b o,h.get? b=some o->H b=none->b ∈ fs->b ∉ ex->∃sl,h'.get? b=some { o with slots:=sl }
 free:∀b o,h.get? b=some o->H b=none->b ∉ ex->H' b=none
 there:∀b o,h.get? b=some o->b ∉ ex->∃o',h'.get? b=some o'
 tups:∀b xs,H b=some (.tup xs)->H' b=some (.tup xs)
 frzs:∀b o u,H b=some (.frz o u)->H' b=some (.frz o u)
 tbls:∀b,H b=some .tbl->H' b=some .tbl
section
variable{fs fs' ex ex':List Addr}{H G H2:Y}{h h1 h2 h':Heap}{a x e:Addr}{o:HO}
theorem Un.any(u:Un fs ex H G h h1)(q:h.get? b=some z)(n:H b=none)(a:b ∉ ex):∃s,h1.get? b=some { z with slots:=s }:=by
 by_cases x:b ∈ fs
 .exact u.slot b z q n x a
 .exact⟨z.slots,u.keep b z q n x a⟩
theorem Un.kept(k:∀b u,h.get? b=some u->h'.get? b=some u):Un fs ex H H h h':=
 ⟨λb o q _ _ _=>k b o q,λb o q _ _ _=>⟨o.slots,k b o q⟩,λ_ _ _ n _=>n,λb o q _=>⟨o,k b o q⟩,λ_ _ q=>q,λ_ _ _ q=>q,λ_ q=>q⟩
theorem Un.refl:Un fs ex H H h h:=Un.kept λ_ _ q=>q
theorem Un.laid(k:∀b u,h.get? b=some u->h'.get? b=some u)(p:h.objs.size≤a)(x:H a=none):Un fs ex H (bN H a o) h h' where
 keep:=λb u q _ _ _=>k b u q
 slot:=λb u q _ _ _=>⟨u.slots,k b u q⟩
 free:=λb u q n _=>by rw[aj (bc (bM (aI q) p))];exact n
 there:=λb u q _=>⟨u,k b u q⟩
 tups:=λb xs q=>by rw[aj (a6 q x)];exact q
 frzs:=λb u xs q=>by rw[aj (a6 q x)];exact q
 tbls:=λb q=>by rw[aj (a6 q x)];exact q
theorem Un.write(m:Nl (H x))(p:e=x\/H e=some (.own x))(k:∀b u,b≠e->h.get? b=some u->h'.get? b=some u)(s:∃u,h'.get? e=some u):Un fs ex H (bN H x o) h h':=by
 have t:∀b,H b=none->b≠x:=λb n z=>by subst z;rw[n]at m;exact m
 have c:∀b,H b=none->b≠e:=λb n z=>by
  subst z;rcases p with r|r
  .exact t b n r
  .rw [n]at r;cases r
 have f:∀b u,H b=some u->¬Nl (some u)->b≠x:=λb u q nm z=>by subst z;rw[q]at m;exact nm m
 refine⟨fun b u q n _ _=>k b u (c b n) q,fun b u q n _ _=>⟨u.slots,k b u (c b n) q⟩,fun b u q n _=>by rw [aj (t b n)];exact n,fun b u q _=>?_,
  λb xs q=>by rw[aj (f b _ q λz=>z)];exact q,λb u xs q=>by rw[aj (f b _ q λz=>z)];exact q,λb q=>by rw[aj (f b _ q λz=>z)];exact q⟩
 by_cases a:b=e
 .subst a;exact s
 .exact⟨u,k b u a q⟩
end
noncomputable def trk(h:Heap)(H:Y):List Addr:=(List.range h.objs.size).filter λa=>(H a).isSome
def tY(h:Heap)(H:Y):Heap:=PySem.W.hideAll h (trk h H)
theorem AY(h:Heap)(H:Y):(tY h H).objs.size=h.objs.size:=PySem.W.hideAll_size _ _
variable{o:Obj}
theorem D5(e:h.get? b=some o)(n:H b=none):(tY h H).get? b=some o:=
 PySem.W.hideAll_get _ e λm=>by have q:(H b).isSome=true:=(fP.mp m).2;rw[n]at q;simp at q
theorem GI(e:(tY h H).get? b=some o):h.get? b=some o/\H b=none:=by
 have a:h.get? b=some o:=PySem.W.of_hideAll (trk h H) e;refine⟨a,?_⟩;cases q:H b with
 |none=>rfl
 |some x=>have m:b ∈ trk h H:=fP.mpr ⟨iX.mpr (aI a),by simp[q]⟩;have z:(tY h H).get? b=none:=PySem.W.hideAll_none (trk h H) m;rw[z]at e;cases e
noncomputable def mh(g h:Heap)(L:Addr):PN:=(List.range h.objs.size).filterMap λa=>if a=L\/(g.get? a).isSome=true then none else (h.get? a).map λo=>(a,o)
variable{g:Heap}{L:Addr}
theorem u_(h1:a≠L)(h2:g.get? a=none)(x:h.get? a=some o):(a,o) ∈ mh g h L:=
 j1.mpr ⟨a,iX.mpr (aI x),by simp[h1,h2,x]⟩
set_option tactic.hygienic true in
theorem pG(x:p ∈ mh g h L):p.1≠L/\g.get? p.1=none/\h.get? p.1=some p.2:=by
 obtain⟨b,_,e⟩:=j1.mp x;split at e
 .cases e
 .rename_i n;cases q:h.get? b with
  |none=>rw[q]at e;simp at e
  |some u=>
   rw[q]at e;simp only[jX,Ia]at e;subst e;refine⟨λz=>n (.inl z),?_,q⟩;show g.get? b=none;cases r:g.get? b with
   |none=>rfl
   |some v=>exact(n (.inr (by simp[r]))).elim
theorem u4:News g L h (mh g h L):=λp x=>let ⟨a,b,c⟩:=pG x;⟨c,a,b⟩
structure Mod(K:FG)(mg:SV)(base:Heap):Prop where
 kin:K.In base
 glob:base.Ns mainGlobals mg
 blt:∃mb,base.Ns builtinsNs mb/\∀x:Str,x≠"__name__"->mb x=bootBuiltins x
 nolimit:base.NoLimit
 bmain:∃bm ob,mg "__builtins__"=some (.ref bm)/\bm≠builtinsNs/\base.get? bm=some ob/\ob.cls=.type "module"/\ob.dict=some builtinsNs/\ob.data=.plain
structure Cx where
 p:Program
 w:World
 K:FG
 g:SV
 b:Heap
 A:Around
 N:LS
 z:Shared
 y:Y
 e:Env
 o:List Env
 k:List Env
 ex:List Addr
 fn:Str->Bool
 c:Bool
 pn:PN
 xe:VP
noncomputable def D_(l:List Env):List Addr:=l.filterMap (·.frame)
abbrev Cx.fs(X:Cx):List Addr:=D_ X.o
def K'(sc:Scope)(x:Str):Prop:=sc.names.lookup x=some .local\/sc.names.lookup x=some .cell\/sc.names.lookup x=some .free
def Loc(sc:Scope)(x:Str):Prop:=sc.names.lookup x=some .local\/sc.names.lookup x=some .cell
def Look(e:Env)(h:Heap)(m:SV)(x:Str)(u:Value):Prop:=
 (e.kindOf x=some .local/\m x=some u)\/((e.kindOf x=some .cell\/e.kindOf x=some .free)/\∃c,e.cells.lookup x=some c/\h.IsCell c (some u))
structure Cx.Ok(X:Cx):Prop where
 mod:Mod X.K X.g X.b
 kind:X.e.scope.kind=.function
 glob:X.e.globals=mainGlobals
 blt:X.e.builtins=builtinsNs
 above:X.z.heap.objs.size≤X.e.locals
 inj:∀x y c,X.e.cells.lookup x=some c->X.e.cells.lookup y=some c->x=y
 has:∀x,(X.e.kindOf x=some .cell\/X.e.kindOf x=some .free)->∃c,X.e.cells.lookup x=some c
 cab:∀x c,X.fn x=true->X.e.cells.lookup x=some c->X.z.heap.objs.size≤c
 hd:X.c=true->X.A.handled=none
 frames:X.A.frames=some X.k
 stk:X.k=X.o\/(X.k=X.e::X.o/\X.e.frame=some X.e.locals)
 exf:∀b ∈ X.ex,b≠X.e.locals/\∀x c,X.e.cells.lookup x=some c->c≠b
 bs:∀b o,X.b.get? b=some o->X.z.heap.get? b=some o/\X.y b=none
 bsz:X.b.objs.size≤X.z.heap.objs.size
 noex:∀b o,X.b.get? b=some o->b ∉ X.ex
 exfs:∀b ∈ X.ex,b ∉ X.fs
 funs:X.z.heap.FunFrames X.b X.o
 frf:∀b ∈ X.fs,X.y b=none
 tab:∀P ∈ bS X.K,X.y P=some .tbl
structure Inv(X:Cx)(pins:PN)(J:List (Option V))(H:Y)(s:Shared):Prop where
 o:X.Ok
 os:s.os=X.z.os
 bare:AllBare s.gens
 base:Un X.fs X.ex X.y H X.z.heap s.heap
 loc:∃m,s.heap.Ns X.e.locals m/\∀(i:Nat)(x:Str)(v:V),X.N[i]? = some x->J[i]? = some (some v)->K' X.e.scope x->∃u,RelV v u/\Look X.e s.heap m x u
 cell:∀x c,X.e.cells.lookup x=some c->∃v,s.heap.IsCell c v
 free:H X.e.locals=none
 freeC:∀x c,X.e.cells.lookup x=some c->H c=none
 pin:∀p ∈ X.pn++pins,s.heap.get? p.1=some p.2/\H p.1=none/\p.1≠X.e.locals/\p.1 ∉ X.fs/\∀v,p.2.data≠.cell v
 h:kf X.p X.w H s.heap
 len:J.length=X.N.length
section
variable{X:Cx}{pins:PN}{J:List (Option V)}{H H':Y}{s:Shared}{h':Heap}
theorem Cx.Ok.nofr(ok:X.Ok)(e:X.b.get? b=some o):b ∉ X.fs:=λh=>by have:=(ok.funs.mem h).1;rw[e]at this;cases this
theorem Inv.bs(I:Inv X pins J H s):∀b o,X.b.get? b=some o->s.heap.get? b=some o/\H b=none:=λb o e=>
 ⟨I.base.keep b o (I.o.bs b o e).1 (I.o.bs b o e).2 (I.o.nofr e) (I.o.noex b o e),I.base.free b o (I.o.bs b o e).1 (I.o.bs b o e).2 (I.o.noex b o e)⟩
theorem Inv.bk(I:Inv X pins J H s):∀b o,X.b.get? b=some o->s.heap.get? b=some o:=λb o e=>(I.bs b o e).1
theorem Inv.mod(I:Inv X pins J H s):Mod X.K X.g X.b:=I.o.mod
theorem Inv.kIn(I:Inv X pins J H s):X.K.In s.heap:=I.o.mod.kin.keeps I.bk
theorem Inv.fr(I:Inv X pins J H s):∃m,Fr X.b X.e.locals s.heap m:=
 let ⟨m,h,_⟩:=I.loc
 ⟨m,h,I.bk,bh I.o.bsz I.o.above⟩
theorem Inv.lt(I:Inv X pins J H s):X.e.locals < s.heap.objs.size:=let ⟨_,h,_⟩:=I.loc;h.lt
theorem Inv.sz(I:Inv X pins J H s):X.z.heap.objs.size≤s.heap.objs.size:=bh I.o.above (gB I.lt)
theorem Inv.nofs(I:Inv X pins J H s)(h:s.heap.objs.size≤a):a ∉ X.fs:=λb=>by obtain⟨_,o,x,_⟩:=I.o.funs.mem b;exact absurd (bM (aI x) (bh I.sz h)) (gC _)
theorem Inv.cne(I:Inv X pins J H s):∀x c,X.e.cells.lookup x=some c->c≠X.e.locals:=λx c e z=>by obtain⟨v,o,n,hd⟩:=I.cell x c e;obtain⟨m,⟨o',es,p,a,h,_⟩,_⟩:=I.loc;rw[z,a]at n;cases n;rw[h]at hd;cases hd
theorem Inv.funs(I:Inv X pins J H s):s.heap.FunFrames X.b X.o:=by
 have all:∀(l:List Env),(∀b ∈ D_ l,b ∈ X.fs)->X.z.heap.FunFrames X.b l->s.heap.FunFrames X.b l:=by
  intro l;induction l with
  |nil=>intro _ _;trivial
  |cons n r i=>
   intro a c;obtain⟨k,⟨L,o,f,m,t,hd⟩,p⟩:=c;have h:L ∈ X.fs:=a L (by unfold D_;rw[lq,f];exact aO);obtain⟨q,e⟩:=I.base.slot L o t (I.o.frf L h) h λz=>I.o.exfs L z h
   exact⟨k,⟨L,_,f,m,e,hd⟩,i (λb x=>a b (by unfold D_;rw[lq,f];exact aR _ x)) p⟩
 exact all X.o (λ_ x=>x) I.o.funs
theorem Inv.stack(I:Inv X pins J H s):s.heap.FunFrames X.b X.k:=by
 rcases I.o.stk with e|⟨e,h⟩
 .rw [e];exact I.funs
 .rw [e];obtain⟨m,n,_⟩:=I.loc;refine .cons (by rw[I.o.kind];decide) h n ?_ I.funs;exact vQ (bh I.o.bsz I.o.above)
theorem Inv.stkSub(I:Inv X pins J H s):∀b ∈ D_ X.k,b ∈ X.e.locals::X.fs:=λb h=>by
 rcases I.o.stk with e|⟨e,f⟩
 .rw [e]at h;exact aR _ h
 .rw [e]at h;unfold D_ at h;rw[lq,f]at h;exact h
theorem Inv.stkFree(I:Inv X pins J H s):∀b ∈ D_ X.k,H b=none:=λb h=>by
 rcases aW.mp (I.stkSub b h) with e|h
 .rw [e];exact I.free
 .obtain⟨_,o,x,_⟩:=I.o.funs.mem h;exact I.base.free b o x (I.o.frf b h) λz=>I.o.exfs b z h
theorem Inv.step{g':Array GenState}{t':Nat}{d':Drawn}{ch:List Addr}(I:Inv X pins J H s)
  (a:∀b ∈ ch,(b ∈ X.ex\/X.z.heap.objs.size≤b)/\b≠X.e.locals/\(∀x c,X.e.cells.lookup x=some c->c≠b)/\∀p ∈ X.pn++pins,p.1≠b)
  (t:∀b o,b≠X.e.locals->b ∉ X.fs->b ∉ ch->s.heap.get? b=some o->H b=none->h'.get? b=some o)
  (slot:∀b o,b≠X.e.locals->b ∈ X.fs->b ∉ ch->s.heap.get? b=some o->H b=none->∃D,h'.get? b=some { o with slots:=D }) (f:∀b o,b ∉ ch->s.heap.get? b=some o->H b=none->H' b=none)
  (y:∀b o,b ∉ ch->s.heap.get? b=some o->∃o',h'.get? b=some o')
  (tups:∀b xs,H b=some (.tup xs)->H' b=some (.tup xs)) (F:∀b o u,H b=some (.frz o u)->H' b=some (.frz o u)) (P:∀b,H b=some .tbl->H' b=some .tbl)
  (ns:∀m,s.heap.Ns X.e.locals m->h'.Ns X.e.locals m) (B:kf X.p X.w H' h') (T:AllBare g') :
  Inv X pins J H' { s with heap:=h',gens:=g',drawn:=d',toks:=t' }:=by
 have L:∀b o,X.z.heap.get? b=some o->b≠X.e.locals:=λb o e=>bc (bM (aI e) I.o.above);have C:∀b o,X.z.heap.get? b=some o->b ∉ X.ex->b ∉ ch:=λb o e h j=>by
  rcases(a b j).1 with z|z
  .exact h z
  .exact absurd (bM (aI e) z) (gC _)
 have K:∀x c,X.e.cells.lookup x=some c->∀v,s.heap.IsCell c v->h'.IsCell c v:=λx c e v Z=>by
  obtain⟨o,S,hd⟩:=Z;have w:c ∉ ch:=λz=>(a c z).2.2.1 x c e rfl;by_cases G:c ∈ X.fs
  .obtain⟨D,q⟩:=slot c o (I.cne x c e) G w S (I.freeC x c e);exact⟨_,q,hd⟩
  .exact⟨o,t c o (I.cne x c e) G w S (I.freeC x c e),hd⟩
 refine⟨I.o,I.os,T,⟨λb o e n j h=>?_,λb o e n j h=>?_,λb o e n h=>?_,λb o e h=>?_,λb xs e=>tups b xs (I.base.tups b xs e),λb o xs e=>F b o xs (I.base.frzs b o xs e),λb e=>P b (I.base.tbls b e)⟩,?_,λx c e=>?_,?_,λx c e=>?_,λp M=>?_,B,I.len⟩
 .exact t b o (L b o e) j (C b o e h) (I.base.keep b o e n j h) (I.base.free b o e n h)
 .obtain⟨D,g⟩:=I.base.slot b o e n j h;obtain⟨E,A⟩:=slot b _ (L b o e) j (C b o e h) g (I.base.free b o e n h);exact⟨E,A⟩
 .obtain⟨o',g⟩:=I.base.there b o e h;exact f b o' (C b o e h) g (I.base.free b o e n h)
 .obtain⟨o',g⟩:=I.base.there b o e h;exact y b o' (C b o e h) g
 .obtain⟨m,W,V⟩:=I.loc;refine⟨m,ns m W,λi x v g A R=>?_⟩;obtain⟨u,r,l⟩:=V i x v g A R;refine⟨u,r,?_⟩;rcases l with l|⟨k,c,e,z⟩
  .exact .inl l
  .exact .inr ⟨k,c,e,K x c e _ z⟩
 .obtain⟨v,z⟩:=I.cell x c e;exact⟨v,K x c e v z⟩
 .obtain⟨m,⟨o,_,_,S,_⟩,_⟩:=I.loc;exact f _ o (λz=>(a _ z).2.1 rfl) S I.free
 .obtain⟨v,o,S,hd⟩:=I.cell x c e;exact f c o (λz=>(a c z).2.2.1 x c e rfl) S (I.freeC x c e)
 .obtain⟨e,n,N,Q,d⟩:=I.pin p M;have w:p.1 ∉ ch:=λz=>(a p.1 z).2.2.2 p M rfl;exact⟨t p.1 p.2 N Q w e n,f p.1 p.2 w e n,N,Q,d⟩
theorem Inv.un{t':Nat}(I:Inv X pins J H s)(u:Un X.fs [] H H' s.heap h')(k:kf X.p X.w H' h'):Inv X pins J H' { s with heap:=h',toks:=t' }:=by
 obtain⟨m,⟨o,es,q,f,r⟩,_⟩:=id I.loc;obtain⟨l,L⟩:=u.any f I.free (by simp);exact I.step (g':=s.gens) (d':=s.drawn) (ch:=[]) (λ_ z=>nomatch z) (λb o _ a _ e n=>u.keep b o e n a (by simp)) (λb o _ a _ e n=>u.slot b o e n a (by simp)) (λb o _ e n=>u.free b o e n (by simp)) (λb o _ e=>u.there b o e (by simp)) u.tups u.frzs u.tbls (λv c=>by obtain⟨o',x,p,h,t⟩:=c;rw[f]at h;cases h;exact⟨_,x,p,L,t⟩) k I.bare
theorem Inv.call{g':Array GenState}{t':Nat}{d':Drawn}{ch:List Addr}(I:Inv X pins J H s)(u:Un (D_ X.k) ch H H' s.heap h')(q:kf X.p X.w H' h')(g:AllBare g')
  (a:∀b ∈ ch,(b ∈ X.ex\/X.z.heap.objs.size≤b)/\b≠X.e.locals/\(∀x c,X.e.cells.lookup x=some c->c≠b)/\∀p ∈ X.pn++pins,p.1≠b) :
  Inv X pins J H' { s with heap:=h',gens:=g',drawn:=d',toks:=t' }:=by
 obtain⟨m,⟨o,es,j,v,r⟩,_⟩:=id I.loc;obtain⟨y,L⟩:=u.any v I.free λz=>(a _ z).2.1 rfl;exact I.step (ch:=ch) a (λb o L d h e n=>u.keep b o e n (λz=>(aW.mp (I.stkSub b z)).elim L d) h) (λb o _ _ h e n=>u.any e n h) (λb o h e n=>u.free b o e n h) (λb o h e=>u.there b o e h) u.tups u.frzs u.tbls (λl w=>by obtain⟨o',t,f,k,i⟩:=w;rw[v]at k;cases k;exact⟨_,t,f,L,i⟩) q g
theorem Inv.turned{t':Nat}{i:Addr}(I:Inv X pins J H s)(k:∀b o,b≠i->s.heap.get? b=some o->h'.get? b=some o)(g:H i=none)(L:i≠X.e.locals)
  (h1:i ∈ X.ex\/X.z.heap.objs.size≤i) (h2:∀x c,X.e.cells.lookup x=some c->c≠i) (f:∀p ∈ X.pn++pins,p.1≠i):Inv X pins J H { s with heap:=h',toks:=t' }:=by
 have t:∀b u,H b=some u->b≠i:=λb u e z=>by rw[z,g]at e;cases e
 refine I.step (g':=s.gens) (d':=s.drawn) (ch:=[i]) (λb d=>?_) (λb o _ _ h e _=>k b o (λz=>h (by simp[z])) e) (λb o _ _ h e _=>⟨o.slots,k b o (λz=>h (by simp[z])) e⟩) (λ_ _ _ _ n=>n)
  (λb o h e=>⟨o,k b o (λz=>h (by simp[z])) e⟩) (λ_ _ e=>e) (λ_ _ _ e=>e) (λ_ e=>e) (λm w=>?_) (λb u e=>?_) I.bare
 .have e:b=i:=by simpa using d
  subst e;exact⟨h1,L,h2,f⟩
 .obtain⟨o,es,a,j,r⟩:=w;exact⟨o,es,a,k _ o (aK L) j,r⟩
 .refine (I.h b u e).stay (λc v h q=>k c v ?_ q) (λ_ q=>q) λ_ _ q=>q;rcases h with z|z
  .rw [z];exact t b u e
  .exact t c _ z
theorem Inv.tok(I:Inv X pins J H s)(t:Nat):Inv X pins J H { s with toks:=t }:=I.un (h':=s.heap) (t':=t) Un.refl I.h
theorem Inv.kept{t':Nat}(I:Inv X pins J H s)(k:∀b u,s.heap.get? b=some u->h'.get? b=some u):Inv X pins J H { s with heap:=h',toks:=t' }:=I.un (Un.kept k) (I.h.kept k)
theorem Inv.laid{a:Addr}{o:HO}{t':Nat}(I:Inv X pins J H s)(k:∀b u,s.heap.get? b=some u->h'.get? b=some u)(h:s.heap.objs.size≤a)(n:cT X.p X.w (bN H a o) h' a o) :
  Inv X pins J (bN H a o) { s with heap:=h',toks:=t' }:=I.un (Un.laid k h (I.h.fresh h)) (I.h.laid k h n)
theorem Inv.write{x e:Addr}{o:HO}{t:Nat}(I:Inv X pins J H s)(m:Nl (H x))(a:e=x\/H e=some (.own x))(k:∀b u,b≠e->s.heap.get? b=some u->h'.get? b=some u)(h:∃u,h'.get? e=some u)
  (n:cT X.p X.w (bN H x o) h' x o):Inv X pins J (bN H x o) { s with heap:=h',toks:=t }:=I.un (Un.write m a k h) (I.h.write m a k h n)
theorem Inv.pins_of(I:Inv X pins J H s)(h:∀p ∈ q,s.heap.get? p.1=some p.2/\H p.1=none/\p.1≠X.e.locals/\p.1 ∉ X.fs/\∀v,p.2.data≠.cell v):Inv X q J H s:=
 ⟨I.o,I.os,I.bare,I.base,I.loc,I.cell,I.free,I.freeC,λp x=>(fO.mp x).elim (λz=>I.pin p (lr _ z)) (h p),I.h,I.len⟩
theorem u1{N:LS}(s:N.Nodup){i j:Nat}{x:Str}(a:N[i]? = some x)(b:N[j]? = some x):i=j:=by obtain⟨h1,e⟩:=aP.mp a;obtain⟨h2,h⟩:=aP.mp b;exact(List.getElem_inj s).mp (e.trans h.symm)
theorem qJ{M:Model}{A:Around}{E:VP}{i:Nat}{x:Str}{v:V}{u:Value}{Q:Unit->Shared->Prop}(I:Inv X pins J H s)(hN:X.N.Nodup)(hi:X.N[i]? = some x)(l:Loc X.e.scope x)(r:RelV v u)
  (h:∀s',Inv X pins (J.set i (some v)) H s'->(∃a,eW a s.heap s'.heap/\(a=X.e.locals\/X.e.cells.lookup x=some a))->Q () s') (hf:X.fn x=true\/X.e.scope.names.lookup x=some .local:=by first|exact .inl rfl|exact .inr rfl|assumption):wpAny M A (storeName X.e x u) Q E s:=by
 obtain⟨m,hn,hl⟩:=id I.loc;have N:(X.e.scope.kind == .class ||(X.e.scope.kind == .module && X.e.locals != X.e.globals))=false:=by rw[I.o.kind];rfl
 have R:i < J.length:=by rw[I.len];exact(aP.mp hi).1
 have P:=I.cne;have w:∀{a:Addr}{h':Heap},(∃o,s.heap.get? a=some o/\H a=none)->eW a s.heap h'->kf X.p X.w H h':=λ{a h'} ha f b ob e=>by
  obtain⟨_,_,S⟩:=ha;refine(I.h b ob e).stay (λc w' g q=>(f.2 c ?_).trans q) (λ_ q=>q) λ_ _ q=>q;rintro rfl;rcases g with rfl|g
  .rw [S]at e;cases e
  .rw [S]at g;cases g
 rcases l with K|K
 .refine wpAny_storeName_local K hn (λh' hn' f=>?_) N;obtain⟨oL,_,_,hoL,_⟩:=id hn;refine h _ ⟨I.o,I.os,I.bare,⟨λb o e n B l=>?_,λb o e n B l=>?_,I.base.free,λb o e l=>?_,I.base.tups,I.base.frzs,I.base.tbls⟩,⟨_,hn',λj y v' t F e3=>?_⟩,λy c e=>?_,I.free,I.freeC,λp hp=>?_,w ⟨oL,hoL,I.free⟩ f,by simpa using I.len⟩ ⟨_,f,.inl rfl⟩
  .exact (f.2 b (bc (bM (aI e) I.o.above))).trans (I.base.keep b o e n B l)
  .obtain⟨sl,t⟩:=I.base.slot b o e n B l;exact⟨sl,(f.2 b (bc (bM (aI e) I.o.above))).trans t⟩
  .obtain⟨o',t⟩:=I.base.there b o e l;exact⟨o',(f.2 b (bc (bM (aI e) I.o.above))).trans t⟩
  .by_cases D:j=i
   .subst D;rw[hi]at t;cases t;rw[cC R]at F;cases F;exact⟨u,r,.inl ⟨K,by simp⟩⟩
   .rw [bg (aK D)]at F;obtain⟨u',r',q⟩:=hl j y v' t F e3;refine⟨u',r',?_⟩;rcases q with ⟨k,e⟩|⟨k,c,e,z⟩
    .refine .inl ⟨k,?_⟩;have:y≠x:=λe=>D (u1 hN t (e ▸ hi));simp[this,e]
    .exact .inr ⟨k,c,e,z.sameBut f (P y c e)⟩
  .obtain⟨w',z⟩:=I.cell y c e;exact⟨w',z.sameBut f (P y c e)⟩
  .obtain⟨e,n,ne,nf,d⟩:=I.pin p hp;exact⟨(f.2 p.1 ne).trans e,n,ne,nf,d⟩
 .have C:X.fn x=true:=by
   rcases hf with z|z
   .exact z
   .rw [z]at K;cases K
  obtain⟨c,g⟩:=I.o.has x (.inl K);obtain⟨w',z⟩:=I.cell x c g;refine wpAny_storeName_cell I.o.kind K g z (λh' G f=>?_);obtain⟨oc,T,W⟩:=id z;refine h { s with heap:=h' } ⟨I.o,I.os,I.bare,⟨λb o e n B l=>?_,λb o e n B l=>?_,I.base.free,λb o e l=>?_,I.base.tups,I.base.frzs,I.base.tbls⟩,⟨m,hn.sameBut f (aK (P x c g)),λj y v' t F e3=>?_⟩,λy Z e=>?_,I.free,I.freeC,λp hp=>?_,w ⟨oc,T,I.freeC x c g⟩ f,by simpa using I.len⟩ ⟨c,f,.inr g⟩
  .exact (f.2 b (bc (bM (aI e) (I.o.cab x c C g)))).trans (I.base.keep b o e n B l)
  .obtain⟨sl,t⟩:=I.base.slot b o e n B l;exact⟨sl,(f.2 b (bc (bM (aI e) (I.o.cab x c C g)))).trans t⟩
  .obtain⟨o',t⟩:=I.base.there b o e l;exact⟨o',(f.2 b (bc (bM (aI e) (I.o.cab x c C g)))).trans t⟩
  .by_cases D:j=i
   .subst D;rw[hi]at t;cases t;rw[cC R]at F;cases F;exact⟨u,r,.inr ⟨.inl K,c,g,G⟩⟩
   .rw [bg (aK D)]at F;obtain⟨u',r',q⟩:=hl j y v' t F e3;refine⟨u',r',?_⟩;rcases q with q|⟨k,Z,e,z'⟩
    .exact .inl q
    .refine .inr ⟨k,Z,e,z'.sameBut f ?_⟩;rintro rfl;exact D (u1 hN t (I.o.inj _ _ _ e g ▸ hi))
  .by_cases L:Z=c
   .subst L;exact⟨_,G⟩
   .obtain⟨w2,z2⟩:=I.cell y Z e;exact⟨w2,z2.sameBut f L⟩
  .obtain⟨e,n,ne,nf,d⟩:=I.pin p hp;refine⟨(f.2 p.1 ?_).trans e,n,ne,nf,d⟩;intro q;rw[q,T]at e;have q':oc=p.2:=du e;exact d w' (by rw[<- q'];exact W)
theorem uO(I:Inv X pins J H s)(N:X.N.Nodup)(hi:X.N[i]? = some x)(e:Loc X.e.scope x)(r:RelV v u)
  (h:∀s',Inv X pins (J.set i (some v)) H s'->Q () s') (f:X.fn x=true\/X.e.scope.names.lookup x=some .local:=by first|exact .inl rfl|exact .inr rfl|assumption):wpAny M A (storeName X.e x u) Q E s:=
 qJ I N hi e r (λs' a _=>h s' a) f
theorem Inv.call'(I:Inv X pins J H s)(n:s'.os=s.os)(u:Un (D_ X.k) q H H' s.heap s'.heap)(o:kf X.p X.w H' s'.heap)(a:AllBare s'.gens)
  (h:∀b ∈ q,(b ∈ X.ex\/X.z.heap.objs.size≤b)/\b≠X.e.locals/\(∀x c,X.e.cells.lookup x=some c->c≠b)/\∀p ∈ X.pn++pins,p.1≠b):Inv X pins J H' s':=by
 obtain⟨h',g,d,t,o'⟩:=s';have e:o'=s.os:=n;subst e;exact I.call (g':=g) (t':=t) (d':=d) u o a h
end
noncomputable abbrev XK:=Value->Option Addr->Y->Prop
noncomputable abbrev St:=List (Option V)
noncomputable abbrev VK:=V->Y->Prop
noncomputable abbrev TE:=St->Y->VK->Prop
noncomputable abbrev TT:=St->Y->(Bool->Y->Prop)->Prop
noncomputable abbrev TA:=St->Y->(List V->Y->Prop)->Prop
structure Ends where
 nx:St->Y->Prop
 rt:VK
 bk:St->Y->Prop:=λ_ _=>False
 ct:St->Y->Prop:=λ_ _=>False
noncomputable abbrev TS:=Ends->St->Y->Prop
def EP(X:Cx)(pins:PN)(J:St)(Q:VK)(u:Value)(s':Shared):Prop:=∃v H',Inv X pins J H' s'/\RelV v u/\Q v H'
def TP(X:Cx)(pins:PN)(J:St)(Q:Bool->Y->Prop)(b:Bool)(s':Shared):Prop:=∃H',Inv X pins J H' s'/\Q b H'
def AP(X:Cx)(pins:PN)(J:St)(Q:List V->Y->Prop)(j:LV)(s':Shared):Prop:=∃v H',Inv X pins J H' s'/\bb v j/\Q v H'
def SP(X:Cx)(pins:PN)(D:Ends)(f:Flow)(s':Shared):Prop:=
 match f with
 | .next=>∃h H',Inv X pins h H' s'/\D.nx h H'
 | .brk=>∃h H',Inv X pins h H' s'/\D.bk h H'
 | .cont=>∃h H',Inv X pins h H' s'/\D.ct h H'
 | .ret u=>∃v h H',Inv X pins h H' s'/\RelV v u/\D.rt v H'
variable{α:Type}
noncomputable abbrev wx(X:Cx)(m:Sem α):=wpAny (model X.p X.w) X.A m
def O(X:Cx)(e:Expr)(t:TE):Prop:=
 ∀(pins:PN)(s:Shared)(J:St)(H:Y)(Q:VK),Inv X pins J H s->t J H Q->wx X (eval e X.e) (EP X pins J Q) X.xe s
def PT(X:Cx)(e:Expr)(t:TT):Prop:=
 ∀(pins:PN)(s:Shared)(J:St)(H:Y)(Q:Bool->Y->Prop),Inv X pins J H s->t J H Q->wx X (isTrue e X.e (eval e X.e)) (TP X pins J Q) X.xe s
def PW(X:Cx)(e:Expr)(t:TT):Prop:=
 ∀(w:Sem Value)(pins:PN)(s:Shared)(J:St)(H:Y)(Q:Bool->Y->Prop),Inv X pins J H s->t J H Q->wx X (isTrue e X.e w) (TP X pins J Q) X.xe s
variable{X:Cx}{e:Expr}
theorem PW.pt(h:PW X e t):PT X e t:=h _
def PA(X:Cx)(es:Ab)(t:TA):Prop:=
 ∀(B:Pos)(pins:PN)(s:Shared)(J:St)(H:Y)(Q:List V->Y->Prop),Inv X pins J H s->t J H Q->wx X (spliced (backTo B (starEach es X.e))) (AP X pins J Q) X.xe s
def PS(X:Cx)(st:Stmt)(t:TS):Prop:=
 ∀(pins:PN)(s:Shared)(J:St)(H:Y)(D:Ends),Inv X pins J H s->t D J H->wx X (exec st X.e) (SP X pins D) X.xe s
def nQ(X:Cx)(st:List Stmt)(t:TS):Prop:=
 ∀(pins:PN)(s:Shared)(J:St)(H:Y)(D:Ends),Inv X pins J H s->t D J H->wx X (execs st X.e) (SP X pins D) X.xe s
variable{M:Model}{A:Around}{E:VP}{s:Shared}
theorem cK(h:wpAny M A t Q E s)(e:∀a s,Q a s->q a s):wpAny M A t q E s:=cy h e λ_ _ x=>x
section
variable{X:Cx}
noncomputable def OB(i:Nat):TE:=λJ H Q=>∃v,J[i]? = some (some v)/\Q v H
noncomputable def tC(v:V):TE:=λ_ H Q=>Q v H
theorem Ji(N:X.N[i]? = some x)(q:K' X.e.scope x)(hd:(x == ("__debug__":Str))=false:=by decide)(d:(x == ("__classdict__":Str))=false:=by decide):O X (.Name x B) (OB i):=by
 intro pins s J H Q I h;obtain⟨v,e,h⟩:=h;obtain⟨m,p,b⟩:=I.loc;obtain⟨u,r,l⟩:=b i x v N e q;have f:EP X pins J Q u s:=⟨v,H,I,r,h⟩;rcases l with ⟨k,t⟩|⟨k,c,n,a⟩
 .exact oY (BK I.o.kind k p t f) hd
 .rcases k with k|k
  .exact oY (wpAny_loadName_cell I.o.kind k n a f) hd
  .exact oY (BJ I.o.kind k n a f d) hd
theorem Jn {i q B}:O X (.Constant (.int i) q B) (tC (.int i)):=λ_ _ _ H _ I h=>wpAny_Constant_int ⟨.int i,H,I.tok _,⟨_,rfl⟩,h⟩
theorem Mj {b q B}:O X (.Constant (.bool b) q B) (tC (.bl b)):=λ_ _ _ H _ I h=>Constant_bool ⟨.bl b,H,I,rfl,h⟩
theorem Jm {q B}:O X (.Constant .none q B) (tC .non):=λ_ _ _ H _ I h=>Constant_none ⟨.non,H,I,rfl,h⟩
theorem Jj {x q B}:O X (.Constant (.str x) q B) (tC (.str x)):=λ_ _ _ H _ I h=>Calls.Constant_str ⟨.str x,H,I.tok _,⟨_,rfl⟩,h⟩
def Gl(X:Cx)(x:Str):Prop:=X.e.kindOf x=some .globalImplicit
theorem tR(I:Inv X pins J H s)(g:Gl X x)(m:X.g x=some u)(h:Q u s)
  (hd:(x == ("__debug__":Str))=false:=by decide):wx X (eval (.Name x B) X.e) Q E s:=
 yk I.o.kind g (Calls.loadGlobal_global (by rw[I.o.glob];exact I.mod.glob.keeps I.bk) m h) hd
theorem iu(I:Inv X pins J H s)(g:Gl X x)(m:X.g x=none)(v:bootBuiltins x=some u)(h:Q u s)
  (n:x≠"__name__":=by decide) (hd:(x == ("__debug__":Str))=false:=by decide):wx X (eval (.Name x B) X.e) Q E s:=by
 obtain⟨b,h1,h2⟩:=I.mod.blt;exact yk I.o.kind g (Calls.loadGlobal_builtin (by rw[I.o.glob];exact I.mod.glob.keeps I.bk) m (by rw[I.o.blt];exact h1.keeps I.bk) ((h2 x n).trans v) h) hd
theorem Gz(g:Gl X x)(m:X.g x=some u)(r:RelV v u)(hd:(x == ("__debug__":Str))=false:=by decide):O X (.Name x B) (tC v):=
 λ_ _ _ H _ I h=>tR I g m ⟨v,H,I,r,h⟩ hd
theorem GA(g:Gl X x)(m:X.g x=none)(a:bootBuiltins x=some u)(r:RelV v u)(n:x≠"__name__":=by decide)(hd:(x == ("__debug__":Str))=false:=by decide):O X (.Name x B) (tC v):=
 λ_ _ _ H _ I h=>iu I g m a ⟨v,H,I,r,h⟩ n hd
variable{a b:Expr}{ta tb:TE}{B:Pos}
variable{tA tB':TT}{rest:Ab}
noncomputable def ON(t u:TT):TT:=λJ H Q=>t J H λc G=>if c=true then u J G Q else Q false G
noncomputable def QP(t u:TT):TT:=λJ H Q=>t J H λc G=>if c=true then Q true G else u J G Q
noncomputable def OG(t:TT):TT:=λJ H Q=>t J H λc G=>Q (!c) G
theorem Gk(x:PT X a tA):PW X (.BoolOp .And [a] B) tA:=by
 intro w pins s J H Q I h;refine isTrue_and (cK (x pins s J H Q I h) λc n e=>?_);cases c with
 |true=>exact isTrue_and_nil e
 |false=>exact e
theorem IY(x:PT X a tA):PW X (.BoolOp .Or [a] B) tA:=by
 intro w pins s J H Q I h;refine isTrue_or (cK (x pins s J H Q I h) λc n e=>?_);cases c with
 |false=>exact isTrue_or_nil e
 |true=>exact e
theorem IZ(e:PT X a tA)(n:PW X (.BoolOp .And (b::rest) B) tB'):PW X (.BoolOp .And (a::b::rest) B) (ON tA tB'):=by
 intro w pins s J H Q I h;refine isTrue_and (cK (e pins s J H _ I h) λc k z=>?_);obtain⟨G,x,q⟩:=z;cases c with
 |true=>exact n w pins k J G Q x q
 |false=>exact⟨G,x,q⟩
theorem Md(e:PT X a tA)(n:PW X (.BoolOp .Or (b::rest) B) tB'):PW X (.BoolOp .Or (a::b::rest) B) (QP tA tB'):=by
 intro w pins s J H Q I h;refine isTrue_or (cK (e pins s J H _ I h) λc k z=>?_);obtain⟨G,x,q⟩:=z;cases c with
 |true=>exact⟨G,x,q⟩
 |false=>exact n w pins k J G Q x q
theorem I_(x:PT X a tA):PT X (.UnaryOp .Not a B) (OG tA):=by intro pins s J H Q I h;exact isTrue_not (x pins s J H (λc G=>Q (!c) G) I h)
noncomputable def LX(ta tb:TE):TE:=λJ H Q=>ta J H λx G=>∃c,x=.bl c/\if c=true then tb J G Q else Q (.bl false) G
noncomputable def OF(ta tb:TE):TE:=λJ H Q=>ta J H λx G=>∃c,x=.bl c/\if c=true then Q (.bl true) G else tb J G Q
noncomputable def LL(ta:TE):TE:=λJ H Q=>ta J H λx G=>∃c,x=.bl c/\Q (.bl (!c)) G
theorem Jk {q} (h:O X a t):O X (.BoolOp q [a] B) t:=λpins s J H Q I hw=>BoolOp_one (h pins s J H Q I hw)
theorem Jq(n:O X a ta)(k:O X (.BoolOp .And (b::rest) B) tb):O X (.BoolOp .And (a::b::rest) B) (LX ta tb):=by
 intro pins s J H Q I h;refine BoolOp_and (cK (n pins s J H _ I h) λv f z=>?_);obtain⟨x,G,e,r,q⟩:=z;obtain⟨c,rfl,q⟩:=q;cases r;refine i3 ?_;cases c with
 |true=>exact k pins f J G Q e q
 |false=>exact⟨.bl false,G,e,rfl,q⟩
theorem Mh(n:O X a ta)(k:O X (.BoolOp .Or (b::rest) B) tb):O X (.BoolOp .Or (a::b::rest) B) (OF ta tb):=by
 intro pins s J H Q I h;refine BoolOp_or (cK (n pins s J H _ I h) λv f z=>?_);obtain⟨x,G,e,r,q⟩:=z;obtain⟨c,rfl,q⟩:=q;cases r;refine i3 ?_;cases c with
 |false=>exact k pins f J G Q e q
 |true=>exact⟨.bl true,G,e,rfl,q⟩
theorem Jl(n:O X a ta):O X (.UnaryOp .Not a B) (LL ta):=by intro pins s J H Q I h;refine UnaryOp_ (cK (n pins s J H _ I h) λv k z=>?_);obtain⟨x,G,e,r,q⟩:=z;obtain⟨c,rfl,q⟩:=q;cases r;exact not_of (i3 ⟨.bl (!c),G,e,rfl,q⟩)
noncomputable def QQ(t:TT)(ta tb:TE):TE:=λJ H Q=>t J H λc G=>if c=true then ta J G Q else tb J G Q
theorem C2(f:PT X c tA)(n:O X a ta)(k:O X b tb):O X (.IfExp c a b B) (QQ tA ta tb):=by
 intro pins s J H Q I h;refine wpAny_IfExp (cK (f pins s J H _ I h) λd e z=>?_);obtain⟨G,x,q⟩:=z;cases d with
 |true=>exact n pins e J G Q x q
 |false=>exact k pins e J G Q x q
end
def fG(K:FG)(H:Y)(a:Addr)(xs:List V):Prop:=
 Rd H a (.lst xs) \/
  ∃(o:Obj)(i:Array Value)(n:Nat),K.lookup a=some o/\o.cls=.type "list"/\o.dict=none/\o.data=.seq i n/\i.size≤sizeLine/\bb xs i.toList
def jw(K:FG)(H:Y)(a:Addr)(xs:List V):Prop:=
 Rd H a (.tup xs) \/
  ∃(o:Obj)(i:Array Value)(n:Nat),K.lookup a=some o/\o.cls=.type "tuple"/\o.dict=none/\o.data=.seq i n/\i.size≤sizeLine/\bb xs i.toList
noncomputable def PU:Value->Option V
 | .none=>some .non
 | .bool b=>some (.bl b)
 | .int i _=>some (.int i)
 | .str x _=>some (.str x)
 | .bytes b _=>some (.byt b)
 | .float b _=>some (.flt b)
 | .ref a=>some (.ref a)
 | .type n=>some (.ty n)
 |_=>none
theorem RelV.abs(r:RelV x u):PU u=some x:=by
 cases x with
 |non=>cases r;rfl
 |bl _=>cases r;rfl
 |int _=>obtain⟨t,rfl⟩:=r;rfl
 |str _=>obtain⟨t,rfl⟩:=r;rfl
 |byt _=>obtain⟨t,rfl⟩:=r;rfl
 |flt _=>obtain⟨t,rfl⟩:=r;rfl
 |ref _=>cases r;rfl
 |ty _=>cases r;rfl
variable{y:V}
theorem RelV.inj(r:RelV x u)(q:RelV y u):x=y:=du (r.abs.symm.trans q.abs)
theorem bb.inj:∀{xs ys:List V}{j:LV},bb xs j->bb ys j->xs=ys
 |_,_,_,.nil,.nil=>rfl
 |_,_,_,.cons r t,.cons h x=>by rw[r.inj h,bb.inj t x]
section
variable{X:Cx}{pins:PN}{J:St}{H:Y}{s:Shared}{a:Addr}{xs ys:List V}
theorem fG.of{K:FG}(h:H a=some (.lst xs)):fG K H a xs:=.inl (.inl h)
theorem Inv.list(I:Inv X pins J H s)(h:fG X.K H a xs):∃i:LV,bb xs i/\PlainL s.heap a i.toArray/\xs.length≤sizeLine:=by
 rcases h with h|⟨o,i,n,k,c,hd,x,f,r⟩
 .obtain⟨z,i,n,r,e⟩:=h.ok I.h;exact⟨i,r,⟨_,n,e,rfl,rfl,rfl⟩,z⟩
 .refine⟨i.toList,r,⟨o,n,I.kIn a o k,c,hd,by simpa using x⟩,?_⟩;have e:=r.length;simp only[jV]at e;lia
theorem Inv.tuple(I:Inv X pins J H s)(h:jw X.K H a xs):∃i:LV,bb xs i/\IsTup s.heap a i.toArray/\xs.length≤sizeLine:=by
 rcases h with h|⟨o,i,n,k,c,_,x,f,r⟩
 .obtain⟨z,i,r,p⟩:=h.ok I.h;exact⟨i,r,p.tup,z⟩
 .refine⟨i.toList,r,⟨o,I.kIn a o k,c,n,by simpa using x⟩,?_⟩;have e:=r.length;simp only[jV]at e;lia
theorem Inv.tupleN(I:Inv X pins J H s)(h:jw X.K H a xs):∃its:LV,bb xs its/\mX s.heap a its.toArray:=by
 rcases h with q|⟨ob,vs,m,e1,e2,e3,e4,_,rv⟩
 .exact⟨_,(q.ok I.h).2.choose_spec⟩
 .exact⟨vs.toList,rv,ob,I.kIn a ob e1,⟨e2,m,by simpa using e4⟩,e3⟩
theorem Inv.list_inj(I:Inv X pins J H s)(h:fG X.K H a xs)(h':fG X.K H a ys):xs=ys:=by
 obtain⟨t,r,⟨o,n,e,_,_,d⟩,_⟩:=I.list h;obtain⟨i,b,⟨o',c,k,_,_,x⟩,_⟩:=I.list h';rw[e]at k;cases k;rw[d]at x;injection x with f _;have:t=i:=by simpa using d8 sh f
 subst this;exact r.inj b
theorem Inv.tuple_inj(I:Inv X pins J H s)(h:jw X.K H a xs)(h':jw X.K H a ys):xs=ys:=by
 obtain⟨t,r,⟨o,e,_,n,d⟩,_⟩:=I.tuple h;obtain⟨i,b,⟨o',k,_,c,x⟩,_⟩:=I.tuple h';rw[e]at k;cases k;rw[d]at x;injection x with f _;have:t=i:=by simpa using d8 sh f
 subst this;exact r.inj b
end
noncomputable abbrev Cx.wish(X:Cx)(E:VP):Cx:={ X with xe:=E }
abbrev Cx.nox(X:Cx):Cx:=X.wish λ_ _=>False
theorem Cx.Ok.wish(ok:X.Ok)(E:VP):(X.wish E).Ok:=
 ⟨ok.mod,ok.kind,ok.glob,ok.blt,ok.above,ok.inj,ok.has,ok.cab,ok.hd,ok.frames,ok.stk,ok.exf,ok.bs,ok.bsz,ok.noex,ok.exfs,ok.funs,ok.frf,ok.tab⟩
theorem Cx.Ok.unwish(ok:(X.wish E).Ok):X.Ok:=
 ⟨ok.mod,ok.kind,ok.glob,ok.blt,ok.above,ok.inj,ok.has,ok.cab,ok.hd,ok.frames,ok.stk,ok.exf,ok.bs,ok.bsz,ok.noex,ok.exfs,ok.funs,ok.frf,ok.tab⟩
section
variable{X:Cx}{pins:PN}{J:St}{H:Y}{s:Shared}{E:VP}
theorem Inv.wish(I:Inv X pins J H s)(E:VP):Inv (X.wish E) pins J H s:=⟨I.o.wish E,I.os,I.bare,I.base,I.loc,I.cell,I.free,I.freeC,I.pin,I.h,I.len⟩
theorem Inv.unwish(I:Inv (X.wish E) pins J H s):Inv X pins J H s:=⟨I.o.unwish,I.os,I.bare,I.base,I.loc,I.cell,I.free,I.freeC,I.pin,I.h,I.len⟩
set_option tactic.hygienic true in
theorem SP.unwish(h:SP (X.wish E) pins D f s'):SP X pins D f s':=by
 cases f with
 |next=>obtain⟨x,H',I,q⟩:=h;exact⟨x,H',I.unwish,q⟩
 |brk=>obtain⟨x,H',I,q⟩:=h;exact⟨x,H',I.unwish,q⟩
 |cont=>obtain⟨x,H',I,q⟩:=h;exact⟨x,H',I.unwish,q⟩
 |ret u=>obtain⟨v,x,H',I,r,q⟩:=h;exact⟨v,x,H',I.unwish,r,q⟩
theorem nQ.nox{st:List Stmt}{t:TS}(h:nQ X.nox st t):nQ X st t:=λpins s J H D I hw=>
 cy (h pins s J H D (I.wish _) hw) (λ_ _ q=>q.unwish) λ_ _ z=>False.elim z
end
section
variable{X:Cx}{st:Stmt}{rest:List Stmt}{t u:TS}{e:Expr}{te:TE}{B:Pos}
noncomputable def LN:TS:=λD J H=>D.nx J H
noncomputable def OD(t u:TS):TS:=λD J H=>t { D with nx:=u D } J H
theorem Gn:nQ X [] LN:=λ_ _ J H _ I h=>v5 ⟨J,H,I,h⟩
set_option tactic.hygienic true in
theorem CS(h1:PS X st t)(h2:nQ X rest u):nQ X (st::rest) (OD t u):=by
 intro pins s J H D I h;refine BB (cK (h1 pins s J H { D with nx:=u D } I h) λf e q=>?_);cases f with
 |next=>obtain⟨a,H',x,q⟩:=q;exact h2 pins e a H' D x q
 |ret v=>exact q
 |brk=>exact q
 |cont=>exact q
set_option tactic.hygienic true in
theorem Gm(h1:PS X st t):nQ X [st] t:=by
 intro pins s J H D I h;refine BB (cK (h1 pins s J H D I h) λf x q=>?_);cases f with
 |next=>exact v5 q
 |ret v=>exact q
 |brk=>exact q
 |cont=>exact q
noncomputable def LQ:TS:=λD J H=>D.ct J H
theorem uV:PS X (.Continue B) LQ:=λ_ _ J H _ I h=>wpAny_Continue ⟨J,H,I,h⟩
theorem Inv.quiet(I:Inv X pins J H s):interactive X.e=false:=by simp[interactive,I.o.kind]
noncomputable def LP(te:TE):TS:=λD J H=>te J H λ_ G=>D.nx J G
theorem Go(n:O X e te)(k:swapsWith e none B.line X.e=pure false:=by rfl):PS X (.Expr e B) (LP te):=by intro pins s J H D I h;exact wpAny_Expr_any (cK (n pins s J H _ I h) λv f z=>by obtain⟨x,G,a,r,q⟩:=z;exact⟨J,G,a,q⟩) I.quiet k
noncomputable def OE(te:TE):TS:=λD J H=>te J H D.rt
theorem Jb(n:O X e te):PS X (.Return (some e) B) (OE te):=by intro pins s J H D I h;exact wpAny_Return_some (cK (n pins s J H _ I h) λv k z=>by obtain⟨x,G,a,r,q⟩:=z;exact⟨x,J,G,a,r,q⟩)
noncomputable def OI(c:TT)(t u:TS):TS:=λD J H=>c J H λb G=>if b=true then t D J G else u D J G
theorem Me{c:Expr}{a b:List Stmt}{tc:TT}(f:PT X c tc)(n:nQ X a t)(k:nQ X b u):PS X (.If c a b B) (OI tc t u):=by
 intro pins s J H D I h;refine wpAny_If (cK (f pins s J H _ I h) λd e z=>?_);obtain⟨G,x,q⟩:=z;cases d with
 |true=>exact n pins e J G D x q
 |false=>exact k pins e J G D x q
noncomputable def Ci:TS:=λ_ _ _=>False
theorem CT:PS X st Ci:=λ_ _ _ _ _ _ h=>h.elim
theorem AF:nQ X q Ci:=λ_ _ _ _ _ _ h=>h.elim
end
noncomputable abbrev TG:=V->St->Y->(St->Y->Prop)->Prop
noncomputable abbrev KL:=List V->St->Y->(St->Y->Prop)->Prop
def PG(X:Cx)(a:Expr)(t:TG):Prop:=
 ∀(pins:PN)(s:Shared)(J:St)(H:Y)(v:V)(u:Value)(Q:St->Y->Prop),Inv X pins J H s->RelV v u->t v J H Q ->
  wx X (assign a X.e u) (λ_ s'=>∃h H',Inv X pins h H' s'/\Q h H') X.xe s
def Nk(X:Cx)(x:Ab)(t:KL):Prop:=
 ∀(pins:PN)(s:Shared)(J:St)(H:Y)(v:List V)(j:LV)(Q:St->Y->Prop),Inv X pins J H s->bb v j->t v J H Q ->
  wx X (assignInOrder ((assignEach x X.e).map (·.2)) j) (λ_ s'=>∃h H',Inv X pins h H' s'/\Q h H') X.xe s
noncomputable abbrev KJ:=V->V->V->Y->(Y->Prop)->Prop
def Ni(X:Cx)(t:KJ):Prop:=
 ∀(pins:PN)(s:Shared)(J:St)(H:Y)(o i v:V)(h iv u:Value)(Q:Y->Prop),Inv X pins J H s->RelV o h->RelV i iv->RelV v u->t o i v H Q ->
  wx X (setItem h iv u) (λ_ s'=>∃H',Inv X pins J H' s'/\Q H') X.xe s
section
variable{X:Cx}{B:Pos}
noncomputable def HN(i:Nat):TG:=λv J H Q=>Q (J.set i (some v)) H
theorem Gx(N:X.N.Nodup)(hi:X.N[i]? = some x)(e:Loc X.e.scope x)(f:X.fn x=true\/X.e.scope.names.lookup x=some .local:=by first|exact .inl rfl|exact .inr rfl|assumption):PG X (.Name x B) (HN i):=by intro pins s J H v u Q I r h;exact BG (uO I N hi e r (λs' a=>⟨_,H,a,h⟩) f)
noncomputable def Pz:KL:=λv J H Q=>v=[]/\Q J H
noncomputable def MZ(t:TG)(u:KL):KL:=λs J H Q=>∃v r,s=v::r/\t v J H λh H'=>u r h H' Q
theorem Gw:Nk X [] Pz:=by intro pins s J H v j Q I r h;obtain⟨e,h⟩:=h;subst e;cases r;exact assignInOrder_nil ⟨J,H,I,h⟩
theorem CY{e:Expr}{es:Ab}{t:TG}{u:KL}(h1:PG X e t)(h2:Nk X es u)
  (k:(assignEach (e::es) X.e).map (·.2)=assign e X.e::(assignEach es X.e).map (·.2):=by rfl):Nk X (e::es) (MZ t u):=by
 intro pins s J H m j Q I r h;obtain⟨v,c,n,h⟩:=h;subst n;cases r with
 |cons r f=>rw[k];refine assignInOrder_cons (cK (h1 pins s J H _ _ _ I r h) λ_ b z=>?_);obtain⟨a,G,x,q⟩:=z;exact h2 pins b a G _ _ Q x f q
noncomputable def Px(K:FG)(n:Nat)(t:KL):TG:=λv J H Q=>∃a xs,v=.ref a/\jw K H a xs/\xs.length=n/\t xs J H Q
theorem Jg(p:X.c=true)(h:Nk X es t)
  (q:(assignEach es X.e).length=n:=by rfl) (x:(assignEach es X.e).findIdx? (·.1)=none:=by rfl):PG X (.Tuple es k B) (Px X.K n t):=by
 intro pins s J H v u Q I r hw;obtain⟨a,xs,m,d,l,hw⟩:=hw;subst m;cases r;obtain⟨i,f,w,z⟩:=I.tuple d;refine assign_Tuple_tuple (I.o.hd p) w (by simp[q,<- l,f.length]) x λh' g=>?_
 have c:Inv X pins J H { s with heap:=h' }:=I.kept (t':=s.toks) λb o e=>g b o (bc (aI e)) e;exact h pins _ J H xs _ Q c (by simpa using f) hw
noncomputable def Py(to x:TE)(t:KJ):TG:=λv J H Q=>to J H λo G=>x J G λi H2=>t o i v H2 λh=>Q J h
theorem Jh{o i:Expr}{to a:TE}{t:KJ}(c:O X o to)(hi:O X i a)(m:Ni X t)
  (b:∀v,assign (.Subscript o i B) X.e v=(do
   let q <- holding [v] (eval o X.e)
   let iv <- holding [v,q] (eval i X.e)
   standAt B
   holding [v,q,iv] (setItem q iv v)
   release [v,q,iv] []):=by intro _;rfl):PG X (.Subscript o i B) (Py to a t):=by
 intro pins s J H v u Q I r h;rw[b];refine ab (eK (cK (c pins s J H _ I h) λq l z=>?_));obtain⟨x,G,n,g,p⟩:=z;refine ab (eK (cK (hi pins l J G _ n p) λiv S z=>?_));obtain⟨y,H2,k,j,d⟩:=z;refine ab (vY (ab (eK (cK (m pins S J H2 x y v q iv u _ k g j r d) λ_ F z=>?_))));obtain⟨e,f,w⟩:=z;exact wpAny_release ⟨J,e,f,w⟩
noncomputable def LW(te:TE)(g:TG):TS:=λD J H=>te J H λx G=>g x J G D.nx
theorem CU{tg e:Expr}{te:TE}{g:TG}(n:O X e te)(k:PG X tg g)(f:swapsWithSole [tg] e B.line X.e=pure false:=by rfl)(hw:swappedStores [tg] e X.e=pure none:=by rfl)
  (h1:(assignEach [tg] X.e).map (·.2)=[assign tg X.e]:=by rfl):PS X (.Assign [tg] e B) (LW te g):=by
 intro pins s J H D I h;refine wpAny_Assign_stores (cK (n pins s J H _ I h) λv c z=>?_) f hw;obtain⟨x,G,a,r,b⟩:=z;rw[h1];exact cK (k pins c J G x v _ a r b) λ_ m q=>q
theorem Ja(N:X.N.Nodup)(hi:X.N[i]? = some x)(c:Loc X.e.scope x)(k:O X e te)(b:swapsWith e (some (.Name x pos')) B.line X.e=pure false:=by rfl)(f:X.fn x=true\/X.e.scope.names.lookup x=some .local:=by first|exact .inl rfl|exact .inr rfl|assumption) :
  PS X (.Assign [.Name x pos'] e B) (LW te (HN i)):=by
 intro pins s J H D I h;refine wpAny_Assign_Name (cK (k pins s J H _ I h) λv m z=>?_) b;obtain⟨y,G,a,r,q⟩:=z;exact uO a N hi c r (λt n=>⟨_,G,n,q⟩) f
end
structure It where
 go:Nat->Y->Prop
 yld:Nat->Y->V->Y->Prop
 stop:Nat->Y->Prop
def qe(X:Cx)(pins:PN)(H:Y)(b:Addr):Prop:=
 H b=none/\b≠X.e.locals/\b ∉ X.fs/\(b ∈ X.ex\/X.z.heap.objs.size≤b)/\(∀x c,X.e.cells.lookup x=some c->c≠b)/\∀p ∈ X.pn++pins,p.1≠b
variable{pins:PN}{J:St}
theorem Inv.fpOk(I:Inv X pins J H s)(h:s.heap.objs.size≤b)(n:H' b=none):qe X pins H' b:=by
 refine⟨n,bL (bM I.lt h),I.nofs h,.inr (bh I.sz h),λx c e z=>?_,λp a z=>?_⟩
 .obtain⟨v,q⟩:=I.cell x c e;exact absurd (bM q.lt (by rw[z];exact h)) (gC _)
 .exact absurd (bM (aI (I.pin p a).1) (by rw[z];exact h)) (gC _)
structure Turn(P:Program)(w:World)(K:FG)(tg:Expr)(J9:It)(fp:List Addr)(it:Addr)(tn:Nat->Heap->Prop):Prop where
 mem:it ∈ fp
 obj:∀i h,tn i h->∀b ∈ fp,∃o,h.get? b=some o/\∀v,o.data≠.cell v
 keep:∀i h h',tn i h->(∀b ∈ fp,∀o,h.get? b=some o->h'.get? b=some o)->tn i h'
 item:∀(X:Cx),X.p=P->X.w=w->X.K=K->X.c=true->∀(i:Nat)(pins:PN)(s:Shared)(J:St)(H:Y)(E:VP),Inv X pins J H s->(∀b ∈ fp,qe X pins H b)->tn i s.heap->J9.go i H ->
  wpAny (model P w) X.A (pyNext (.ref it)) (fun r s1=>∃u,r=some u /\
   wpAny (model P w) X.A (letOwnedTupleGo tg (.ref it) u) (λ_ s2=>∃x H',Inv X pins J H' s2/\RelV x u/\J9.yld i H x H'/\tn (i+1) s2.heap/\∀b ∈ fp,H' b=none) E s1) E s
 done:∀(X:Cx),X.p=P->X.w=w->X.K=K->X.c=true->∀(i:Nat)(pins:PN)(s:Shared)(J:St)(H:Y)(E:VP),Inv X pins J H s->(∀b ∈ fp,qe X pins H b)->tn i s.heap->J9.stop i H ->
  wpAny (model P w) X.A (pyNext (.ref it)) (λr s1=>r=none/\Inv X pins J H s1) E s
 self:∀(A:Around)(i:Nat)(s:Shared)(Q:VP)(E:VP),tn i s.heap->Q (.ref it) s->wpAny (model P w) A (pyIter (.ref it)) Q E s
noncomputable abbrev TI:=St->Y->(It->Y->Prop)->Prop
def Nj(X:Cx)(pins:PN)(J:St)(tg:Expr)(R:It->Y->Prop)(i:Value)(s:Shared):Prop:=
 ∃(t:Addr)(f:List Addr)(n:Nat->Heap->Prop)(h:It)(H':Y),i=.ref t/\Inv X pins J H' s/\Turn X.p X.w X.K tg h f t n/\n 0 s.heap/\(∀b ∈ f,qe X pins H' b)/\R h H'
def PI(X:Cx)(tg iter:Expr)(w:TI):Prop:=
 ∀(pins:PN)(s:Shared)(J:St)(H:Y)(R:It->Y->Prop),Inv X pins J H s->w J H R ->
  wx X (eval iter X.e) (λv h=>wx X (pyIter v) (Nj X pins J tg R) X.xe h) X.xe s
variable{tg:Expr}
theorem D6(e:s.heap.get? q=some o)(c:o.cls=.type n)(hd:o.data=.fields z)
    (a:["enumerate","zip","dict_itemiterator","dict_reverseitemiterator","odict_iterator","itertools.zip_longest","itertools.pairwise"].contains n=false) (x:Q () s):wpAny M A (letOwnedTupleGo tg (.ref q) u) Q E s:=by
  unfold letOwnedTupleGo;cases tg<;>first
    |exact ah x
    | (cases u <;> first
        |exact ah x
        | (refine ab (wpAny_load e ?_)
           rw[c,hd];show wpAny M A (if (["enumerate","zip","dict_itemiterator","dict_reverseitemiterator","odict_iterator","itertools.zip_longest","itertools.pairwise"].contains n && z[0]? == some (rawInt _))=true then _ else _) Q E s;rw[al (by intro h;rw[a,yc]at h;cases h)];exact ah x))
noncomputable def No(K:FG)(a:Addr):It:=
 ⟨λi H=>∃xs x,fG K H a xs/\xs[i]? = some x,λi H x H'=>H'=H/\∀xs,fG K H a xs->xs[i]? = some x,λi H=>∃xs,fG K H a xs/\xs.length≤i⟩
noncomputable def Qz(K:FG)(a:Addr):It:=
 ⟨λi H=>∃xs x,jw K H a xs/\xs[i]? = some x,λi H x H'=>H'=H/\∀xs,jw K H a xs->xs[i]? = some x,λi H=>∃xs,jw K H a xs/\xs.length≤i⟩
noncomputable def N1(lo:Int)(n:Nat):It:=⟨λi _=>i < n,λi H x H'=>H'=H/\x=.int (lo+i),λi _=>n≤i⟩
variable{w:World}{K:FG}
theorem qI(a t:Addr):Turn P w K tg (No K a) [t] t (λi h=>h.IsListIter t a i) where
 mem:=by simp
 obj:=λi h st b n=>by
  have e:b=t:=by simpa using n
  subst e;obtain⟨o,e,c,d⟩:=st;exact⟨o,e,λv z=>by rw[d]at z;cases z⟩
 keep:=λi h h' st k=>st.at λo e=>k t (by simp) o e
 item:=by
  intro X F hw S G i pins s J H E I m st A;subst F hw S;obtain⟨xs,x,q,B⟩:=A;obtain⟨C,D,p,T⟩:=I.list q;obtain⟨u,Q,V⟩:=D.get B;obtain⟨r,g,N,j,l,y⟩:=m t (by simp);refine wpAny_pyNext_list_item st p.isList (x:=u) (by simpa using Q) λh' f W=>?_
  have L:Inv X pins J H { s with heap:=h' }:=I.turned (t':=s.toks) (λb o n e=>(W.2 b n).trans e) r g j l y;obtain⟨o,e,c,d⟩:=id f;exact⟨u,rfl,D6 (s:={ s with heap:=h' }) e c d (by decide) ⟨x,H,L,V,⟨rfl,λys R=>by rw[I.list_inj R q];exact B⟩,f,λb n=>(m b n).1⟩⟩
 done:=by intro X F hw S G i pins s J H E I m st A;subst F hw S;obtain⟨xs,q,B⟩:=A;obtain⟨C,D,p,T⟩:=I.list q;obtain⟨r,g,N,j,l,y⟩:=m t (by simp);have Z:=D.length;exact wpAny_pyNext_list_end (I.o.hd G) st p.isList (by simp;lia) λh' M=>⟨rfl,I.turned (t':=s.toks) (λb o n e=>M b o n e) r g j l y⟩
 self:=λ_ _ _ _ _ st h=>wpAny_pyIter_listiter st h
theorem wf(a t:Addr):Turn P w K tg (Qz K a) [t] t (λi h=>h.IsTupleIter t a i) where
 mem:=by simp
 obj:=λi h st b n=>by
  have e:b=t:=by simpa using n
  subst e;obtain⟨o,e,c,d⟩:=st;exact⟨o,e,λv z=>by rw[d]at z;cases z⟩
 keep:=λi h h' st k=>st.at λo e=>k t (by simp) o e
 item:=by
  intro X A hw F G i pins s J H E I r st B;subst A hw F;obtain⟨xs,x,q,C⟩:=B;obtain⟨f,D,p,T⟩:=I.tuple q;obtain⟨u,Q,V⟩:=D.get C;obtain⟨g,j,N,l,y,S⟩:=r t (by simp);refine wpAny_pyNext_tuple_item st (show s.heap.IsTuple a f.toArray from p) (x:=u) (by simpa using Q) λh' m W=>?_
  have L:Inv X pins J H { s with heap:=h' }:=I.turned (t':=s.toks) (λb o n e=>(W.2 b n).trans e) g j l y S;obtain⟨o,e,c,d⟩:=id m;exact⟨u,rfl,D6 (s:={ s with heap:=h' }) e c d (by decide) ⟨x,H,L,V,⟨rfl,λys R=>by rw[I.tuple_inj R q];exact C⟩,m,λb n=>(r b n).1⟩⟩
 done:=by intro X A hw F G i pins s J H E I r st B;subst A hw F;obtain⟨xs,q,C⟩:=B;obtain⟨f,D,p,T⟩:=I.tuple q;obtain⟨g,j,N,l,y,S⟩:=r t (by simp);have Z:=D.length;exact wpAny_pyNext_tuple_end (I.o.hd G) st (show s.heap.IsTuple a f.toArray from p) (by simp;lia) λh' M=>⟨rfl,I.turned (t':=s.toks) (λb o n e=>M b o n e) g j l y S⟩
 self:=λ_ _ _ _ _ st h=>wpAny_pyIter_tupleiter st h
theorem wg(x:Addr)(lo:Int)(n:Nat):Turn P w K tg (N1 lo n) [x] x (λi h=>IsRangeIter h x (lo+(i:Nat) * 1) ((n:Int)-(i:Nat)) 1) where
 mem:=by simp
 obj:=λi h st b a=>by
  have e:b=x:=by simpa using a
  subst e;exact⟨_,st,λv z=>by have C:Data.fields _=Data.cell v:=z;cases C⟩
 keep:=λi h h' st k=>k x (by simp) _ st
 item:=by
  intro X g hw u j i pins s J H E I c st l;subst g hw u;obtain⟨m,r,F,p,q,d⟩:=c x (by simp);have W:=Walks.range (prog:=X.p) (w:=X.w) (I.o.hd j) x lo 1 n;refine W.item i s _ _ l st λv h' tk A f B=>?_
  obtain⟨t,rfl⟩:=A;have y:Inv X pins J H { s with heap:=h',toks:=tk }:=I.turned (λb o a e=>B b o (by simpa using a) e) m r p q d;refine⟨_,rfl,D6 (s:={ s with heap:=h',toks:=tk }) (n:="range_iterator") f rfl rfl (by decide) ⟨.int (lo+i),H,y,⟨t,?_⟩,⟨rfl,rfl⟩,f,λb a=>(c b a).1⟩⟩;rw[Int.mul_one]
 done:=by intro X g hw u j i pins s J H E I c st l;subst g hw u;obtain⟨m,r,F,p,q,d⟩:=c x (by simp);exact wpAny_pyNext_range_end (I.o.hd j) st (by have:n≤i:=l;lia) λh' S=>⟨rfl,I.turned (t':=s.toks) (λb o a e=>S b o a e) m r p q d⟩
 self:=λ_ _ _ _ _ st h=>wpAny_pyIter_rangeiter st h
section
variable{X:Cx}{tg:Expr}
noncomputable def MR(K:FG)(tl:TE):TI:=λJ H R=>tl J H λx G=>∃a,x=.ref a/\(∃xs,fG K G a xs)/\R (No K a) G
theorem Gu(c:O X l tl):PI X tg l (MR X.K tl):=by
 intro pins s J H R I h;refine cK (c pins s J H _ I h) λv k z=>?_
 obtain⟨x,G,n,t,r⟩:=z;obtain⟨a,e,⟨xs,m⟩,q⟩:=r;subst e;cases t;obtain⟨i,d,p,z⟩:=n.list m;refine rX p.isList ?_;refine⟨k.heap.objs.size,[k.heap.objs.size],_,_,G,rfl,n.kept (t':=k.toks) λb o e=>aV _ e,qI a _,⟨_,bP _ rfl,rfl,rfl⟩,λb f=>?_,q⟩;have e:b=k.heap.objs.size:=by simpa using f
 subst e;exact n.fpOk (ag _) (n.h.fresh (ag _))
theorem CN{lo hi:Int}{t u v:Tok}{tk:Nat}(I:Inv X pins J H s)(h1:-(2 ^ 62)≤lo)(h2:lo < 2 ^ 62)(n:-(2 ^ 62)≤hi)(k:hi < 2 ^ 62)
  (q:R (N1 lo (hi-lo).toNat) H):wx X (pyIter (.ref s.heap.objs.size)) (Nj X pins J tg R) E { s with heap:=s.heap.push { cls:=.type "range",data:=.fields #[.int lo t,.int hi u,.int 1 v] },toks:=tk }:=by
 refine wpAny_pyIter_range (IsRange.new ..) (vR h1 h2 n k) ?_;have h:Inv X pins J H { s with heap:=s.heap.push { cls:=.type "range",data:=.fields #[.int lo t,.int hi u,.int 1 v] },toks:=tk }:=I.kept fun b o e=>aV _ e;refine⟨(s.heap.push { cls:=.type "range",data:=.fields #[.int lo t,.int hi u,.int 1 v] }).objs.size,[(s.heap.push { cls:=.type "range",data:=.fields #[.int lo t,.int hi u,.int 1 v] }).objs.size],_,_,H,rfl,
  h.kept (t':=tk) λb o e=>aV _ e,wg _ lo (hi-lo).toNat,?_,λb f=>?_,q⟩
 .have x:lo+((0:Nat):Int) * 1=lo:=by simp
  have a:(((hi-lo).toNat:Nat):Int)-((0:Nat):Int)=oh lo hi 1:=by rw[Bv];split<;>lia
  show IsRangeIter _ _ (lo+((0:Nat):Int) * 1) ((((hi-lo).toNat:Nat):Int)-((0:Nat):Int)) 1;rw[x,a];exact bP _ rfl
 .have e:b=(s.heap.push { cls:=.type "range",data:=.fields #[.int lo t,.int hi u,.int 1 v] }).objs.size:=by simpa using f
  subst e;exact h.fpOk (ag _) (h.h.fresh (ag _))
noncomputable def MQ(ta:TA):TI:=λJ H R=>ta J H λv G=>∃j:Int,v=[.int j]/\-(2 ^ 62)≤j/\j < 2 ^ 62/\R (N1 0 j.toNat) G
theorem AI{a:Expr}{ta:TA}{p B:Pos}(g:Gl X "range")(m:X.g "range"=none)(f:PA X [a] ta)(b:starEach [a] X.e=[(false,eval a X.e)]:=by rfl):PI X tg (.Call (.Name "range" p) [a] [] B) (MQ ta):=by
 intro pins s J H R I h;refine Call_ (iu I g m r9 (iU (cK (f B pins s J H _ I h) λj w z=>?_) b rfl));obtain⟨u,G,k,v,n⟩:=z;obtain⟨x,e,n,c,q⟩:=n;subst e;cases v with
 |cons r d=>cases d;obtain⟨t,rfl⟩:=r;exact call_range_1 (CN k (by lia) (by lia) n c (by simpa using q))
noncomputable def OJ(w:TI)(g:TG)(tb:TS):TS:=λD J H=>w J H λh G=>∃W:Nat->Nat->St->Y->Prop,(∃m,W 0 m J G)/\∀i m J H,W i m J H ->
 (h.stop i H/\D.nx J H)\/(h.go i H/\∃N:St->Y->Prop,(∀a H',N a H'->∃e,e < m/\W (i+1) e a H')/\∀x H',h.yld i H x H'->g x J H' λs H2=>tb { D with nx:=N,ct:=N,bk:=D.nx } s H2)
noncomputable def mF(f:List Addr)(h:Heap):PN:=f.filterMap λb=>(h.get? b).map λo=>(b,o)
theorem ja(x:b ∈ q)(e:h.get? b=some o):(b,o) ∈ mF q h:=j1.mpr ⟨b,x,by rw[e];rfl⟩
theorem AL(s:p ∈ mF z h):p.1 ∈ z/\h.get? p.1=some p.2:=by
 obtain⟨b,a,e⟩:=j1.mp s;cases q:h.get? b with
 |none=>rw[q]at e;cases e
 |some o=>rw[q]at e;have x:(b,o)=p:=du e;subst x;exact⟨a,q⟩
theorem Inv.pinned(I:Inv X pins J H s)(k:∀b ∈ q,qe X pins H b)(c:∀b ∈ q,∃o,s.heap.get? b=some o/\∀v,o.data≠.cell v):Inv X (pins++mF q s.heap) J H s:=
 I.pins_of λp m=>(fO.mp m).elim (λz=>I.pin p (fS _ z)) λz=>by obtain⟨x,e⟩:=AL z;obtain⟨f,a,n,_⟩:=k p.1 x;obtain⟨o,h,d⟩:=c p.1 x;rw[e]at h;cases h;exact⟨e,f,a,n,d⟩
theorem Inv.unpinned(I:Inv X (pins++q) J H s):Inv X pins J H s:=I.pins_of λp h=>I.pin p (fS _ (lr _ h))
set_option tactic.hygienic true in
theorem Jc{iter:Expr}{y:List Stmt}{wi:TI}{g:TG}{tb:TS}{B:Pos}(K:PassesOwn (model X.p X.w) X.A X.e X.xe)(hc:X.c=true)(hi:PI X tg iter wi)(hg:PG X tg g)(t:nQ X y tb)
  (hs:∀x,foldedSetIterable iter X.e x=pure x:=by intro _;rfl):PS X (.For tg iter y [] B) (OJ wi g tb):=by
 intro pins s J H D I h;refine wpAny_For (cK (hi pins s J H _ I h) λv s1 h1=>cK h1 λitv s2 h2=>?_) hs;obtain⟨it,S,tn,J9,H2,e,I2,T,V,f2,W,⟨m0,w0⟩,E⟩:=h2;subst e;have p:∀{H':Y},(∀b ∈ S,H' b=none)->∀b ∈ S,qe X pins H' b:=λhn b t=>⟨hn b t,(f2 b t).2⟩
 refine codeAny_forLoop_any (λn s'=>∃i j H',Inv X pins j H' s'/\tn i s'.heap/\(∀b ∈ S,H' b=none)/\W i n j H') ?_ m0 ⟨0,J,H2,I2,V,λb t=>(f2 b t).1,w0⟩;rintro n s3 ⟨i,l,G,I3,A,F,w3⟩;rcases E i n l G w3 with ⟨C,qn⟩|⟨go,N,hN,step⟩
 .refine o5 K (cK (T.done X rfl rfl rfl hc i pins s3 l G X.xe I3 (p F) A C) λr s4 z=>?_);obtain⟨Q,I4⟩:=z;subst Q;exact v5 ⟨l,G,I4,qn⟩
 .refine o5 K (cK (T.item X rfl rfl rfl hc i pins s3 l G X.xe I3 (p F) A go) λr s4 z=>?_);obtain⟨u,Q,h4⟩:=z;subst Q;refine o5 K (cK h4 λ_ s5 z=>?_);obtain⟨x,Z,I5,r5,y5,w,M⟩:=z;have L:=I5.pinned (p M) (T.obj _ _ w);refine o5 K (cK (hg _ s5 l Z x u _ L r5 (step x Z y5)) λ_ s6 z=>?_);obtain⟨J6,H6,I6,q6⟩:=z;refine o5 K (cK (t _ s6 J6 H6 _ I6 q6) λf R q=>?_);have again:∀{c:St}{a:Y},Inv X (pins++mF S s5.heap) c a R->N c a->∃m,m < n/\∃i j H',Inv X pins j H' R/\tn i R.heap/\(∀b ∈ S,H' b=none)/\W i m j H':=λ{c a} k P=>by
   obtain⟨m',hm,w7⟩:=hN c a P;refine⟨m',hm,i+1,c,a,k.unpinned,T.keep _ _ _ w λb t o e=>(k.pin (b,o) (fS _ (fS _ (ja t e)))).1,λb t=>?_,w7⟩;obtain⟨o,e,d⟩:=T.obj _ _ w b t;exact(k.pin (b,o) (fS _ (fS _ (ja t e)))).2.1
  cases f with
  |next=>obtain⟨c,a,k,P⟩:=q;exact again k P
  |cont=>obtain⟨c,a,k,P⟩:=q;exact again k P
  |brk=>obtain⟨c,a,k,q⟩:=q;exact⟨c,a,k.unpinned,q⟩
  |ret v=>obtain⟨x7,c,a,k,r7,q⟩:=q;exact⟨x7,c,a,k.unpinned,r7,q⟩
end
noncomputable abbrev R2:=V->V->Y->VK->Prop
def iB(X:Cx)(f:Value->Value->Sem Value)(r:R2):Prop:=
 ∀(pins:PN)(s:Shared)(J:St)(H:Y)(x y:V)(v u:Value)(Q:VK),Inv X pins J H s->RelV x v->RelV y u->r x y H Q ->
  wx X (f v u) (EP X pins J Q) X.xe s
def PV(X:Cx)(f:Value->Sem Value)(r:V->Y->VK->Prop):Prop:=
 ∀(pins:PN)(s:Shared)(J:St)(H:Y)(x:V)(v:Value)(Q:VK),Inv X pins J H s->RelV x v->r x H Q ->
  wx X (f v) (EP X pins J Q) X.xe s
def dL(X:Cx)(f:Value)(r:List V->Y->VK->Prop):Prop:=
 ∀(pins:PN)(s:Shared)(J:St)(H:Y)(xs:List V)(j:LV)(Q:VK),Inv X pins J H s->bb xs j->r xs H Q ->
  wx X (call f j) (EP X pins J Q) X.xe s
def PX(X:Cx)(r:V->Y->(Bool->Y->Prop)->Prop):Prop:=
 ∀(pins:PN)(s:Shared)(J:St)(H:Y)(x:V)(v:Value)(Q:Bool->Y->Prop),Inv X pins J H s->RelV x v->r x H Q ->
  wx X (truthy v) (TP X pins J Q) X.xe s
noncomputable def IG(r:R2)(ta tb:TE):TE:=λJ H Q=>ta J H λx G=>tb J G λy H2=>r x y H2 Q
noncomputable def QN(r:V->Y->VK->Prop)(ta:TE):TE:=λJ H Q=>ta J H λx G=>r x G Q
noncomputable def rI(C:Int->Int->Prop)(g:Int->Int->V):R2:=λx y H Q=>∃i j,x=.int i/\y=.int j/\C i j/\Q (g i j) H
noncomputable def Gg(g:Int->Int->V):R2:=λx y H Q=>∃i j,x=.int i/\y=.int j/\Q (g i j) H
def rU(g:Int->V):V->Y->VK->Prop:=λx H Q=>∃i,x=.int i/\Q (g i) H
section
variable{X:Cx}{a b c:Expr}{ta tb tc:TE}{B:Pos}
theorem Kz(r:O X a ta)(t:O X b tb){pins:PN}{s:Shared}{J:St}{H:Y}{R:V->V->Y->Prop}(I:Inv X pins J H s)
  (h:ta J H λx G=>tb J G λy H2=>R x y H2) {Q:VP}{f:Value->Value->Sem Value}
  (p:∀v u k x y H2,Inv X pins J H2 k->RelV x v->RelV y u->R x y H2->wx X (f v u) Q X.xe k) :
  wx X (eval a X.e) (λv e=>wx X (eval b X.e) (λu n=>wx X (f v u) Q X.xe n) X.xe e) X.xe s:=by
 refine cK (r pins s J H _ I h) λv i z=>?_;obtain⟨x,G,c,w,q⟩:=z;refine cK (t pins i J G _ c q) λu k z=>?_;obtain⟨y,H2,m,g,d⟩:=z;exact p v u k x y H2 m w g d
theorem Mi{o:Operator}{r:R2}(f:iB X (binaryOp o) r)(n:O X a ta)(k:O X b tb):O X (.BinOp a o b B) (IG r ta tb):=by intro pins s J H Q I h;exact wpAny_BinOp (Kz n k I h λv u t x y H2 e c m q=>f pins t J H2 x y v u Q e c m q)
theorem Mg(o:PV X (unaryOp q) r)(n:O X a ta):O X (.UnaryOp q a B) (QN r ta):=by intro pins s J H Q I h;exact UnaryOp_ (cK (n pins s J H _ I h) λv b z=>by obtain⟨x,G,e,f,k⟩:=z;exact o pins b J G x v Q e f k)
theorem NA{f:Value->Value->Sem Value}{C:Int->Int->Prop}{g:Int->Int->Int}
  (rule:∀(i j:Int)(t u:Tok)(s:Shared)(Q:VP)(E:VP),C i j->Q (.int (g i j) s.toks) { s with toks:=s.toks+1 }->wx X (f (.int i t) (.int j u)) Q E s) :
  iB X f (rI C λi j=>.int (g i j)):=by
 intro pins s J H x y v u Q I r a h;obtain⟨i,j,rfl,rfl,c,q⟩:=h;obtain⟨t,rfl⟩:=r;obtain⟨e,rfl⟩:=a;exact rule i j t e s _ _ c ⟨.int (g i j),H,I.tok _,⟨_,rfl⟩,q⟩
theorem MA{f:Value->Value->Sem Value}{g:Int->Int->Int}
  (rule:∀(i j:Int)(t u:Tok)(s:Shared)(Q:VP)(E:VP),Q (.int (g i j) s.toks) { s with toks:=s.toks+1 }->wx X (f (.int i t) (.int j u)) Q E s) :
  iB X f (Gg λi j=>.int (g i j)):=by
 intro pins s J H x y v u Q I r a h;obtain⟨i,j,rfl,rfl,q⟩:=h;obtain⟨t,rfl⟩:=r;obtain⟨e,rfl⟩:=a;exact rule i j t e s _ _ ⟨.int (g i j),H,I.tok _,⟨_,rfl⟩,q⟩
theorem GH{f:Value->Value->Sem Value}{g:Int->Int->Bool}
  (rule:∀(i j:Int)(t u:Tok)(s:Shared)(Q:VP)(E:VP),Q (.bool (g i j)) s->wx X (f (.int i t) (.int j u)) Q E s) :
  iB X f (Gg λi j=>.bl (g i j)):=by
 intro pins s J H x y v u Q I r a h;obtain⟨i,j,rfl,rfl,q⟩:=h;obtain⟨t,rfl⟩:=r;obtain⟨e,rfl⟩:=a;exact rule i j t e s _ _ ⟨.bl (g i j),H,I,rfl,q⟩
def P5(i j:Int):Prop:=0≤j/\j≤1000000/\i.natAbs < 2 ^ 64
theorem Jx:iB X (binaryOp .Add) (Gg λi j=>.int (i+j)):=MA λ_ _ _ _ _ _ _ q=>add_int q
theorem Jr:iB X (binaryOp .Sub) (Gg λi j=>.int (i-j)):=MA λ_ _ _ _ _ _ _ q=>sub_int q
theorem Ju:iB X (binaryOp .Mod) (rI (λ_ j=>0 < j) λi j=>.int (i % j)):=NA λi j _ _ _ _ _ h q=>by have h1:(0:Int) < j:=h;exact mod_int' (by lia) (by rw[Int.fmod_eq_emod_of_nonneg i (by lia)];exact q)
theorem Jt:iB X (binaryOp .Pow) (rI P5 λi j=>.int (i ^ j.toNat)):=NA λ_ _ _ _ _ _ _ h q=>pow_int_small h.1 h.2.1 h.2.2 q
theorem QL{f:Value->Sem Value}{g:Int->Int}
  (rule:∀(i:Int)(t:Tok)(s:Shared)(Q:VP)(E:VP),Q (.int (g i) s.toks) { s with toks:=s.toks+1 }->wx X (f (.int i t)) Q E s) :
  PV X f (rU λi=>.int (g i)):=by
 intro pins s J H x v Q I r h;obtain⟨i,rfl,q⟩:=h;obtain⟨t,rfl⟩:=r;exact rule i t s _ _ ⟨.int (g i),H,I.tok _,⟨_,rfl⟩,q⟩
theorem Iy:PV X (unaryOp .USub) (rU λi=>.int (-i)):=QL λ_ _ _ _ _ q=>neg_int q
end
noncomputable def L6:V->V->Bool
 | .non,.non=>true | .non,.int _=>true | .int _,.non=>true | .non,.bl _=>true | .bl _,.non=>true | .non,.str _=>true | .str _,.non=>true
 | .int _,.int _=>true | .bl _,.bl _=>true | .str _,.str _=>true | .byt _,.byt _=>true
 | .int _,.str _=>true | .str _,.int _=>true | .bl _,.str _=>true | .str _,.bl _=>true
 |_,_=>false
def QU:R2:=λx y H Q=>L6 x y=true/\Q (.bl (decide (x=y))) H
def QT:R2:=λx y H Q=>L6 x y=true/\Q (.bl (!decide (x=y))) H
theorem z_{i j:Int}:decide (V.int i=V.int j)=(i == j):=by rw[oj];simp
theorem El:decide (V.bl i=V.bl q)=(i == q):=by rw[oj];simp
theorem z5:decide (V.str i=V.str q)=(i == q):=by rw[oj];simp
theorem Ac:decide (V.byt i=V.byt q)=(i.toList == q.toList):=by rw[oj];cases i;cases q;simp
section
variable{X:Cx}{a b c:Expr}{ta tb tc:TE}{B:Pos}
theorem bF(I:Inv X pins J H s)(q:Q (.bl k) H)(e:k=z):EP X pins J Q (.bool z) s:=by subst e;exact⟨.bl k,H,I,rfl,q⟩
theorem De:iB X (compareOp .Eq) QU:=by
 intro pins s J H x y v u Q I n r h;obtain⟨e,q⟩:=h;cases x with
 |non=>
  cases n;cases y with
  |non=>cases r;exact Fk (bF I q (by simp))
  |bl j=>cases r;exact Fi (bF I q (by simp))
  |int j=>obtain⟨a,rfl⟩:=r;exact Fj (bF I q (by simp))
  |str j=>obtain⟨a,rfl⟩:=r;exact Fo (bF I q (by simp))
  |_=>exact absurd (show false=true from e) a8
 |bl i=>
  cases n;cases y with
  |non=>cases r;exact Fg (bF I q (by simp))
  |bl j=>cases r;exact eq_bool (bF I q El)
  |str j=>obtain⟨a,rfl⟩:=r;exact E9 (bF I q (by simp))
  |_=>exact absurd (show false=true from e) a8
 |int i=>
  obtain⟨t,rfl⟩:=n;cases y with
  |non=>cases r;exact Fh (bF I q (by simp))
  |int j=>obtain⟨a,rfl⟩:=r;exact eq_int (bF I q z_)
  |str j=>obtain⟨a,rfl⟩:=r;exact E_ (bF I q (by simp))
  |_=>exact absurd (show false=true from e) a8
 |str i=>
  obtain⟨t,rfl⟩:=n;cases y with
  |non=>cases r;exact Fp (bF I q (by simp))
  |bl j=>cases r;exact Fa (bF I q (by simp))
  |int j=>obtain⟨a,rfl⟩:=r;exact Fb (bF I q (by simp))
  |str j=>obtain⟨a,rfl⟩:=r;exact eq_str (bF I q z5)
  |_=>exact absurd (show false=true from e) a8
 |byt i=>
  obtain⟨t,rfl⟩:=n;cases y with
  |byt j=>obtain⟨a,rfl⟩:=r;exact PySem.W.eq_bytes (bF I q Ac)
  |_=>exact absurd (show false=true from e) a8
 |_=>cases y<;>exact absurd (show false=true from e) a8
theorem Dc:iB X (compareOp .NotEq) QT:=by
 intro pins s J H x y v u Q I n r h;obtain⟨e,q⟩:=h;cases x with
 |non=>
  cases n;cases y with
  |non=>cases r;exact Fv (bF I q (by simp))
  |bl j=>cases r;exact Ft (bF I q (by simp))
  |int j=>obtain⟨a,rfl⟩:=r;exact Fu (bF I q (by simp))
  |str j=>obtain⟨a,rfl⟩:=r;exact Fw (bF I q (by simp))
  |_=>exact absurd (show false=true from e) a8
 |bl i=>
  cases n;cases y with
  |non=>cases r;exact Fq (bF I q (by simp))
  |bl j=>cases r;exact ne_bool (bF I q (d8 not El))
  |str j=>obtain⟨a,rfl⟩:=r;exact Fc (bF I q (by simp))
  |_=>exact absurd (show false=true from e) a8
 |int i=>
  obtain⟨t,rfl⟩:=n;cases y with
  |non=>cases r;exact Fs (bF I q (by simp))
  |int j=>obtain⟨a,rfl⟩:=r;exact ne_int (bF I q (d8 not z_))
  |str j=>obtain⟨a,rfl⟩:=r;exact Fd (bF I q (by simp))
  |_=>exact absurd (show false=true from e) a8
 |str i=>
  obtain⟨t,rfl⟩:=n;cases y with
  |non=>cases r;exact Fx (bF I q (by simp))
  |bl j=>cases r;exact Fe (bF I q (by simp))
  |int j=>obtain⟨a,rfl⟩:=r;exact Ff (bF I q (by simp))
  |str j=>obtain⟨a,rfl⟩:=r;exact ne_str (bF I q (d8 not z5))
  |_=>exact absurd (show false=true from e) a8
 |byt i=>
  obtain⟨t,rfl⟩:=n;cases y with
  |byt j=>obtain⟨a,rfl⟩:=r;exact PySem.W.ne_bytes (bF I q (d8 not Ac))
  |_=>exact absurd (show false=true from e) a8
 |_=>cases y<;>exact absurd (show false=true from e) a8
theorem Mm:iB X (compareOp .Lt) (Gg λi j=>.bl (decide (i < j))):=GH λ_ _ _ _ _ _ _ q=>se q
theorem Mn:iB X (compareOp .LtE) (Gg λi j=>.bl (decide (i≤j))):=GH λ_ _ _ _ _ _ _ q=>le_int q
theorem Mo:iB X (compareOp .Gt) (Gg λi j=>.bl (decide (j < i))):=GH λ_ _ _ _ _ _ _ q=>gt_int q
theorem Mp:iB X (compareOp .GtE) (Gg λi j=>.bl (decide (j≤i))):=GH λ_ _ _ _ _ _ _ q=>ge_int q
theorem Jv:iB X (compareOp .Is) (λx y H Q=>y=.non/\Q (.bl (decide (x=.non))) H):=by
 intro pins s J H x y v u Q I r a h;obtain⟨rfl,q⟩:=h;cases a;refine is_none_gen (bF I q ?_);cases x<;>first
  |(cases r;rfl)
  |(obtain⟨t,rfl⟩:=r;rfl)
theorem GB:iB X (compareOp .IsNot) (λx y H Q=>y=.non/\Q (.bl (!decide (x=.non))) H):=by
 intro pins s J H x y v u Q I r a h;obtain⟨rfl,q⟩:=h;cases a;refine isnot_none_gen (bF I q ?_);cases x<;>first
  |(cases r;rfl)
  |(obtain⟨t,rfl⟩:=r;rfl)
theorem zx{o:CmpOp}{r:R2}(f:iB X (compareOp o) r)(n:O X a ta)(k:O X b tb)(m:behindInMarks o b=false):O X (.Compare a [o] [b] B) (IG r ta tb):=by intro pins s J H Q I h;exact wpAny_Compare1 (Kz n k I h λv u p x y H2 e c t q=>f pins p J H2 x y v u Q e c t q) m
noncomputable def Ch(t:TE):TT:=λJ H Q=>t J H λx H'=>∃k,x=.bl k/\Q k H'
theorem zu(o:iB X (compareOp q) r)(p:O X a ta)(d:O X b tb)(w:behindInMarks q b=false):PT X (.Compare a [q] [b] B) (Ch (IG r ta tb)):=by
 intro pins s J H Q I h;refine wpAny_isTrue_Compare1 (cK (p pins s J H _ I h) fun v K ⟨x,G,f,l,g⟩=>cK (d pins K J G _ f g) fun u P ⟨y,H2,m,S,i⟩=>
  cK (o pins P J H2 x y v u _ m l S i) λc A ⟨z,n,t,F,k,e,j⟩=>?_) w
 subst e;cases F;exact i3 ⟨n,t,j⟩
noncomputable def wo(r e:R2)(ta tb tc:TE):TE:=λJ H Q=>ta J H λx G=>tb J G λy H2=>r x y H2 λz h=>∃k,z=.bl k /\
 (if k=true then tc J h λw a=>e y w a Q else Q (.bl false) h)
theorem C7(K:iB X (compareOp N) r)(o:iB X (compareOp q) r')(j:O X a ta)(l:O X b tb)(S:O X c tc)
  (F:lastMarks [N,q] [b,c]=false:=by with_unfolding_all rfl):O X (.Compare a [N,q] [b,c] B) (wo r r' ta tb tc):=by
 intro pins s J H Q I h;refine Compare_chain (cK (j pins s J H _ I h) fun v M ⟨x,G,w,D,P⟩=>chain_link (cK (l pins M J G _ w P) fun u R ⟨y,H2,g,t,A⟩=>
  cK (K pins R J H2 x y v u _ g D t A) λd T ⟨z,n,f,E,k,e,m⟩=>?_)) F
 subst e;cases E;refine i3 ?_;cases k with
 |false=>exact ite_ff ⟨.bl false,n,f,rfl,m⟩
 |true=>exact ite_tt (chain_last (cK (S pins T J n _ f m) λW V ⟨Z,p,i,L,C⟩=>o pins V J p y Z u W Q i t L C))
theorem CQ(D:iB X (compareOp N) r)(o:iB X (compareOp q) r')(K:O X a ta)(P:O X b tb)(A:O X c tc)
  (C:lastMarks [N,q] [b,c]=false:=by with_unfolding_all rfl):PT X (.Compare a [N,q] [b,c] B) (Ch (wo r r' ta tb tc)):=by
 intro pins s J H Q I h;refine isTrue_chain (cK (K pins s J H _ I h) fun v s1 ⟨x,G,g,W,M⟩=>test_link (cK (P pins s1 J G _ g M) fun u s2 ⟨y,H2,i,t,R⟩=>
  cK (D pins s2 J H2 x y v u _ i W t R) λd s3 ⟨z,n,f,Z,k,e,m⟩=>?_)) C
 subst e;cases Z;refine i3 ?_;cases k with
 |false=>obtain⟨k',S,L⟩:=m;cases S;exact ite_ff ⟨n,f,L⟩
 |true=>refine ite_tt (test_last (cK (A pins s3 J n _ f m) λw' s4 ⟨z',p,j,r4,T⟩=>cK (o pins s4 J p y z' u w' _ j t r4 T) λd' s5 E=>?_));obtain⟨z2,w,l,r5,k2,F,V⟩:=E;subst F;cases r5;exact i3 ⟨w,l,V⟩
def KI(K:FG)(x:V)(H:Y)(k:Bool):Prop:=
 match x with
 | .non=>k=false
 | .bl b=>k=b
 | .int i=>k=(i != 0)
 | .str y=>y.length≤sizeLine/\k=((y.length:Int) != 0)
 | .byt y=>y.size≤sizeLine/\k=((y.size:Int) != 0)
 | .ref p=>(∃xs,fG K H p xs/\k=!xs.isEmpty)\/(∃xs,jw K H p xs/\k=!xs.isEmpty)\/∃kvs,H p=some (.dK kvs)/\k=!kvs.isEmpty
 |_=>False
theorem wS(r:KV kvs q):(!q.isEmpty)=!kvs.isEmpty:=by cases r<;>rfl
theorem pP(r:bb xs q):(!q.toArray.isEmpty)=!xs.isEmpty:=by cases r<;>simp
theorem jF:(sizeLine:Nat) < 2 ^ 63:=by rw[jz];decide
theorem Iz:PX X (λx H Q=>∃k,KI X.K x H k/\Q k H):=by
 intro pins s J H x v Q I rx h;obtain⟨k,e,q⟩:=h;have hl:=jF;have hs:sizeLine=16777216:=jz;cases x with
 |non=>cases rx;have e':k=false:=e;subst e';exact truthy_none ⟨H,I,q⟩
 |bl b=>cases rx;have e':k=b:=e;subst e';exact i3 ⟨H,I,q⟩
 |int i=>obtain⟨t,rfl⟩:=rx;have e':k=(i != 0):=e;subst e';exact PySem.P.truthy_int ⟨H,I,q⟩
 |str y=>obtain⟨t,rfl⟩:=rx;obtain⟨hy,e'⟩:y.length≤sizeLine/\k=((y.length:Int) != 0):=e;subst e';exact PySem.P.truthy_str (by lia) ⟨H,I.tok _,q⟩
 |byt y=>obtain⟨t,rfl⟩:=rx;obtain⟨hy,e'⟩:y.size≤sizeLine/\k=((y.size:Int) != 0):=e;subst e';exact PySem.W.truthy_bytes (by lia) ⟨H,I.tok _,q⟩
 |ref p=>
  cases rx;have e':(∃xs,fG X.K H p xs/\k=!xs.isEmpty)\/(∃xs,jw X.K H p xs/\k=!xs.isEmpty)\/∃kvs,H p=some (.dK kvs)/\k=!kvs.isEmpty:=e;rcases e' with ⟨xs,hx,e'⟩|⟨xs,hx,e'⟩|⟨kvs,hx,e'⟩
  .subst e';obtain⟨its,r,pl,hz⟩:=I.list hx;have hlen:=r.length;exact wpAny_truthy_list pl.isList (by simp only[ba];lia) ⟨H,I.tok _,by rw[pP r];exact q⟩
  .subst e';obtain⟨its,r,pl,hz⟩:=I.tuple hx;have hlen:=r.length;exact truthy_tuple pl (by simp only[ba];lia) ⟨H,I.tok _,by rw[pP r];exact q⟩
  .subst e';obtain⟨hz,hS,vs,r,m⟩:kvs.length≤sizeLine/\(p == sysModules)=false/\∃vs,KV kvs vs/\s.heap.DictOf (bX X.p X.w) p vs:=I.h p _ hx;have hlen:kvs.length=vs.length:=Paired.length r;exact wpAny_truthy_dict hS m (by lia) ⟨H,I.tok _,by rw[wS r];exact q⟩
 |_=>exact(show False from e).elim
theorem CP(n:O X a ta)(f:∀w,isTrue a X.e w=(do let v <- w;standAt a.pos;holding [v] (truthy v))) :
  PT X a (λJ H Q=>ta J H λx H'=>∃k,KI X.K x H' k/\Q k H'):=by
 intro pins s J H Q I h;exact isTrue_plain (cK (n pins s J H _ I h) λv b z=>by obtain⟨x,G,e,r,q⟩:=z;exact Iz pins b J G x v Q e r q) (f _)
theorem wG:iB X (binaryOp .Add) (λx y H Q=>∃i j,x=.str i/\y=.str j/\i.length+j.length≤sizeLine/\Q (.str (i++j)) H):=by intro pins s J H x y v u Q I r a h;obtain⟨i,j,rfl,rfl,z,q⟩:=h;obtain⟨t,rfl⟩:=r;obtain⟨e,rfl⟩:=a;exact add_str (λe tk=>⟨.str (i++j),H,I.tok _,⟨_,rfl⟩,q⟩) z
theorem vals1(r:bb [x] j):∃u,j=[u]/\RelV x u:=by
 cases r with
 |cons h a=>cases a;exact⟨_,rfl,h⟩
theorem vals2(r:bb [x,y] j):∃u w,j=[u,w]/\RelV x u/\RelV y w:=by
 cases r with
 |cons h a=>
  cases a with
  |cons e s=>cases s;exact⟨_,_,rfl,h,e⟩
theorem Ew:dL X (.builtin "abs") (λxs H Q=>∃i,xs=[.int i]/\Q (.int (if i < 0 then -i else i)) H):=by intro pins s J H xs j Q I r h;obtain⟨i,rfl,q⟩:=h;obtain⟨u,rfl,t,rfl⟩:=vals1 r;exact call_abs_int λu tk=>⟨.int (if i < 0 then -i else i),H,I.tok _,⟨_,rfl⟩,q⟩
theorem Bg(c:X.c=true):dL X (.builtin "min") (λxs H Q=>∃i x,xs=[.int i,.int x]/\Q (.int (if x < i then x else i)) H):=by
 intro pins s J H xs j Q I r h;obtain⟨i,x,rfl,q⟩:=h;obtain⟨u,w,rfl,⟨t,rfl⟩,⟨e,rfl⟩⟩:=vals2 r;refine min_two_ints (I.o.hd c) λh' tk k=>⟨_,H,I.kept k,?_,q⟩
 by_cases a:x < i
 .rw [ai a,ai a];exact⟨_,rfl⟩
 .rw [al a,al a];exact⟨_,rfl⟩
theorem ri:dL X (.type "int") (λxs H Q=>(∃i,xs=[.int i]/\Q (.int i) H)\/∃k,xs=[.bl k]/\Q (.int (if k then 1 else 0)) H):=by
 intro pins s J H xs j Q I r h;rcases h with ⟨i,rfl,q⟩|⟨k,rfl,q⟩
 .obtain⟨u,rfl,t,rfl⟩:=vals1 r;exact call_int_int ⟨.int i,H,I,⟨_,rfl⟩,q⟩
 .obtain⟨u,rfl,x⟩:=vals1 r;cases x;exact call_int_bool ⟨.int (if k then 1 else 0),H,I.tok _,⟨_,rfl⟩,q⟩
end
structure ObjM(h:Heap)(x dx C:Addr)(mA:SV):Prop where
 obj:h.get? x=some (hY C dx)
 ns:h.Ns1 dx mA
 ne:dx≠x
set_option tactic.hygienic true in
theorem AQ(n:h.Ns1 dx mA):∃d,h.get? dx=some d/\∀name,oE name d=some (mA name):=by
 obtain⟨o,es,p,f,hd,s,_,m⟩:=n;refine⟨o,f,λname=>?_⟩;have e:=m name;unfold nsFind findBy at e;rw[<- Array.find?_toList]at e;unfold oE;rw[hd];dsimp only;split
 .rename_i y q;rw[q]at e;exact d8 some e
 .rename_i q;rw[q]at e;have a:es.toList.any (·.refKey)=false:=by
   rw[List.any_eq_false];intro y b;obtain⟨z,t,k⟩:=s y (Array.mem_toList_iff.mp b);simp[DictEntry.refKey,k]
  have x:¬es.toList.any (·.refKey)=true:=by rw[a];exact a8
  rw[al x];exact d8 some e
variable{C:Addr}
theorem ObjM.look(I:ObjM h x dx C mA):∃o,PySem.W.InstAt h x (hY C dx) C (some o)/\∀name,oE name o=some (mA name):=
 let ⟨o,a,l⟩:=AQ I.ns
 ⟨o,⟨I.obj,rfl,rfl,a⟩,l⟩
section
variable{prog:Program}{w:World}{A:Around}{E:VP}{s:Shared}{K:FG}{x dx C f:Addr}{mA:SV}{name:Str}{v:Value}
theorem G1(X:K.In s.heap)(I:ObjM s.heap x dx C mA)(g:ly K C name=true)(k:oG K C=true)
  (n:dN K (.ref C) name=some none) (f:mA name=some v) (a:yZ v=true) (h:Q v { s with toks:=s.toks+1 }) :
  wpAny (model prog w) A (getAttr (.ref x) name q) Q E s:=by
 obtain⟨o,e,l⟩:=I.look;exact PySem.W.get_value X e (sW g).1 (PySem.W.findObj_own k n rfl (by rw[l,f])) a h
theorem D7(X:K.In s.heap)(I:ObjM s.heap x dx C mA)(g:ly K C name=true)
  (e:dN K (.ref C) name=some (some (.ref f))) (t:oD K (.ref f)=true) (v:mA name=none) (h:Q (.ref f,[.ref x]) s) :
  wpAny (model prog w) A (getMethod (.ref x) name q) Q E s:=by
 obtain⟨o,a,l⟩:=I.look;exact PySem.W.method_fn X a (sW g).1 (sW g).2 e (o_.mp t) (by show(oE name o).map (·.isSome)=some false;rw[l,v];rfl) h
theorem F6(X:K.In s.heap)(I:ObjM s.heap x dx C mA)
  (u:dN K (.ref C) "__setattr__"=some (some (.builtin "object.__setattr__"))) (q:sU K C=true) (g:sS K C name=some none) (t:oG K C=true)
  (hw:v0 mA N) (z:N.length≤sizeLine)
  (h:∀h',ObjM h' x dx C (λy=>if y=name then some v else mA y)->eW dx s.heap h'->Q () { s with heap:=h',toks:=s.toks+2 }) :
  wpAny (model prog w) A (setAttr (.ref x) name v) Q E s:=by
 obtain⟨S,k,l⟩:=I.look;refine PySem.W.set_plain X k u (PySem.W.osa_open (s:={ s with toks:=s.toks+1 }) (r:=none) X k q g λb=>?_);obtain⟨j,m,d⟩:=PySem.W.any_some t;have i:s.heap.get? x=some ⟨.ref C,some dx,.plain,#[]⟩:=I.obj;refine ab (ah (ab (ab (wpAny_loadPart i (ab (PySem.W.Looks.here (s:={ s with toks:=s.toks+1 }) (PySem.W.looks_clsIn X m) ?_))))));rw[d];refine ah (a:=some dx) (ab (ah (ab ?_)));refine wpAny_nsSet1 (s:={ s with toks:=s.toks+1 }) I.ns λh' n e=>?_;obtain⟨H,f,p,o,D,c⟩:=n.count (PySem.Within.cons name v hw);refine ab (wpAny_lookBehind o (by rw[D];exact pastItsLine_dict (bh c (by rw[aX];lia))) ?_);exact ah (h _ ⟨(e.2 _ (aK I.ne)).trans I.obj,n,I.ne⟩ e)
theorem Dt(X:K.In s.heap)(m:sR K C=true)
  (hi:dN K (.ref C) "__init__"=some (some (.ref f))) (x:PySem.W.typeIn K (.ref f)=some (.type "function"))
  (h:codeAny (model prog w) (A.under (.builtin "type.__call__" ⟨.ref C::q,kw⟩)) (.call (.ref f) ⟨.ref (s.heap.objs.size+1)::q,kw⟩) (PySem.W.InitBack (s.heap.objs.size+1) R)
   { s with heap:=(s.heap.push gE).push (hY C s.heap.objs.size) }) :
  codeAny (model prog w) A (.call (.ref C) ⟨q,kw⟩) R s:=by
 obtain⟨a,g,d,t,os⟩:=s;exact PySem.W.make_core (PySem.W.makes_of X m) (PySem.W.looks_findIn X hi) (λe=>PySem.W.bind_fn X e x) (.inl rfl) h
end
noncomputable def iq(f:Str)(v:V):List (Str×V)->List (Str×V)
 | []=>[(f,v)]
 |(g,x)::r=>if g=f then (g,v)::r else (g,x)::iq f v r
theorem ni(f g:Str)(v:V):∀fs:List (Str×V),(iq f v fs).lookup g=if g=f then some v else fs.lookup g
 | []=>by
  show e_ g [(f,v)]=_;by_cases h:g=f
  .have b:(g == f)=true:=o_.mpr h;simp only[e_,b,ai h]
  .have b:(g == f)=false:=oW.mpr h;simp only[e_,b,al h]
 |(k,x)::r=>by
  have i:=ni f g v r;rw[show iq f v ((k,x)::r)=(if k=f then (k,v)::r else (k,x)::iq f v r) from rfl];by_cases a:k=f
  .rw [ai a];by_cases h:g=k
   .have b:(g == k)=true:=o_.mpr h;simp only[e_,b,ai (h.trans a)]
   .have b:(g == k)=false:=oW.mpr h;simp only[e_,b,al (λe:g=f=>h (e.trans a.symm))]
  .rw [al a];by_cases h:g=k
   .have b:(g == k)=true:=o_.mpr h;simp only[e_,b,al (λe:g=f=>a (h.symm.trans e))]
   .have b:(g == k)=false:=oW.mpr h;simp only[e_,b];exact i
theorem mI(f:Str)(v:V):∀fs:List (Str×V),f ∈ (iq f v fs).map (·.1)/\∀g,g ∈ fs.map (·.1)->g ∈ (iq f v fs).map (·.1)
 | []=>⟨by simp[iq],λg h=>by simp at h⟩
 |(k,x)::r=>by
  obtain⟨i,s⟩:=mI f v r;rw[show iq f v ((k,x)::r)=(if k=f then (k,v)::r else (k,x)::iq f v r) from rfl];by_cases a:k=f
  .rw [ai a];subst a;exact⟨by simp,λg h=>by simpa using h⟩
  .rw [al a];refine⟨?_,λg h=>?_⟩
   .rw [aF];exact aR _ i
   .rw [aF]at h ⊢;rcases aW.mp h with e|e
    .exact aW.mpr (.inl e)
    .exact aR _ (s g e)
theorem nj(f:Str)(v:V):∀fs:List (Str×V),(iq f v fs).length≤fs.length+1
 | []=>by simp[iq]
 |(k,x)::r=>by
  have i:=nj f v r;rw[show iq f v ((k,x)::r)=(if k=f then (k,v)::r else (k,x)::iq f v r) from rfl];by_cases h:k=f
  .rw [ai h,aX,aX];lia
  .rw [al h,aX,aX];lia
theorem ju.some_of{v:V}{o:OV}(r:ju (some v) o):∃u,o=some u/\RelV v u:=by
 cases o with
 |none=>exact(show False from r).elim
 |some u=>exact⟨u,rfl,r⟩
theorem ju.none_of{o:OV}(r:ju none o):o=none:=by
 cases o with
 |none=>rfl
 |some u=>exact(show False from r).elim
variable{v:V}
theorem AZ(r:RelV v u):yZ u=true:=by
 cases v with
 |non=>cases (show u=Value.none from r);rfl
 |bl b=>cases (show u=Value.bool b from r);rfl
 |int i=>obtain⟨t,e⟩:=(show ∃t,u=Value.int i t from r);cases e;rfl
 |str x=>obtain⟨t,e⟩:=(show ∃t,u=Value.str x t from r);cases e;rfl
 |byt b=>obtain⟨t,e⟩:=(show ∃t,u=Value.bytes b t from r);cases e;rfl
 |flt b=>obtain⟨t,e⟩:=(show ∃t,u=Value.float b t from r);cases e;rfl
 |ref a=>cases (show u=Value.ref a from r);rfl
 |ty n=>cases (show u=Value.type n from r);rfl
section
variable{P:Program}{w:World}{H H':Y}{h h':Heap}{a C dx:Addr}{fs fs':List (Str×V)}
theorem tW(o:kf P w H h)(e:H a=some (.ins C dx fs)):∃mA,ObjM h a dx C mA/\(∀f,ju (fs.lookup f) (mA f))/\v0 mA (fs.map (·.1))/\fs.length≤1000/\H dx=some (.own a):=by obtain⟨d,z,x,b,mA,n,r,q⟩:=(show cT P w H h a (.ins C dx fs) from o a _ e);exact⟨mA,⟨b,n,x⟩,r,q,z,d⟩
end
structure Cls(K:FG)(C:Addr):Prop where
 pg:ly K C Str.empty=true
 hd:oG K C=true
 po:sU K C=true
 sa:dN K (.ref C) "__setattr__"=some (some (.builtin "object.__setattr__"))
theorem Cls.get(c:Cls K C)(f:Str):ly K C f=true:=c.pg
def kY(K:FG)(C:Addr)(f:Str):Prop:=dN K (.ref C) f=some none
theorem kY.taker(n:kY K C f):sS K C f=some none:=by unfold sS;rw[show dN K (.ref C) f=some none from n];rfl
structure Con(K:FG)(C:Addr)(f:Str)(v:V)(u:Value):Prop where
 at_:dN K (.ref C) f=some (some u)
 rel:RelV v u
 get:y0 K u "__get__"=some none
 cp:PySem.W.copiedNames.contains f=false
structure Meth(K:FG)(C:Addr)(m:Str)(f:Addr):Prop where
 at_:dN K (.ref C) m=some (some (.ref f))
 fn:oD K (.ref f)=true
 kp:em K (.ref f)=true
section
variable{X:Cx}{pins:PN}{J:St}{H:Y}{s:Shared}{a C dx:Addr}{fs:List (Str×V)}{f:Str}{v:V}{A:Around}{E:VP}
theorem wX{b:Bool}{Q:VP}(I:Inv X pins J H s)(e:H a=some (.ins C dx fs))(c:Cls X.K C)(n:kY X.K C f)(l:fs.lookup f=some v)
  (h:∀u s',Inv X pins J H s'->RelV v u->Q u s'):wpAny (model X.p X.w) A (getAttr (.ref a) f b) Q E s:=by
 obtain⟨mA,k,r,_,_,_⟩:=tW I.h e;obtain⟨u,m,x⟩:=ju.some_of (v:=v) (o:=mA f) (by rw[<- l];exact r f);exact G1 I.kIn k (c.get f) c.hd n m (AZ x) (h u _ (I.tok _) x)
theorem pS{m:Str}{g:Addr}{p:Sem Bool}{Q:Value×LV->Shared->Prop}(I:Inv X pins J H s)(e:H a=some (.ins C dx fs))(c:Cls X.K C)(k:Meth X.K C m g)(l:fs.lookup m=none)
  (h:Q (.ref g,[.ref a]) s):wpAny (model X.p X.w) A (getMethod (.ref a) m p) Q E s:=by
 obtain⟨mA,x,r,_,_,_⟩:=tW I.h e;have n:mA m=none:=ju.none_of (by rw[<- l];exact r m);exact D7 I.kIn x (c.get m) k.at_ k.fn n h
theorem ww(I:Inv X pins J H s)(e:H a=some (.ins C dx fs))(c:Cls X.K C)(n:kY X.K C f)(hl:fs.length < 1000)(ry:RelV y u)
  (h:∀s',Inv X pins J (bN H a (.ins C dx (iq f y fs))) s'->Q () s'):wpAny (model X.p X.w) A (setAttr (.ref a) f u) Q E s:=by
 obtain⟨mA,O9,r,wi,_,ho⟩:=tW I.h e;have hz:(fs.map (·.1)).length≤sizeLine:=by rw[aU,jz];lia
 refine F6 I.kIn O9 c.sa c.po n.taker c.hd wi hz λh' O' sb=>h _ ?_;have hd:∃o,h'.get? dx=some o:=let ⟨o,_,_,e',_⟩:=O'.ns;⟨o,e'⟩
 refine I.write (x:=a) (e:=dx) (by rw[e];exact True.intro) (.inr ho) (λb q hb z=>(sb.2 b hb).trans z) hd ?_;refine⟨by rw[aj O9.ne];exact ho,?_,O9.ne,O'.obj,_,O'.ns,λg=>?_,λg hg=>?_⟩
 .have:=nj f y fs;lia
 .show ju ((iq f y fs).lookup g) (if g=f then some u else mA g);rw[ni];by_cases q:g=f
  .rw [ai q,ai q];exact ry
  .rw [al q,al q];exact r g
 .by_cases q:g=f
  .rw [q];exact(mI f y fs).1
  .refine (mI f y fs).2 g (wi g λz=>hg ?_);show(if g=f then some u else mA g)=none;rw[al q];exact z
theorem Inv.made(I:Inv X pins J H s):Inv X pins J (bN (bN H s.heap.objs.size (.own (s.heap.objs.size+1))) (s.heap.objs.size+1) (.ins C s.heap.objs.size []))
  { s with heap:=(s.heap.push gE).push (hY C s.heap.objs.size) }:=by
 have h:(s.heap.push gE).get? s.heap.objs.size=some gE:=bP s.heap rfl;have k:((s.heap.push gE).push (hY C s.heap.objs.size)).get? (s.heap.objs.size+1)=some (hY C s.heap.objs.size):=by have:=bP (s.heap.push gE) (o:=hY C s.heap.objs.size) rfl;rwa [oS]at this
 have f:(s.heap.push gE).Ns s.heap.objs.size (λ_=>none):=⟨gE,#[],_,h,rfl,(λe c=>absurd c (by simp)),λ_=>rfl⟩;have x:=I.laid (a:=s.heap.objs.size) (o:=.own (s.heap.objs.size+1)) (h':=s.heap.push gE) (t':=s.toks) (λb u q=>aV _ q) (ag _) ⟨_,h⟩;refine x.laid (a:=s.heap.objs.size+1) (o:=.ins C s.heap.objs.size []) (t':=s.toks) (λb u q=>aV _ q) (yR (oS _ _)) ?_;have n:s.heap.objs.size≠s.heap.objs.size+1:=bc (fU _);refine⟨by rw[aj n,aJ],b9 _,n,k,λ_=>none,(Heap.Ns1.of_empty f).at λo q=>aV _ q,λ_=>True.intro,λy m=>absurd rfl m⟩
theorem Hi(b:attributeBase e f q (eval e q)=eval e q)
  (h:wpAny (model prog w) A (eval e q) (λo x=>wpAny (model prog w) A (getAttr o f true) Q E x) E s):wpAny (model prog w) A (eval (.Attribute e f B) q) Q E s:=
 Attribute_any_ h (by rw[arm_eval_Attribute,b])
end
def OK(K:FG)(ta:TE)(f:Str):TE:=λJ H Q=>ta J H λx G=>∃a C dx fs v,x=.ref a/\G a=some (.ins C dx fs)/\Cls K C/\kY K C f/\fs.lookup f=some v/\Q v G
def OY(K:FG)(ta tv:TE)(f:Str):TS:=λD J H=>tv J H λy G=>ta J G λx H2=>∃a C dx fs,x=.ref a/\H2 a=some (.ins C dx fs)/\Cls K C/\kY K C f/\fs.length < 1000 /\
 D.nx J (bN H2 a (.ins C dx (iq f y fs)))
section
variable{X:Cx}{o e value:Expr}{f:Str}{B pos' tpos:Pos}{ta tv:TE}
theorem Jo(t:O X e ta)(r:attributeBase e f X.e (eval e X.e)=eval e X.e):O X (.Attribute e f B) (OK X.K ta f):=by intro pins s J H Q I h;refine Hi r (cK (t pins s J H _ I h) λu w z=>?_);obtain⟨x,G,k,d,a,C,dx,fs,v,ex,m,c,n,l,q⟩:=z;subst ex;obtain rfl:u=Value.ref a:=d;exact wX k m c n l λi g b p=>⟨v,G,b,p,q⟩
theorem Jd(r:O X o ta)(v:O X value tv)(t:swapsWith value (some (.Attribute o f pos')) B.line X.e=pure false):PS X (.Assign [.Attribute o f pos'] value B) (OY X.K ta tv f):=by intro pins s J H D I h;refine plainObj_wpAny_Assign_Attribute (cK (v pins s J H _ I h) λu i ⟨y,G,e,g,q⟩=>cK (r pins i J G _ e q) λp j z=>?_) t;obtain⟨x,H2,k,w,a,C,dx,fs,ex,m,c,n,l,d⟩:=z;subst ex;obtain rfl:p=Value.ref a:=w;exact ww k m c n l g λS b=>⟨J,_,b,d⟩
end
section
variable{X:Cx}{pins:PN}{J:St}{H:Y}{s:Shared}{A:Around}{E:VP}{Q:VP}{c:Value}{b:Bool}
inductive TyOf(K:FG)(H:Y):V->Value->Prop where
 |non:TyOf K H .non (.type "NoneType")
 |bl (x:Bool):TyOf K H (.bl x) (.type "bool")
 |int (i:Int):TyOf K H (.int i) (.type "int")
 |str (x:Str):TyOf K H (.str x) (.type "str")
 |flt (x:UInt64):TyOf K H (.flt x) (.type "float")
 |lst {a:Addr}{xs:List V} (e:H a=some (.lst xs)):TyOf K H (.ref a) (.type "list")
 |frz {a:Addr}{o:Obj}{xs:List V} (e:H a=some (.frz o (.lst xs))):TyOf K H (.ref a) (.type "list")
 |tup {a:Addr}{xs:List V} (e:H a=some (.tup xs)):TyOf K H (.ref a) (.type "tuple")
 |dK {a:Addr}{kvs:List (dJ×V)} (e:H a=some (.dK kvs)):TyOf K H (.ref a) (.type "dict")
 |dT {a:Addr}{kvs:List (List dJ×V)} (e:H a=some (.dT kvs)):TyOf K H (.ref a) (.type "dict")
 |ins {a C dx:Addr}{fs:List (Str×V)} (e:H a=some (.ins C dx fs)) (cl:Cls K C) (ha:dN K (.ref C) "__class__"=some (some (.builtin "object.__class__")))
   (hn:y0 K (.builtin "object.__class__") "__get__"=some (some (.builtin "getset_descriptor.__get__"))) (htk:PySem.W.takesIn K (.builtin "object.__class__")=some true)
   (hm:PySem.W.mroIn K C (.type "object")=some true):TyOf K H (.ref a) (.ref C)
end
structure Room(k:Nat)(A:Around):Prop where
 hd:A.handled=none
 dp:A.depth+3 * k+5 < recursionLimit
 un:A.units+16 * k+200 < cLine
variable{k:Nat}
theorem Room.mono(r:Room k A)(h:q≤k):Room q A:=⟨r.hd,by have:=r.dp;lia,by have:=r.un;lia⟩
theorem Room.deeper(r:Room (k+1) A)(e:Env):Room k (A.deeper e):=
 ⟨r.hd,by have:=r.dp;show A.depth+1+3 * k+5 < _;lia,by have:=r.un;show A.units+3+16 * k+200 < _;lia⟩
variable{kw:List (Str×Value)}
theorem wK:(A.under (.builtin "type.__call__" ⟨.ref C::j,kw⟩)).depth=A.depth+1:=by first|rfl|simp[rY,Code.weight,Code.isCreation,Code.isGuard,Code.isCaller,Code.frames,Code.isFrame,guardIds]
theorem wJ:(A.under (.builtin "type.__call__" ⟨.ref C::j,kw⟩)).units=A.units+1:=by first|rfl|simp[rY,Code.cUnits,Code.frames,Code.isFrame]
theorem Room.make(r:Room (k+1) A)(C:Addr)(j:LV)(kw:List (Str×Value)):Room k (A.under (.builtin "type.__call__" ⟨.ref C::j,kw⟩)):=
 ⟨r.hd,by have:=r.dp;rw[wK];lia,by have:=r.un;rw[wJ];lia⟩
theorem Room.depth(r:Room k A):A.depth < recursionLimit:=by have:=r.dp;lia
noncomputable def LM:TA:=λ_ H Q=>Q [] H
noncomputable def LR(ta:TE)(tr:TA):TA:=λJ H Q=>ta J H λx G=>tr J G λxs H2=>Q (x::xs) H2
section
variable{X:Cx}{e:Expr}{es:Ab}{te:TE}{t:TA}{B:Pos}
theorem fH:PA X [] LM:=λ_ _ _ _ H Q I h=>g9 ⟨[],H,I,.nil,h⟩
theorem dI(k:O X e te)(r:PA X es t)(f:starEach (e::es) X.e=(false,eval e X.e)::starEach es X.e:=by rfl):PA X (e::es) (LR te t):=by intro B pins s J H Q I h;rw[f];show wpAny _ _ (spliced ((false,eval e X.e)::backTo B (starEach es X.e))) _ _ s;refine ei (cK (k pins s J H _ I h) λu p z=>?_);obtain⟨x,G,a,c,q⟩:=z;exact cK (r B pins p J G _ a q) λj v z=>by obtain⟨xs,H2,n,m,b⟩:=z;exact⟨x::xs,H2,n,.cons c m,b⟩
def OC(t:TA):TE:=λJ H Q=>t J H λxs G=>xs.length≤sizeLine/\∀p,G p=none->Q (.ref p) (bN G p (.tup xs))
def OH(t:TA):TE:=λJ H Q=>t J H λxs G=>xs.length≤sizeLine/\∀p,G p=none->Q (.ref p) (bN G p (.lst xs))
theorem tH {N} (h:PA X es t):O X (.Tuple es N B) (OC t):=by intro pins s J H Q I n;refine wpAny_Tuple_spliced (cK (h B pins s J H _ I n) λj x k=>?_);obtain⟨xs,G,a,r,z,q⟩:=k;refine⟨by rw[<- r.length];exact z,?_⟩;have f:G x.heap.objs.size=none:=a.h.fresh (ag _);refine⟨.ref x.heap.objs.size,bN G x.heap.objs.size (.tup xs),a.laid (t':=x.toks) (λb u e=>aV _ e) (ag _) ?_,rfl,q _ f⟩;exact⟨z,j,r,mX.new _ _⟩
theorem wF(h:PA X es t):O X (.List es B) (OH t):=by intro pins s J H Q I n;refine wpAny_List_spliced (cK (h B pins s J H _ I n) λj x k=>?_);obtain⟨xs,G,a,r,z,q⟩:=k;refine⟨by rw[<- r.length];exact z,?_⟩;have f:G x.heap.objs.size=none:=a.h.fresh (ag _);refine⟨.ref x.heap.objs.size,bN G x.heap.objs.size (.lst xs),a.laid (t':=x.toks) (λb u e=>aV _ e) (ag _) ?_,rfl,q _ f⟩;exact⟨z,j,0,r,bP _ rfl⟩
end
noncomputable abbrev Sp:=List V->Y->VK->XK->Prop
noncomputable abbrev Bq:=List Env->Y->Shared->XK->VP
structure Env0(P:Program)(w:World)(K:FG)(mg:SV)(base:Heap)(A:Around)(outer:List Env)(s:Shared)(H:Y):Prop where
 frames:A.frames=some outer
 mod:Mod K mg base
 bs:∀b o,base.get? b=some o->s.heap.get? b=some o/\H b=none
 bsz:base.objs.size≤s.heap.objs.size
 funs:s.heap.FunFrames base outer
 frf:∀b ∈ D_ outer,H b=none
 tab:∀P ∈ bS K,H P=some .tbl
 h:kf P w H s.heap
 bare:AllBare s.gens
def CE(o:List Env)(P:Program)(w:World)(H:Y)(s:Shared)(Q:VK)(u:Value)(s':Shared):Prop:=
 ∃v H',s'.os=s.os/\AllBare s'.gens/\Un (D_ o) [] H H' s.heap s'.heap/\kf P w H' s'.heap/\RelV v u/\Q v H'
def CR(CX:Bq)(o:List Env)(P:Program)(w:World)(H:Y)(s:Shared)(Q:VK)(E:XK)(r:Result)(s':Shared):Prop:=
 match r with
 | .ok (.ret u)=>CE o P w H s Q u s'
 | .ok _=>False
 | .error e=>CX o H s E e s'
structure FnOk(P:Program)(w:World)(K:FG)(mg:SV)(base:Heap)(CX:Bq)(k:Nat)(f:Addr)(fd:FuncData)(ps:LS)(sp:Sp):Prop where
 len:∀vs H Q E,sp vs H Q E->vs.length=ps.length
 run:∀(A:Around)(outer:List Env)(s:Shared)(H:Y)(args:Args)(us:LV)(vs:List V)(Q:VK)(E:XK),Room k A->Env0 P w K mg base A outer s H->BindsTo s fd args (ps.zip us)->bb vs us->sp vs H Q E ->
  codeAny (model P w) A (.call (.ref f) args) (CR CX outer P w H s Q E) s
variable{mg:SV}{base:Heap}{fd:FuncData}{ps:LS}
theorem FnOk.mono(F:FnOk P w K mg base CX q f fd ps sp)(h:q≤k) :
  FnOk P w K mg base CX k f fd ps sp:=⟨F.len,λA o s H a j v Q E r=>F.run A o s H a j v Q E (r.mono h)⟩
theorem FnOk.imp(F:FnOk P w K mg base CX k f fd ps sp)
  (h:∀v H Q E,z v H Q E->sp v H Q E):FnOk P w K mg base CX k f fd ps z:=
 ⟨λv H Q E q=>F.len v H Q E (h _ _ _ _ q),λA o s H a j v Q E r e b n x=>F.run A o s H a j v Q E r e b n (h _ _ _ _ x)⟩
theorem Env0.make(e:Env0 P w K mg base A q s H)(C:Addr)(j:LV)(kw:List (Str×Value)) :
  Env0 P w K mg base (A.under (.builtin "type.__call__" ⟨.ref C::j,kw⟩)) q s H:=⟨by first|exact e.frames|(simpa[rY,Code.envs,Code.isFrame,pushEnvs] using e.frames),e.mod,e.bs,e.bsz,e.funs,e.frf,e.tab,e.h,e.bare⟩
section
variable{X:Cx}{pins:PN}{J:St}{H:Y}{s s':Shared}
theorem Inv.env0(I:Inv X pins J H s):Env0 X.p X.w X.K X.g X.b X.A X.k s H:=
 ⟨I.o.frames,I.o.mod,I.bs,bh I.o.bsz I.sz,I.stack,I.stkFree,λP h=>I.base.tbls P (I.o.tab P h),I.h,I.bare⟩
theorem Inv.after(I:Inv X pins J H s)(h:CE X.k X.p X.w H s Q u s'):EP X pins J Q u s':=by obtain⟨v,H',os,a,un,o,r,q⟩:=h;obtain⟨e,g,d,t,x⟩:=s';obtain rfl:x=s.os:=os;exact⟨v,H',I.call (h':=e) (g':=g) (d':=d) (t':=t) (ch:=[]) un o a (λb z=>absurd z (by simp)),r,q⟩
end
noncomputable def LU(sp:Sp)(dvs:List V)(E:XK)(t:TA):TE:=λJ H Q=>t J H λv G=>sp (v++dvs) G Q E
def Cj(C:Addr)(m:Str)(sp:Sp)(dvs:List V)(E:XK)(ta:TE)(t:TA):TE:=λJ H Q=>ta J H λx G=>∃a dx fs,x=.ref a/\G a=some (.ins C dx fs)/\fs.lookup m=none /\
 t J G λv H2=>sp (x::(v++dvs)) H2 Q E
def LO(C:Addr)(sp:Sp)(dvs:List V)(E:XK)(t:TA):TE:=λJ H Q=>t J H λs G=>∀x dx,G x=none->G dx=none->dx≠x ->
 sp (.ref x::(s++dvs)) (bN (bN G dx (.own x)) x (.ins C dx [])) (λv H2=>v=.non/\Q (.ref x) H2) E
def Binds(K:FG)(fd:FuncData)(ps:LS)(ds:LV):Prop:=
 ∀(s:Shared)(j:LV),K.In s.heap->(j++ds).length=ps.length->BindsTo s fd ⟨j,[]⟩ (ps.zip (j++ds))
theorem Binds.all(h:∀j:LV,j.length=ps.length->bindArgs fd ⟨j,[]⟩=pure (ps.zip j)):Binds K fd ps []:=λs j _ l=>by rw[dR]at l ⊢;exact .of_eq (h j l)
def kX(CX:Bq)(X:Cx)(E:XK):Prop:=∀(pins:PN)(J:St)(H:Y)(s:Shared)(e:Value)(s':Shared),Inv X pins J H s->CX X.k H s E e s'->X.xe e s'
section
variable{X:Cx}{CX:Bq}{k:Nat}{f C:Addr}{fd:FuncData}{ps:LS}{sp:Sp}{dvs:List V}{ds:LV}{E:XK}{x m:Str}{p B apos:Pos}{e o:Expr}{es:Ab}{ta:TE}{t:TA}
set_option tactic.hygienic true in
theorem wz(F:FnOk X.p X.w X.K X.g X.b CX k f fd ps sp)(n:Room k X.A)(b:Binds X.K fd ps ds)(hd:bb dvs ds)(c:kX CX X E)
  (I:Inv X pins J H s) (r:bb z j) (h:sp (z++dvs) H Q E):wx X (call (.ref f) j) (EP X pins J Q) X.xe s:=by
 have x:bb (z++dvs) (j++ds):=r.append hd;have a:(j++ds).length=ps.length:=by rw[<- x.length];exact F.len _ _ _ _ h
 refine vS (rJ (F.run X.A X.k s H ⟨j,[]⟩ (j++ds) (z++dvs) Q E n I.env0 (b s j I.kIn a) x h) λr s' q=>?_);cases r with
 |error e=>exact c pins J H s e s' I q
 |ok l=>
  cases l with
  |ret u=>exact I.after q
  |next=>exact False.elim q
  |brk=>exact False.elim q
  |cont=>exact False.elim q
theorem tJ(F:FnOk X.p X.w X.K X.g X.b CX k f fd ps sp)(w:Room k X.A)(g:Gl X x)(v:X.g x=some (.ref f))(m:em X.K (.ref f)=true)(b:Binds X.K fd ps ds)(hd:bb dvs ds)(u:kX CX X E)
  (n:PA X (e::es) t) (d:(x == ("__debug__":Str))=false:=by decide) (c:starEach (e::es) X.e=(false,eval e X.e)::starEach es X.e:=by rfl) (l:(backTo B (starEach es X.e)).any (·.1)=false:=by rfl) :
  O X (.Call (.Name x p) (e::es) [] B) (LU sp dvs E t):=by
 intro pins s J H Q I h;refine jA (tR I g v ?_ d);refine sV (h₀:=X.b) I.o.mod.kin m (cK (n B pins s J H _ I h) λj i z=>?_) c l;obtain⟨y,G,a,r,q⟩:=z;refine⟨a.kIn,?_⟩;exact wz F w b hd u a r q
theorem Gy(y:O X o ta)(c:Cls X.K C)(d:Meth X.K C m f)(F:FnOk X.p X.w X.K X.g X.b CX k f fd ps sp)(S:Room k X.A)(i:Binds X.K fd ps ds)(hd:bb dvs ds)(P:kX CX X E)(g:PA X (e::es) t)
  (n:starEach (e::es) X.e=(false,eval e X.e)::starEach es X.e:=by rfl) (p:(backTo B (starEach es X.e)).any (·.1)=false:=by rfl)
  (K:eval (.Call (.Attribute o m apos) (e::es) [] B) X.e=(do
   let N <- eval o X.e
   standAt apos.atName
   let (f,first) <- holding [N] (getMethod N m pl)
   callWith B f first (backTo B (starEach (e::es) X.e)) (backToKw B (keywordEach [] X.e))):=by rfl) :
  O X (.Call (.Attribute o m apos) (e::es) [] B) (Cj C m sp dvs E ta t):=by
 intro pins s J H Q I h;refine y2 (pl:=pl) (cK (y pins s J H _ I h) λu L z=>?_) K;obtain⟨x,G,b,D,a,dx,fs,ex,w,l,q⟩:=z;subst ex;obtain rfl:u=Value.ref a:=D;refine pS b w c d l ?_;refine sV (first:=[.ref a]) (h₀:=X.b) I.o.mod.kin d.kp (cK (g B pins L J G _ b q) λj R z=>?_) n p;obtain⟨M,H2,v,r,A⟩:=z;refine⟨v.kIn,?_⟩;exact wz (j:=.ref a::j) (z:=.ref a::M) F S i hd P v (.cons rfl r) A
theorem C0(t:O X o ta)(c:Cls X.K C)(n:Meth X.K C m f)(F:FnOk X.p X.w X.K X.g X.b CX k f fd ps sp)(p:Room k X.A)(r:Binds X.K fd ps ds)(hd:bb dvs ds)(d:kX CX X E)
  (v:eval (.Call (.Attribute o m apos) [] [] B) X.e=(do
   let z <- eval o X.e
   standAt apos.atName
   let (f,first) <- holding [z] (getMethod z m N)
   callWith B f first (backTo B (starEach [] X.e)) (backToKw B (keywordEach [] X.e))):=by rfl) :
  O X (.Call (.Attribute o m apos) [] [] B) (Cj C m sp dvs E ta LM):=by
 intro pins s J H Q I h;refine y2 (pl:=N) (cK (t pins s J H _ I h) λu i w=>?_) v;obtain⟨x,G,e,g,a,dx,fs,ex,b,l,q⟩:=w;subst ex;obtain rfl:u=Value.ref a:=g;refine pS e b c n l ?_;exact PySem.W.callWith_K0 (first:=[.ref a]) e.kIn n.kp (wz (j:=[.ref a]) (z:=[.ref a]) F p r hd d e (.cons rfl .nil) q)
structure Mk(K:FG)(C f:Addr):Prop where
 makes:sR K C=true
 init:dN K (.ref C) "__init__"=some (some (.ref f))
 fn:oD K (.ref f)=true
 kp:em K (.ref C)=true
set_option tactic.hygienic true in
theorem CC(M:Mk X.K C f)(F:FnOk X.p X.w X.K X.g X.b CX k f fd ps sp)(d:Room (k+1) X.A)(t:Binds X.K fd ps ds)(hd:bb dvs ds)
  (w:kX CX X E) (I:Inv X pins J H s) (r:bb z j)
  (h:∀x dx,H x=none->H dx=none->dx≠x->sp (.ref x::(z++dvs)) (bN (bN H dx (.own x)) x (.ins C dx [])) (λv H2=>v=.non/\Q (.ref x) H2) E) :
  wx X (call (.ref C) j) (EP X pins J Q) X.xe s:=by
 have n:=h (s.heap.objs.size+1) s.heap.objs.size (I.h.fresh (hW _)) (I.h.fresh (ag _)) (bc (fU _));have a:=Inv.made (C:=C) I;have b:bb (V.ref (s.heap.objs.size+1)::(z++dvs)) (Value.ref (s.heap.objs.size+1)::(j++ds)):=.cons rfl (r.append hd);have p:(Value.ref (s.heap.objs.size+1)::j++ds).length=ps.length:=by have e:=b.length;rw[F.len _ _ _ _ n]at e;exact e.symm
 refine vS (Dt (f:=f) I.kIn M.makes M.init (o_.mp M.fn) (rJ (F.run _ X.k _ _ ⟨Value.ref (s.heap.objs.size+1)::j,[]⟩ (Value.ref (s.heap.objs.size+1)::(j++ds)) _ _ E (d.make C j [])
  (a.env0.make C j []) (t _ (Value.ref (s.heap.objs.size+1)::j) a.kIn p) b n) λr s' q=>?_))
 cases r with
 |error e=>exact w pins J _ _ e s' a q
 |ok l=>
  cases l with
  |ret u=>obtain⟨v,H',c,i,m,g⟩:=a.after q;subst m;exact⟨i,⟨V.ref (s.heap.objs.size+1),H',c,rfl,g⟩⟩
  |next=>exact False.elim q
  |brk=>exact False.elim q
  |cont=>exact False.elim q
theorem zw(M:Mk X.K C f)(F:FnOk X.p X.w X.K X.g X.b CX k f fd ps sp)(v:Room (k+1) X.A)(g:Gl X x)(m:X.g x=some (.ref C))(b:Binds X.K fd ps ds)(hd:bb dvs ds)(w:kX CX X E)
  (n:PA X (e::es) t) (d:(x == ("__debug__":Str))=false:=by decide) (c:starEach (e::es) X.e=(false,eval e X.e)::starEach es X.e:=by rfl) (l:(backTo B (starEach es X.e)).any (·.1)=false:=by rfl) :
  O X (.Call (.Name x p) (e::es) [] B) (LO C sp dvs E t):=by
 intro pins s J H Q I h;refine jA (tR I g m ?_ d);refine sV (h₀:=X.b) I.o.mod.kin M.kp (cK (n B pins s J H _ I h) λj u z=>?_) c l;obtain⟨i,G,a,r,q⟩:=z;refine⟨a.kIn,?_⟩;exact CC M F v b hd w a r q
end
section
variable{X:Cx}{CX:Bq}{k:Nat}{f C:Addr}{fd:FuncData}{ps ks:LS}{sp:Sp}{E:XK}{x m:Str}{p B apos kpos:Pos}{e o:Expr}{es:Ab}{kws:List Keyword}{te ta:TE}{t tk:TA}{nm:Option Str}
structure KBinds(K:FG)(fd:FuncData)(ps ks:LS)(g:LV->LV->LV)(gV:List V->List V->List V):Prop where
 to:∀(s:Shared)(us ws:LV),K.In s.heap->(g us ws).length=ps.length->BindsTo s fd ⟨us,ks.zip ws⟩ (ps.zip (g us ws))
 rel:∀{vs:List V}{us:LV}{zs:List V}{ws:LV},bb vs us->bb zs ws->bb (gV vs zs) (g us ws)
variable{g:LV->LV->LV}{gV:List V->List V->List V}
end
structure FnScope(N P:LS)(sc:Scope):Prop where
 kind:sc.kind=.function
 co:sc.isCoroutine=false
 gen:sc.isGenerator=false
 nd:N.Nodup
 pre:N.take P.length=P
 par:∀x ∈ P,sc.names.lookup x=some .local\/sc.names.lookup x=some .cell
 nofree:∀y ∈ sc.names,y.2≠.free
theorem rj{kindOf:Str->Option NameKind}{x:Str}:∀{b:List (Str×Value)}{m:SV},(∀v,(x,v) ∉ b)->bindL kindOf b m x=m x
 | [],_,_=>rfl
 |(n,v)::r,m,h=>by
  unfold bindL;rw[rj λw hw=>h w (aR _ hw)];split
  .have:x≠n:=by rintro rfl;exact h v aO
   simp[this]
  .rfl
theorem rn{kindOf:Str->Option NameKind}{x:Str}:∀{b:List (Str×Value)}{m:SV},(∀v,(x,v) ∉ b)->bindC kindOf b m x=m x
 | [],_,_=>rfl
 |(n,v)::r,m,h=>by
  unfold bindC;rw[rn λw hw=>h w (aR _ hw)];split
  .rfl
  .have:x≠n:=by rintro rfl;exact h v aO
   simp[this]
theorem rk{kindOf:Str->Option NameKind}{x:Str}{v:Value}:∀{P:LS}{s:LV}{i:Nat}{m:SV},P.Nodup->P[i]? = some x->s[i]? = some v->kindOf x=some .local ->
  bindL kindOf (P.zip s) m x=some v
 | [],_,_,_,_,h,_,_=>by simp at h
 |_::_,[],_,_,_,_,h,_=>by simp at h
 |p::P,w::s,0,m,n,h1,h2,k=>by simp at h1 h2;subst h1;subst h2;show bindL kindOf ((p,w)::P.zip s) m p=_;unfold bindL;rw[rj λv a=>(b8.mp n).1 (ou a).1,ai k];simp
 |p::P,w::s,i+1,m,n,h1,h2,k=>by show bindL kindOf ((p,w)::P.zip s) m x=_;unfold bindL;exact rk (i:=i) (b8.mp n).2 (by simpa using h1) (by simpa using h2) k
theorem rD{kindOf:Str->Option NameKind}{x:Str}{v:Value}:∀{P:LS}{s:LV}{i:Nat}{m:SV},P.Nodup->P[i]? = some x->s[i]? = some v->kindOf x≠some .local ->
  bindC kindOf (P.zip s) m x=some v
 | [],_,_,_,_,h,_,_=>by simp at h
 |_::_,[],_,_,_,_,h,_=>by simp at h
 |p::P,w::s,0,m,n,h1,h2,k=>by simp at h1 h2;subst h1;subst h2;show bindC kindOf ((p,w)::P.zip s) m p=_;unfold bindC;rw[rn λv a=>(b8.mp n).1 (ou a).1,al k];simp
 |p::P,w::s,i+1,m,n,h1,h2,k=>by show bindC kindOf ((p,w)::P.zip s) m x=_;unfold bindC;exact rD (i:=i) (b8.mp n).2 (by simpa using h1) (by simpa using h2) k
noncomputable def start(N:LS)(v:List V):St:=v.map some++List.replicate (N.length-v.length) none
noncomputable def vq(CX:Bq)(P:Program)(w:World)(K:FG)(mg:SV)(base:Heap)(N:LS)(q:Str)(h:Scope)(f:Addr)(d:Value)(A:Around)(u:List Env)(s:Shared)(H:Y)(E:XK):Cx where
 p:=P
 w:=w
 K:=K
 g:=mg
 b:=base
 A:=A.deeper (envOfC q h s.heap.objs.size f d)
 N:=N
 z:=s
 y:=H
 e:=envOfC q h s.heap.objs.size f d
 o:=u
 k:=envOfC q h s.heap.objs.size f d::u
 ex:=[]
 c:=true
 fn:=λ_=>true
 pn:=[]
 xe:=λe s'=>wpAny (model P w) (A.deeper (envOfC q h s.heap.objs.size f d)) (leaving (envOfC q h s.heap.objs.size f d) e) (λ_ x=>CX u H s E e x) (λa x=>CX u H s E a x) s'
variable{x:Str}
theorem vD{sc:Scope}(h:sc.names.lookup x=some .cell):∃c,(cellsFrom n sc.names []).lookup x=some c:=by have q:=y3 sc.names n [] (.inl h);exact jY.mp q
theorem AV{CX:Bq}{P:Program}{w:World}{K:FG}{mg:SV}{base:Heap}{N ps:LS}{l:Str}{o:Scope}{f:Addr}{D:Value}{A:Around}{t:List Env}{s L:Shared}{H:Y}{E:XK}{j:LV}{F:List V}
  (S:FnScope N ps o) (hd:A.handled=none) (m:Env0 P w K mg base A t s H) (W:F.length=ps.length) (r:bb F j)
  (x:InCallC s s.heap.objs.size (bindL (envOfC l o s.heap.objs.size f D).kindOf (ps.zip j) λ_=>none) (cellsFrom (s.heap.objs.size+1) o.names []) (bindC (envOfC l o s.heap.objs.size f D).kindOf (ps.zip j) λ_=>none) L) :
  Inv (vq CX P w K mg base N l o f D A t s H E) [] (start N F) H L:=by
 have Q:ps.length≤N.length:=by have:=d8 lj S.pre;rw[fQ]at this;lia
 obtain⟨h1,tk,rfl,G⟩:=x.done;have g:∀b:Addr,b ∉ (vq CX P w K mg base N l o f D A t s H E).ex:=fun b z=>absurd (show b ∈ ([]:List Addr) from z) (by simp);refine⟨⟨m.mod,S.kind,rfl,rfl,ag _,fun y z c h1 h2=>?_,fun y d=>?_,fun y c _ h=>?_,fun _=>hd,Around.frames_deeper m.frames,.inr ⟨rfl,rfl⟩,fun b z=>absurd z (g b),m.bs,m.bsz,fun b _ _=>g b,fun b z=>absurd z (g b),m.funs,m.frf,m.tab⟩,
  rfl,m.bare,Un.kept G,⟨_,x.toInCall.ns,λi y v h1 h2 T=>?_⟩,λy c h=>⟨_,x.cell y c h⟩,m.h.fresh (ag _),λy c h=>?_,λp B=>absurd (show p ∈ ([]:PN) from B) (by simp),m.h.kept G,?_⟩
 .exact name_of_addr x.apart (o8 h1) (o8 h2)
 .have d:o.names.lookup y=some .cell\/o.names.lookup y=some .free:=d;rcases d with d|d
  .exact vD d
  .exact absurd rfl (S.nofree _ (o8 d))
 .exact gB (x.above y c (o8 h))
 .have hi:i < F.length:=by
   unfold start at h2;by_cases hi:i < F.length
   .exact hi
   .rw [bU (by simpa using hi)]at h2;rw[sK]at h2;split at h2<;>cases h2
  have M:F[i]? = some v:=by
   unfold start at h2;rw[bw (by simpa using hi),aZ]at h2;cases e:F[i]? with
   |none=>rw[e]at h2;cases h2
   |some a=>rw[e]at h2;cases h2;rfl
  obtain⟨u,I,R⟩:=r.get M;have B:ps[i]? = some y:=by rw[<- S.pre,j3 (by lia)];exact h1
  have C:ps.Nodup:=by rw[<- S.pre];exact S.nd.sublist (yB _ _)
  refine⟨u,R,?_⟩;rcases S.par y (aM B) with k|k
  .exact .inl ⟨k,rk C B I k⟩
  .obtain⟨c,e⟩:=vD (n:=s.heap.objs.size+1) k;refine .inr ⟨.inl k,c,e,?_⟩;have q:=x.cell y c e;rw[rD C B I (by show o.names.lookup y≠_;rw[k];decide)]at q;exact q
 .exact m.h.fresh (gB (x.above y c (o8 h)))
 .unfold start;show _=N.length;rw[bK,aU,sJ];lia
set_option tactic.hygienic true in
theorem M3{CX:Bq}{P:Program}{w:World}{K:FG}{mg:SV}{base:Heap}{k:Nat}{f:Addr}{name a:Str}{p:Arguments}{m:List Stmt}{c:Scope}{dV kV B pm d ct oc:Value}{an od:Option Addr}
  {W:Array (OV)}{N ps:LS}{sp:Sp} (lk:K.lookup f=some ⟨oc,od,.func (fV name a p m c dV kV B pm an d ct),W⟩) (M:fW K d a=true) (S:FnScope N ps c)
  (len:∀g H Q E,sp g H Q E->g.length=ps.length)
  (l:∀(A:Around) (h:List Env) (s:Shared) (H:Y) (g:List V) (Q:VK) (E:XK),Room k (A.deeper (envOfC a c s.heap.objs.size f d))->sp g H Q E ->
   ∃t,nQ (vq CX P w K mg base N a c f d A h s H E) m t/\t { nx:=λ_ H'=>Q .non H',rt:=Q } (start N g) H) :
  FnOk P w K mg base CX (k+1) f (fV name a p m c dV kV B pm an d ct) ps sp:=by
 refine⟨len,λA h s H args j g Q E R C hb r G=>?_⟩;have hl:=len _ _ _ _ G;have Z:K.In s.heap:=C.mod.kin.keeps λb o e=>(C.bs b o e).1;have T:s.heap.NoLimit:=C.mod.nolimit.keeps λb o e=>(C.bs b o e).1;have z:∀y ∈ ps.zip j,c.names.lookup y.1=some .local\/(c.names.lookup y.1=some .cell/\((cellsFrom (s.heap.objs.size+1) c.names []).lookup y.1).isSome=true):=λ⟨n,v⟩ hy=>by
  rcases S.par n (ou hy).1 with q|q
  .exact .inl q
  .exact .inr ⟨q,y3 _ _ _ (.inl q)⟩
 refine codeAny_call_function R.depth (Z _ _ lk) rfl S.co S.gen rfl (PySem.W.codeRec_of Z M) (hb _ _ _ _ ?_);refine wpAny_newFunctionEnv_cells S.kind z λenv he s1 x=>?_;subst he;refine⟨T.keeps x.toInCall.keep,codeAny_func ?_⟩;obtain⟨t,ht,hq⟩:=l A h s H g Q E (R.deeper _) G;have I:Inv (vq CX P w K mg base N a c f d A h s H E) [] (start N g) H s1:=AV S R.hd C hl r x;refine cy (ht [] s1 (start N g) H _ I hq) (λfl s' F=>?_) λe s' F=>F;have D:∀{L:St}{H':Y}{v:V}{u:Value},Inv (vq CX P w K mg base N a c f d A h s H E) [] L H' s'->RelV v u->Q v H'->CE h P w H s Q u s':=
  λ{L H' v u} i X q=>⟨v,H',i.os,i.bare,i.base,i.h,X,q⟩
 cases fl with
 |ret u=>obtain⟨v,L,H',i,X,q⟩:=F;exact D i X q
 |next=>obtain⟨L,H',i,q⟩:=F;exact D (v:=V.non) (u:=Value.none) i rfl q
 |brk=>obtain⟨_,_,_,q⟩:=F;exact False.elim q
 |cont=>obtain⟨_,_,_,q⟩:=F;exact False.elim q
section
variable{X:Cx}{x:Str}{p B:Pos}{e:Expr}{es:Ab}{t:TA}{id T:String}{r:List V->Y->VK->Prop}
noncomputable def P_(r:List V->Y->VK->Prop)(t:TA):TE:=λJ H Q=>t J H λv G=>r v G Q
theorem lH(c:dL X (.builtin id) r)(g:Gl X x)(m:X.g x=none)(v:bootBuiltins x=some (.builtin id))(n:PA X (e::es) t)(f:x≠"__name__":=by decide)(d:(x == ("__debug__":Str))=false:=by decide)
  (k:starEach (e::es) X.e=(false,eval e X.e)::starEach es X.e:=by rfl) (l:(backTo B (starEach es X.e)).any (·.1)=false:=by rfl):O X (.Call (.Name x p) (e::es) [] B) (P_ r t):=by
 intro pins s J H Q I h;refine jA (iu I g m v ?_ f d);exact FF (cK (n B pins s J H _ I h) λj w z=>by obtain⟨u,G,a,b,q⟩:=z;exact c pins w J G u j Q a b q) k l
theorem iF(c:dL X (.type T) r)(g:Gl X x)(m:X.g x=none)(v:bootBuiltins x=some (.type T))(n:PA X (e::es) t)(f:x≠"__name__":=by decide)(d:(x == ("__debug__":Str))=false:=by decide)
  (k:starEach (e::es) X.e=(false,eval e X.e)::starEach es X.e:=by rfl) (l:(backTo B (starEach es X.e)).any (·.1)=false:=by rfl):O X (.Call (.Name x p) (e::es) [] B) (P_ r t):=by
 intro pins s J H Q I h;refine jA (iu I g m v ?_ f d);exact iU (cK (n B pins s J H _ I h) λj w z=>by obtain⟨u,G,a,b,q⟩:=z;exact c pins w J G u j Q a b q) k l
end
end L2
set_option tactic.hygienic true
namespace HT
open PySem PyProof.Rows
section
variable{prog:Program}{w:World}{A:Around}{E:VP}{s:Shared}
theorem G9(g:IsTup s.heap t z.toArray)(u:IsTup s.heap b q.toArray)(v:z≠[])
  (h1:q=[]->Q (.ref t) s) (h2:q≠[]->Q (.ref s.heap.objs.size) { s with heap:=s.heap.push { cls:=.type "tuple",data:=.seq (z++q).toArray } })
  (a:z.length+q.length≤sizeLine):wpAny (model prog w) A (binaryOp .Add (.ref t) (.ref b)) Q E s:=by
 obtain⟨⟨N,f,I,p⟩,o,m,n,hd⟩:=id g;obtain⟨⟨k,d,data2,l⟩,h,c,r,x⟩:=id u;simp only at m hd c x;subst m hd c x;have e:z.toArray++q.toArray=(z++q).toArray:=by simp
 by_cases hw:q=[]
 .exact vT ⟨_,o,rfl⟩ ⟨_,h,rfl⟩ v9 vV rS rT (rW _ _)
   (tuple_addW1 t b z.toArray q.toArray n r f d p l (by simpa using v) (by simp[hw])) ⟨o,h,h1 hw⟩
 .refine vT ⟨_,o,rfl⟩ ⟨_,h,rfl⟩ v9 vV rS rT (rW _ _)
   (tuple_addW2 t b z.toArray q.toArray n r f d p l (by simpa using v) (by simpa using hw) (by rw[ba,ba];exact a)) ⟨o,h,?_⟩
  rw[e];exact h2 hw
noncomputable def eP(n d:Nat):Option Int->Nat
 |none=>d
 |some v=>if v < 0 then (v+(n:Int)).toNat else min v.toNat n
theorem IU(n d:Nat)(hd:d≤n)(o:Option Int):eP n d o≤n:=by
 cases o with
 |none=>exact hd
 |some v=>
  show(if v < 0 then (v+(n:Int)).toNat else min v.toNat n)≤n;by_cases h:v < 0
  .rw [ai h];lia
  .rw [al h];exact Nat.min_le_right _ _
theorem Ah(v:Int)(n d:Nat):(if v < 0 then max (v+(n:Int)) 0 else min v (n:Int))=((eP n d (some v):Nat):Int):=by
 show(if v < 0 then max (v+(n:Int)) 0 else min v (n:Int))=(((if v < 0 then (v+(n:Int)).toNat else min v.toNat n):Nat):Int);by_cases h:v < 0
 .simp only[ai h];lia
 .simp only[al h];lia
theorem xj(lo hi:Option Int)(n:Nat):rN lo hi 1 (n:Int)=(((eP n 0 lo:Nat):Int),((eP n n hi:Nat):Int)):=by
 have h1:¬((1:Int) < 0):=by lia
 unfold rN;simp only[h1,g7];refine Prod.ext ?_ ?_
 .cases lo with
  |none=>rfl
  |some v=>exact Ah v n 0
 .cases hi with
  |none=>rfl
  |some v=>exact Ah v n n
theorem wE(i j:Nat):nW (i:Int) (j:Int) 1=j-i:=by
 unfold nW;have h1:(1:Int) > 0:=by lia
 simp only[h1,eL,Int.ediv_one];split<;>lia
theorem pq(p:IsPart v o)(h:Q o s):wpAny (model prog w) A (E8 v) Q E s:=by
 cases p with
 |none=>exact xX h
 |int i t=>exact slicePart_int h
theorem iD{l:Addr}{v u:Value}{lo hi:Option Int}{n:Nat}{Q:Int×Int×Nat->Shared->Prop}(a:s.heap.IsSliceOf l v u .none)(p:IsPart v lo)(e:IsPart u hi)
  (h:Q (((eP n 0 lo:Nat):Int),1,eP n n hi-eP n 0 lo) s):wpAny (model prog w) A (xx (.ref l) (pure (n:Int))) Q E s:=by
 obtain⟨os,o,c,d⟩:=id a;unfold xx E7;refine ab (ab (dw o d (x:=v) rfl (ab (dw o d (x:=u) rfl (ab (dw o d (x:=.none) rfl (ah ?_)))))));refine ab (xX ?_);show wpAny _ _ (if ((1:Int) == 0)=true then _ else _) _ _ s;rw[al (by decide)];refine ab (pq p (ab (pq e (ab (ah ?_)))));show wpAny _ _ (match rN lo hi 1 (n:Int) with|(lo,hi)=>pure (lo,(1:Int),nW lo hi 1)) _ _ s;rw[xj lo hi n];show wpAny _ _ (pure (((eP n 0 lo:Nat):Int),(1:Int),nW ((eP n 0 lo:Nat):Int) ((eP n n hi:Nat):Int) 1)) _ _ s;rw[wE];exact ah h
theorem CW(xs:Array Value)(i k:Nat):((List.range k).filterMap λ(m:Nat)=>xs[((i:Int)+(m:Int) * 1).toNat]?).toArray=((xs.toList.drop i).take k).toArray:=by
 have e:(λ(m:Nat)=>xs[((i:Int)+(m:Int) * 1).toNat]?)=λm=>xs[i+m]?:=by
  funext m;have:((i:Int)+(m:Int) * 1).toNat=i+m:=by lia
  rw[this]
 rw[e];have:=pick_run xs i k
 rw[List.filterMap_map]at this;have h:((λx=>xs[x]?) ∘ λx=>i+x)=λm=>xs[i+m]?:=rfl;rw[h]at this;rw[this]
theorem lT{t l:Addr}{i:Array Value}{v u:Value}{lo hi:Option Int}{Q:VP}(x:IsTup s.heap t i)(e:s.heap.IsSliceOf l v u .none)(p:IsPart v lo)(k:IsPart u hi)
  (hw:¬(eP i.size 0 lo=0/\eP i.size i.size hi=i.size))
  (h:Q (.ref s.heap.objs.size) { s with heap:=s.heap.push { cls:=.type "tuple",data:=.seq ((i.toList.drop (eP i.size 0 lo)).take (eP i.size i.size hi-eP i.size 0 lo)).toArray } })
  (z:i.size≤sizeLine):wpAny (model prog w) A (getItem (.ref t) (.ref l)) Q E s:=by
 have a:sizeOk (.seq ((i.toList.drop (eP i.size 0 lo)).take (eP i.size i.size hi-eP i.size 0 lo)).toArray):=by show((i.toList.drop (eP i.size 0 lo)).take (eP i.size i.size hi-eP i.size 0 lo)).toArray.size≤sizeLine;rw[ba,fQ,sr,jV];lia
 have j:eP i.size i.size hi≤i.size:=IU _ _ (ag _) hi;obtain⟨os,o,c,d⟩:=id e;have T:s.TypeIs (.ref l) "slice":=⟨os,o,c⟩;unfold getItem;try with_reducible refine eK ?_
 first|refine ab (ah ?_)|skip
 refine ab (BI x.typeIs (by decide) ?_);refine ab (o9 (name:=Str.ofString "__getitem__") x.typeIs g8
  (mn g8 x.typeIs x4 ?_ (x3 _ _)))
 show wpAny _ _ (xw (.ref t) >>= _) _ _ s;refine ab (xV x ?_);refine ab (o3 T ?_);rw[ai (by decide)];refine ab (iD e p k ?_);have n:¬((((eP i.size 0 lo:Nat):Int) == 0 && (1:Int) == 1 && (eP i.size i.size hi-eP i.size 0 lo) == i.size)=true):=by intro q;rw[av,av]at q;have f:((eP i.size 0 lo:Nat):Int)=0:=eq_of_beq q.1.1;have b:eP i.size i.size hi-eP i.size 0 lo=i.size:=eq_of_beq q.2;exact hw ⟨by lia,by lia⟩
 show wpAny _ _ (if (((eP i.size 0 lo:Nat):Int) == 0 && (1:Int) == 1 && (eP i.size i.size hi-eP i.size 0 lo) == i.size)=true then _ else _) _ _ s;rw[al n,CW];first
  |exact ab (m:=nV _) (kH (ah ⟨_,rfl,ah h⟩) a)
  |exact ab (m:=nV _) (kH (ab (ah (ah ⟨_,rfl,ah h⟩))) a)
  |exact ab (ab (m:=nV _) (kH (ah (ah ⟨_,rfl,ah h⟩)) a))
  |exact ab (ab (m:=nV _) (kH (ah ⟨_,rfl,ah h⟩) a))
end
end HT
set_option tactic.hygienic false
namespace L2
open PySem PySem.Spec PyProof.Rows
noncomputable abbrev TO:=St->Y->(Option Int->Y->Prop)->Prop
def PO(X:Cx)(e:Option Expr)(t:TO):Prop:=
 ∀(pins:PN)(s:Shared)(J:St)(H:Y)(Q:Option Int->Y->Prop),Inv X pins J H s->t J H Q ->
  wx X (evalPart e X.e) (λu s'=>∃o H',Inv X pins J H' s'/\IsPart u o/\Q o H') X.xe s
noncomputable def FZ:TO:=λ_ H Q=>Q none H
noncomputable def LK(t:TE):TO:=λJ H Q=>t J H λx G=>∃i,x=.int i/\Q (some i) G
section
variable{X:Cx}{e:Expr}{te:TE}{lo hi:Option Expr}{tl th:TO}{B p2:Pos}
theorem Gr:PO X none FZ:=by intro pins s J H Q I h;rw[Bt];exact ah ⟨none,H,I,.none,h⟩
theorem Gq(h:O X e te):PO X (some e) (LK te):=by
 intro pins s J H Q I hw;rw[evalPart_some];refine cK (h pins s J H _ I hw) λu k z=>?_
 obtain⟨x,G,a,r,n⟩:=z;obtain⟨i,rfl,q⟩:=n;obtain⟨t,rfl⟩:=r;exact⟨some i,G,a,.int i t,q⟩
def HY(X:Cx)(r:V->Option Int->Option Int->Y->VK->Prop):Prop:=
 ∀(pins:PN)(s:Shared)(J:St)(H:Y)(x:V)(v h u:Value)(lo hi:Option Int)(l:Addr)(Q:VK),Inv X pins J H s->RelV x v->s.heap.IsSliceOf l h u .none->IsPart h lo->IsPart u hi->r x lo hi H Q ->
  ∃T id,typeLookup (.type T) "__getitem__"=pure (some (.builtin id))/\s.TypeIs v T/\wx X (getItem v (.ref l)) (EP X pins J Q) X.xe s
theorem HY.or(h:HY X r)(h':HY X z):HY X (λx lo hi H Q=>r x lo hi H Q\/z x lo hi H Q):=by
 intro pins s J H x v n k lo hi l Q I e a p u q;rcases q with q|q
 .exact h pins s J H x v n k lo hi l Q I e a p u q
 .exact h' pins s J H x v n k lo hi l Q I e a p u q
noncomputable def QO(r:V->Option Int->Option Int->Y->VK->Prop)(te:TE)(tl th:TO):TE:=λJ H Q=>te J H λx G=>tl J G λl H2=>th J H2 λu h=>r x l u h Q
theorem uW(j:HY X r)(w:O X e te)(i:PO X lo tl)(o:PO X hi th):O X (.Subscript e (.Slice lo hi none p2) B) (QO r te tl th):=by
 intro pins s J H Q I h;refine Subscript_ (cK (w pins s J H _ I h) λv D z=>?_);obtain⟨x,G,c,C,K⟩:=z;refine wpAny_Slice (cK (i pins D J G _ c K) λn E ⟨l,H2,m,S,P⟩=>cK (o pins E J H2 _ m P) λk a z=>?_);obtain⟨u,f,t,F,A⟩:=z;rw[Bt];refine ah ?_;have p:Inv X pins J f { a with heap:=a.heap.push { cls:=.type "slice",data:=.fields #[n,k,.none] } }:=t.kept (t':=a.toks) λb L q=>aV _ q
 obtain⟨T,id,d,y,g⟩:=j pins { a with heap:=a.heap.push { cls:=.type "slice",data:=.fields #[n,k,.none] } } J f x v n k l u a.heap.objs.size Q p C (Heap.IsSliceOf.new ..) S F A;show wx X (subscriptTail e (.Slice lo hi none p2) v (.ref a.heap.objs.size)) (EP X pins J Q) X.xe { a with heap:=a.heap.push { cls:=.type "slice",data:=.fields #[n,k,.none] } };exact oe (ops:=[.ref a.heap.objs.size,v]) y d g (by with_unfolding_all rfl)
def vr(xs:List V)(lo hi:Option Int):List V:=(xs.drop (HT.eP xs.length 0 lo)).take (HT.eP xs.length xs.length hi-HT.eP xs.length 0 lo)
theorem nA(xs:List V)(lo hi:Option Int):(vr xs lo hi).length≤xs.length:=by unfold vr;rw[fQ,sr];lia
def O0(K:FG):V->Option Int->Option Int->Y->VK->Prop:=λx lo hi H Q=>∃a xs,x=.ref a/\jw K H a xs /\
 ¬(HT.eP xs.length 0 lo=0/\HT.eP xs.length xs.length hi=xs.length)/\∀p,H p=none->Q (.ref p) (bN H p (.tup (vr xs lo hi)))
theorem IM:HY X (O0 X.K):=by
 intro pins s J H x v m d lo hi c Q I k e p u h;obtain⟨a,xs,rfl,n,hw,q⟩:=h;cases k;obtain⟨i,r,t,z⟩:=I.tuple n;have l:i.toArray.size=xs.length:=by rw[ba];exact r.length.symm
 refine⟨"tuple",_,g8.lookup,t.typeIs,?_⟩;refine HT.lT t e p u (by rw[l];exact hw) ?_ (by rw[l];exact z);rw[l];refine⟨.ref s.heap.objs.size,_,I.laid (t':=s.toks) (o:=.tup (vr xs lo hi)) (λb f q=>aV _ q) (ag _) ?_,rfl,q _ (I.h.fresh (ag _))⟩;exact⟨bh (nA xs lo hi) z,_,(r.drop (HT.eP xs.length 0 lo)).take (HT.eP xs.length xs.length hi-HT.eP xs.length 0 lo),mX.new _ _⟩
def Mc(K:FG):R2:=λx y H Q=>∃a b xs ys,x=.ref a/\y=.ref b/\jw K H a xs/\jw K H b ys/\xs≠[]/\xs.length+ys.length≤sizeLine /\
 (ys=[]->Q (.ref a) H)/\(ys≠[]->∀p,H p=none->Q (.ref p) (bN H p (.tup (xs++ys))))
theorem bb.nil_iff(r:bb xs j):j=[]↔xs=[]:=by
 cases r with
 |nil=>simp
 |cons _ _=>simp
theorem GD:iB X (binaryOp .Add) (Mc X.K):=by intro pins s J H x y v u Q I g j h;obtain⟨a,b,xs,ys,rfl,rfl,k,f,c,n,m,d⟩:=h;cases g;cases j;obtain⟨t,e,p,_⟩:=I.tuple k;obtain⟨i,r,p2,_⟩:=I.tuple f;refine HT.G9 p p2 (λz=>c (e.nil_iff.mp z)) (λz=>⟨.ref a,H,I,rfl,m (r.nil_iff.mp z)⟩) (λz=>?_) (by rw[<- e.length,<- r.length];exact n);refine⟨.ref s.heap.objs.size,_,I.laid (t':=s.toks) (o:=.tup (xs++ys)) (λb l q=>aV _ q) (ag _) ?_,rfl,d (λw=>z (r.nil_iff.mpr w)) _ (I.h.fresh (ag _))⟩;exact⟨by rw[bK];exact n,_,e.append r,mX.new _ _⟩
end
noncomputable def AU(n:Nat)(i:Int):Option Nat:=if 0≤i then (if i < n then some i.toNat else none) else if -(n:Int)≤i then some (i+n).toNat else none
variable{α:Type}
def atI(xs:List α)(i:Int):Option α:=(AU xs.length i).bind λj=>xs[j]?
variable{n:Nat}
theorem zO{i:Int}(h:AU n i=some q):seqIndex? i n=some q/\q < n/\-(n:Int)≤i/\i < n:=by
 unfold AU at h;by_cases x:0≤i
 .rw [ai x]at h;by_cases h1:i < n
  .rw [ai h1]at h;have e:i.toNat=q:=du h;exact⟨by rw[rH x h1,e],by lia,by lia,h1⟩
  .rw [al h1]at h;cases h
 .rw [al x]at h;by_cases h1:-(n:Int)≤i
  .rw [ai h1]at h;have e:(i+n).toNat=q:=du h;exact⟨by rw[vU (by lia) h1,e],by lia,h1,by lia⟩
  .rw [al h1]at h;cases h
theorem ur{i:Int}(h:atI xs i=some v):∃j,seqIndex? i xs.length=some j/\xs[j]? = some v/\j < xs.length/\-(xs.length:Int)≤i/\i < xs.length:=by
 unfold atI at h;cases e:AU xs.length i with
 |none=>rw[e]at h;cases h
 |some j=>rw[e]at h;obtain⟨h1,h2,x,a⟩:=zO e;exact⟨j,h1,h,h2,x,a⟩
theorem atI_last(xs:List α)(v:α):atI (xs++[v]) (-1)=some v:=by
 have h:(xs++[v]).length=xs.length+1:=by simp
 have e:AU (xs++[v]).length (-1)=some xs.length:=by unfold AU;rw[h,al (by decide),ai (by lia)];congr 1;lia
 unfold atI;rw[e];show(xs++[v])[xs.length]? = some v;simp
def mi(b:Expr):Prop:=∀o i,subscripted b false o i=operate [o,i] (getItem o i)
def ET(X:Cx)(r:R2):Prop:=
 ∀(value l:Expr)(pins:PN)(s:Shared)(J:St)(H:Y)(x y:V)(v u:Value)(Q:VK),Inv X pins J H s->RelV x v->RelV y u->r x y H Q ->
  subscripted l false v u=operate [v,u] (getItem v u)->wx X (subscriptTail value l v u) (EP X pins J Q) X.xe s
def Qx(X:Cx)(id:String)(r:V->List V->Y->VK->Prop):Prop:=
 ∀(pins:PN)(s:Shared)(J:St)(H:Y)(x:V)(xs:List V)(v:Value)(j:LV)(Q:VK),Inv X pins J H s->RelV x v->bb xs j->r x xs H Q ->
  wx X (call (.builtin id) (v::j)) (EP X pins J Q) X.xe s
section
variable{X:Cx}{a b:Expr}{ta tb:TE}{B:Pos}
theorem ET.or(h:ET X r)(h':ET X z):ET X (λx y H Q=>r x y H Q\/z x y H Q):=by
 intro value l pins s J H x y v u Q I e n q a;rcases q with q|q
 .exact h value l pins s J H x y v u Q I e n q a
 .exact h' value l pins s J H x y v u Q I e n q a
theorem C1(f:ET X r)(n:O X a ta)(k:O X b tb)(c:mi b):O X (.Subscript a b B) (IG r ta tb):=by intro pins s J H Q I h;exact Subscript_ (Kz n k I h λv u p x y H2 e m t q=>f a b pins p J H2 x y v u Q e m t q (c _ _))
def O6(K:FG):R2:=λx y H Q=>∃p xs i v,x=.ref p/\y=.int i/\fG K H p xs/\atI xs i=some v/\Q v H
def O4(K:FG):R2:=λx y H Q=>∃p xs i v,x=.ref p/\y=.int i/\jw K H p xs/\atI xs i=some v/\Q v H
def O5:R2:=λx y H Q=>∃z i c,x=.str z/\y=.int i/\z.length≤sizeLine/\atI z.cps.toList i=some c/\Q (.str ⟨#[c]⟩) H
theorem tT:ET X (O6 X.K):=by
 intro value c pins s J H x y v u Q I K P h m;obtain⟨p,xs,i,z,rfl,rfl,F,o,q⟩:=h;cases K;obtain⟨t,rfl⟩:=P;obtain⟨e,r,l,C⟩:=I.list F;obtain⟨j,h1,h2,A,d,g⟩:=ur o;obtain⟨w,k,n⟩:=r.get h2;have S:=r.length;have B:=jF;have f:EP X pins J Q w s:=⟨z,H,I,n,q⟩;by_cases b:0≤i
 .have a:i.toNat=j:=by
   rw[rH b g]at h1;exact du h1
  exact item_listR l.isList b (by lia) (by rw[a];simpa using k) f m
 .have a:(i+(e.toArray.size:Int)).toNat=j:=by
   rw[vU (by lia) d]at h1;rw[ba,<- S];exact du h1
  exact x5 (x:=w) l.isList.typeIs BF.lookup
   (wpAny_getItem_list_neg (Q:=λr s'=>r=w/\EP X pins J Q r s') l.isList (by lia) (by rw[ba]<;>lia) (by lia) (by rw[a];simpa using k) ⟨rfl,f⟩) m
theorem DK:ET X (O4 X.K):=by
 intro value l pins s J H x y v u Q I g o h m;obtain⟨p,xs,i,z,rfl,rfl,c,k,q⟩:=h;cases g;obtain⟨t,rfl⟩:=o;obtain⟨d,r,e,A⟩:=I.tuple c;obtain⟨j,h1,h2,S,F,K⟩:=ur k;obtain⟨w,n,a⟩:=r.get h2;have b:=r.length;have P:=jF;have f:EP X pins J Q w s:=⟨z,H,I,a,q⟩;exact x5 (x:=w) e.typeIs g8.lookup
  (xT (j:=j) (Q:=λr s'=>r=w/\EP X pins J Q r s') e (by lia) (by lia) (by rw[ba,<- b];exact h1) (by simpa using n) ⟨rfl,f⟩) m
theorem JZ:ET X O5:=by
 intro value l pins s J H x y v u Q I r p h m;obtain⟨z,i,c,rfl,rfl,g,f,q⟩:=h;obtain⟨t,rfl⟩:=r;obtain⟨o,rfl⟩:=p;obtain⟨j,h1,h2,d,n,k⟩:=ur f;have b:z.cps.toList.length=z.length:=by simp[lf]
 rw[b]at h1 n k;have w:=jF;exact oe (typeIs_str s z t) slot_str_getitem.lookup (getItem_str (c:=c) (by have e:decide (i < -(2 ^ 63:Int))=false:=cw (by lia);have a:decide (i ≥ 2 ^ 63)=false:=cw (by lia);rw[e,a,Bool.or_false]) (by rw[h1];simpa using h2) ⟨.str ⟨#[c]⟩,H,I.tok _,⟨_,rfl⟩,q⟩) m
theorem wH(i:LV)(n j:Nat)(u:Value):gw (·.setIfInBounds j u) { cls:=.type "list",data:=.seq i.toArray n }={ cls:=.type "list",data:=.seq (i.set j u).toArray n }:=by simp[gw]
theorem Inv.lst(I:Inv X pins J H s)(h:H p=some (.lst xs)) :
  ∃(i:LV)(n:Nat),bb xs i/\s.heap.get? p=some { cls:=.type "list",data:=.seq i.toArray n }/\xs.length≤sizeLine:=by
 obtain⟨z,i,n,r,e⟩:=I.h p _ h;exact⟨i,n,r,e,z⟩
theorem Inv.lstUpd{i:LV}(I:Inv X pins J H s)(h:H p=some (.lst xs))
  (o:s.heap.get? p=some { cls:=.type "list",data:=.seq i.toArray n }) (a:f { cls:=.type "list",data:=.seq i.toArray n }={ cls:=.type "list",data:=.seq z.toArray N }) (r:bb ys z) (c:ys.length≤sizeLine) (t:Nat) :
  Inv X pins J (bN H p (.lst ys)) { s with heap:=s.heap.update p f,toks:=t }:=by
 have e:(s.heap.update p f).get? p=some { cls:=.type "list",data:=.seq z.toArray N }:=by rw[oU f o (by rw[a]<;>rfl),a]
 refine I.write (x:=p) (e:=p) (by rw[h];trivial) (.inl rfl) (λb u k q=>(oV _ _ (aK k)).trans q) ⟨_,e⟩ ?_;exact⟨c,z,N,r,e⟩
def Mb:V->V->V->Y->(Y->Prop)->Prop:=λo i v H Q=>∃p xs k j,o=.ref p/\i=.int k/\H p=some (.lst xs)/\AU xs.length k=some j/\Q (bN H p (.lst (xs.set j v)))
theorem Cr:Ni X Mb:=by
 intro pins s J H o i v K iv u Q I y g S h;obtain⟨p,xs,k,j,rfl,rfl,d,w,q⟩:=h;cases y;obtain⟨t,rfl⟩:=g;obtain⟨x,n,r,e,z⟩:=I.lst d;obtain⟨h1,h2,c,m⟩:=zO w;have l:=r.length;have F:=jF;have f:Inv X pins J (bN H p (.lst (xs.set j v))) { s with heap:=s.heap.update p (gw (·.setIfInBounds j u)) }:=
  I.lstUpd d e (wH x n j u) (r.set S j) (by rw[fg];exact z) s.toks
 by_cases b:0≤k
 .have a:k.toNat=j:=by
   rw[rH b m]at h1;exact du h1
  exact PySem.W.ki_setAt e b (by lia) (by rw[ba,<- l];exact m) (by rw[a];exact⟨_,f,q⟩)
 .have a:(k+(x.toArray.size:Int)).toNat=j:=by
   rw[vU (by lia) c]at h1;rw[ba,<- l];exact du h1
  exact PySem.W.ki_setBack e (by lia) (by rw[ba,<- l];exact c) (by lia) (by rw[a];exact⟨_,f,q⟩)
theorem tz(lo hi:Option Int)(n:Nat):(sliceBounds lo hi none n).1=((HT.eP n 0 lo:Nat):Int)/\(sliceBounds lo hi none n).2.1=((HT.eP n n hi:Nat):Int)/\(sliceBounds lo hi none n).2.2=1:=by
 refine⟨?_,?_,rfl⟩
 .cases lo with
  |none=>simp[sliceBounds,HT.eP]
  |some i=>
   simp only[sliceBounds,HT.eP,ym,show(1:Int) > 0 by decide,eL];by_cases h:i < 0
   .simp only[h,eL]<;>lia
   .simp only[h,g7]<;>lia
 .cases hi with
  |none=>simp[sliceBounds,HT.eP]
  |some i=>
   simp only[sliceBounds,HT.eP,ym,show(1:Int) > 0 by decide,eL];by_cases h:i < 0
   .simp only[h,eL]<;>lia
   .simp only[h,g7]<;>lia
theorem qk(i:LV)(lo hi:Option Int):slicePick i.toArray lo hi none=((i.drop (HT.eP i.length 0 lo)).take (HT.eP i.length i.length hi-HT.eP i.length 0 lo)).toArray:=by obtain⟨h1,h2,h⟩:=tz lo hi i.toArray.size;unfold slicePick;rw[h1,h2,h];simp only[sliceRange_one,pick_run,ba]<;>rfl
def O1(K:FG):V->Option Int->Option Int->Y->VK->Prop:=λx lo hi H Q=>∃a xs,x=.ref a/\fG K H a xs/\∀p,H p=none->Q (.ref p) (bN H p (.lst (vr xs lo hi)))
theorem zo:HY X (O1 X.K):=by intro pins s J H x v m d lo hi c Q I k e p u h;obtain⟨a,xs,rfl,n,q⟩:=h;cases k;obtain⟨i,r,t,z⟩:=I.list n;have l:=r.length;refine⟨"list",_,BF.lookup,t.isList.typeIs,?_⟩;refine wpAny_getItem_list_slice t.isList e p u .none (by simp) ?_ (by rw[ba]<;>lia);rw[qk,<- l];refine⟨.ref s.heap.objs.size,_,I.laid (t':=s.toks) (o:=.lst (vr xs lo hi)) (λb f q=>aV _ q) (ag _) ?_,rfl,q _ (I.h.fresh (ag _))⟩;exact⟨bh (nA xs lo hi) z,_,0,(r.drop (HT.eP xs.length 0 lo)).take (HT.eP xs.length xs.length hi-HT.eP xs.length 0 lo),bP _ rfl⟩
theorem ul:dL X (.builtin "len") (λxs H Q=>∃p ys,xs=[.ref p]/\(fG X.K H p ys\/jw X.K H p ys)/\Q (.int ys.length) H):=by
 intro pins s J H xs j Q I r h;obtain⟨p,ys,rfl,x,q⟩:=h;obtain⟨u,rfl,n⟩:=vals1 r;cases n;have k:=jF;rcases x with x|x
 .obtain⟨i,e,a,z⟩:=I.list x;have l:=e.length;exact Calls.call_len_list a.isList (by simp only[ba]<;>lia) ⟨.int ys.length,H,I.tok _,⟨s.toks+1,by rw[ba,l]⟩,q⟩
 .obtain⟨i,e,a,z⟩:=I.tuple x;have l:=e.length;exact len_tuple a (by simp only[ba]<;>lia) ⟨.int ys.length,H,I.tok _,⟨s.toks+1,by rw[ba,l]⟩,q⟩
theorem uk:dL X (.builtin "len") (λxs H Q=>∃z,xs=[.str z]/\z.length≤sizeLine/\Q (.int z.length) H):=by intro pins s J H xs j Q I r h;obtain⟨z,rfl,x,q⟩:=h;obtain⟨u,rfl,t,rfl⟩:=vals1 r;have n:=jF;exact len_str (by lia) ⟨.int z.length,H,I.tok _,⟨_,rfl⟩,q⟩
theorem dL.or(h:dL X f r)(h':dL X f z):dL X f (λxs H Q=>r xs H Q\/z xs H Q):=by
 intro pins s J H xs j Q I x q;rcases q with q|q
 .exact h pins s J H xs j Q I x q
 .exact h' pins s J H xs j Q I x q
theorem jd:dL X (.type "list") (λxs H Q=>∃p ys,xs=[.ref p]/\(fG X.K H p ys\/jw X.K H p ys)/\∀l,H l=none->Q (.ref l) (bN H l (.lst ys))):=by
 intro pins s J H xs j Q I r h;obtain⟨p,ys,rfl,k,q⟩:=h;obtain⟨u,rfl,w⟩:=vals1 r;cases w;have f:∀(i:LV),bb ys i->ys.length≤sizeLine->∀(h':Heap)(c:Nat),(∀b o',s.heap.get? b=some o'->h'.get? b=some o') ->
   h'.get? s.heap.objs.size=some { cls:=.type "list",dict:=none,data:=.seq i.toArray c,slots:=#[] }->EP X pins J Q (.ref s.heap.objs.size) { s with heap:=h' }:=λi x z h' c m e=>
  ⟨.ref s.heap.objs.size,_,I.laid (t':=s.toks) m (ag _) (show cT X.p X.w _ h' _ (.lst ys) from ⟨z,i,c,x,e⟩),rfl,q _ (I.h.fresh (ag _))⟩
 rcases k with k|k
 .obtain⟨i,x,d,z⟩:=I.list k;have a:=x.length;obtain⟨o,v,t,n,hd⟩:=d.isList;exact Bs p (.inl rfl) v t hd (λh' c m e=>f i x z h' c m e) (by simp only[ba]<;>lia)
 .obtain⟨i,x,d,z⟩:=I.tuple k;have a:=x.length;obtain⟨o,v,t,n,hd⟩:=d;exact Bs p (.inr rfl) v t hd (λh' c m e=>f i x z h' c m e) (by simp only[ba]<;>lia)
theorem kA:dL X (.type "tuple") (λxs H Q=>∃p ys,xs=[.ref p]/\((fG X.K H p ys/\∀l,H l=none->Q (.ref l) (bN H l (.tup ys)))\/(jw X.K H p ys/\Q (.ref p) H))):=by
 intro pins s J H xs j Q I r h;obtain⟨p,ys,rfl,h⟩:=h;obtain⟨u,rfl,t⟩:=vals1 r;cases t;rcases h with ⟨x,q⟩|⟨x,q⟩
 .obtain⟨i,n,a,z⟩:=I.list x;have f:=n.length;refine call_tuple_list a.isList (λh' m=>?_) (by simp only[ba]<;>lia);have k:Inv X pins J H { s with heap:=h' }:=I.kept (t':=s.toks) m;have c:Inv X pins J (bN H h'.objs.size (.tup ys)) { s with heap:=h'.push { cls:=.type "tuple",data:=.seq i.toArray } }:=
   k.laid (t':=s.toks) (λb o e=>aV _ e) (ag _) (show cT X.p X.w _ _ _ (.tup ys) from ⟨z,i,n,mX.new _ _⟩)
  exact⟨.ref h'.objs.size,_,c,rfl,q _ (k.h.fresh (ag _))⟩
 .obtain⟨i,n,a,z⟩:=I.tuple x;exact call_tuple_same a ⟨.ref p,H,I,rfl,q⟩
def tyV(K:FG)(T:String)(x:V)(H:Y):Prop:=match x with
 | .str _=>T="str"
 | .int _=>T="int"
 | .ref p=>(T="list"/\∃xs,fG K H p xs)\/(T="tuple"/\∃o,K.lookup p=some o/\o.cls=.type "tuple"/\o.dict=none) \/
   (T="dict"/\((∃kvs,H p=some (.dK kvs))\/∃kvs,H p=some (.dT kvs)))\/(T="set"/\∃S n,H p=some (.set S n))
 |_=>False
theorem B_(I:Inv X pins J H s)(r:RelV x v)(ty:tyV X.K T x H) :
  s.TypeIs v T/\∀a,v=.ref a->∃b,s.heap.get? a=some b/\b.dict=none:=by
 cases x with
 |str z=>obtain⟨t,rfl⟩:=r;cases (show T="str" from ty);exact⟨typeIs_str s z t,λ_ e=>nomatch e⟩
 |int i=>obtain⟨t,rfl⟩:=r;cases (show T="int" from ty);exact⟨oX s i t,λ_ e=>nomatch e⟩
 |ref p=>
  cases r;rcases ty with ⟨rfl,xs,q⟩|⟨rfl,o,h,f,hd⟩|⟨rfl,h⟩|⟨rfl,S,n,h⟩
  .obtain⟨m,_,l,_⟩:=I.list q;refine⟨l.isList.typeIs,λa e=>?_⟩;cases e;obtain⟨o,n,e,c,hd,_⟩:=l;exact⟨o,e,hd⟩
  .refine⟨⟨o,I.kIn p o h,f⟩,λa e=>?_⟩;cases e;exact⟨o,I.kIn _ o h,hd⟩
  .have z:∃o,s.heap.get? p=some o/\o.ExactDict:=by
    rcases h with ⟨kvs,h⟩|⟨kvs,h⟩
    .obtain⟨_,_,_,_,o,_,_,e,ex,_⟩:=I.h p _ h;exact⟨o,e,ex⟩
    .obtain⟨_,_,_,_,o,_,_,e,ex,_⟩:=I.h p _ h;exact⟨o,e,ex⟩
   obtain⟨o,e,ex⟩:=z;refine⟨⟨o,e,ex.1⟩,λa k=>?_⟩;cases k;exact⟨o,e,ex.2.1⟩
  .obtain⟨o,_,_,_,e,ex,_⟩:=I.h p _ h;refine⟨⟨o,e,ex.1⟩,λa k=>?_⟩;cases k;exact⟨o,e,ex.2.1⟩
 |_=>exact False.elim ty
noncomputable def OM(K:FG)(T:String)(r:V->List V->Y->VK->Prop)(to:TE):TE:=λJ H Q=>to J H λx G=>tyV K T x G/\r x [] G Q
noncomputable def QS(K:FG)(T:String)(r:V->List V->Y->VK->Prop)(to:TE)(t:TA):TE:=λJ H Q=>to J H λx G=>tyV K T x G/\t J G λxs H2=>r x xs H2 Q
variable{o e:Expr}{es:Ab}{to:TE}{t:TA}{name:Str}{apos cpos:Pos}{T id:String}{r:V->List V->Y->VK->Prop}
theorem Jp(p:PlainAttrs T)(slot:Slot T name id)(t:typeOf (.builtin id)=pure (.type "method_descriptor"))(m:Qx X id r)(n:O X o to)
  (b:attributeBase o name X.e (eval o X.e)=eval o X.e:=by rfl) (l:(apos.endLine == cpos.line)=true:=by rfl):O X (.Call (.Attribute o name apos) [] [] cpos) (OM X.K T r to):=by
 intro pins s J H Q I h;refine wpAny_Call_method0_late b l (cK (n pins s J H _ I h) λv k z=>?_);obtain⟨x,G,a,e,ty,q⟩:=z;obtain⟨h1,h2⟩:=B_ a e ty;exact⟨T,id,p,slot,t,h1,h2,jW rfl (PySem.evalArgs_none (m pins k J G x [] v [] Q a e .nil q))⟩
theorem HB(w:PlainAttrs T)(slot:Slot T name id)(y:typeOf (.builtin id)=pure (.type "method_descriptor"))(m:Qx X id r)(q:O X o to)(c:PA X (e::es) t)
  (b:attributeBase o name X.e (eval o X.e)=eval o X.e:=by rfl)
  (f:((backTo cpos (starEach (e::es) X.e)).all (fun x=>!x.1) && (backToKw cpos (keywordEach [] X.e)).all (fun x=>x.1.isSome)
   && decide ((e::es).length+([]:List Keyword).length+(if ([]:List Keyword).isEmpty then 0 else 1) < 30))=true:=by rfl)
  (l:(apos.endLine == cpos.line)=true:=by rfl) (d:starEach (e::es) X.e=(false,eval e X.e)::starEach es X.e:=by rfl) (p:(backTo cpos (starEach es X.e)).any (·.1)=false:=by rfl) :
  O X (.Call (.Attribute o name apos) (e::es) [] cpos) (QS X.K T r to t):=by
 intro pins s J H Q I h;refine BR b f l rfl (cK (q pins s J H _ I h) λv S z=>?_);obtain⟨x,G,a,n,ty,u⟩:=z;obtain⟨h1,h2⟩:=B_ a n ty;refine⟨T,id,w,slot,y,h1,h2,?_⟩;have A:=c cpos pins S J G _ a u;rw[d]at A ⊢;refine jW (by show(false ||(backTo cpos (starEach es X.e)).any (·.1))=false;rw[p]<;>rfl) (lh ?_);exact cK A λj F z=>by obtain⟨K,H2,k,i,g⟩:=z;exact m pins F J H2 x K v j Q k n i g
end
def PZ(X:Cx)(id:String)(r:V->List V->Y->VK->Prop):Prop:=
 ∀(pins:PN)(s:Shared)(J:St)(H:Y)(x:V)(xs:List V)(v:Value)(j:LV)(Q:VK),Inv X pins J H s->RelV x v->bb xs j->r x xs H Q ->
  wx X (call (.builtin id) (v::j)) (EP X pins J Q) X.xe s
theorem bb.one:∀{x:V}{j:LV},bb [x] j->∃u,j=[u]/\RelV x u
 |_,_,.cons r .nil=>⟨_,rfl,r⟩
theorem bb.zero:∀{j:LV},bb [] j->j=[]
 |_,.nil=>rfl
theorem bb.rep(h:bb xs j):∀k:Nat,bb (List.replicate k xs).flatten (List.replicate k j).flatten
 |0=>.nil
 |k+1=>by rw[cA,cA,fR,fR];exact bb.append h (bb.rep h k)
theorem foldl_rep(i:LV):∀(k:Nat)(a:LV),
  on (λx s=>x++s) a.toArray (List.replicate k i.toArray)=(a++(List.replicate k i).flatten).toArray
 |0,a=>by simp
 |k+1,a=>by
  have e:a.toArray++i.toArray=(a++i).toArray:=by simp
  have h:(a++i)++(List.replicate k i).flatten=a++(List.replicate (k+1) i).flatten:=by rw[cA,fR,fj]
  rw[<- h,<- foldl_rep i k (a++i),<- e,cA,ff]
section
variable{X:Cx}{pins:PN}{J:St}{H:Y}{s:Shared}{l b:Addr}{xs ys zs:List V}
theorem Inv.lset{i:LV}{t:Nat}(I:Inv X pins J H s)(h:H l=some (.lst xs))
  (e:s.heap.get? l=some { cls:=.type "list",data:=.seq i.toArray n }) (a:f i.toArray=z.toArray) (v:bb ys z) (c:ys.length≤sizeLine) :
  Inv X pins J (bN H l (.lst ys)) { s with heap:=s.heap.update l (gw f),toks:=t }:=by
 have q:=PySem.IsL.update e f;rw[a]at q;refine I.write (x:=l) (e:=l) (by rw[h];exact trivial) (.inl rfl) (λm u b k=>(oV s.heap (gw f) (aK b)).trans k) ⟨_,q⟩ ?_;exact⟨c,z,_,v,q⟩
theorem Inv.lnew{t:Nat}(I:Inv X pins J H s)(h:bb ys z)(x:ys.length≤sizeLine) :
  Inv X pins J (bN H s.heap.objs.size (.lst ys)) { s with heap:=s.heap.push { cls:=.type "list",data:=.seq z.toArray },toks:=t }:=
 I.laid (λ_ _ q=>aV _ q) (ag _) ⟨x,z,0,h,bP _ rfl⟩
theorem Inv.fresh(I:Inv X pins J H s):H s.heap.objs.size=none:=I.h.fresh (ag _)
theorem Inv.lstM(I:Inv X pins J H s)(h:H l=some (.lst xs)):xs.length≤sizeLine/\∃(i:LV)(n:Nat),bb xs i/\xs.length=i.length/\s.heap.get? l=some { cls:=.type "list",data:=.seq i.toArray n }:=by obtain⟨z,i,n,r,e⟩:=I.h l _ h;exact⟨z,i,n,r,r.length,e⟩
theorem u0(h:n≤sizeLine):nU n=false:=by unfold nU;exact cw (by lia)
end
section
variable{X:Cx}
def Gj:V->List V->Y->VK->Prop:=λx v H Q=>∃l xs y,x=.ref l/\v=[y]/\H l=some (.lst xs)/\xs.length < sizeLine/\Q .non (bN H l (.lst (xs++[y])))
theorem qO:PZ X "list.append" Gj:=by intro pins s J H x t v j Q I b f h;obtain⟨l,xs,y,rfl,rfl,a,m,q⟩:=h;cases b;obtain⟨u,rfl,k⟩:=f.one;obtain⟨z,i,n,r,c,e⟩:=I.lstM a;refine gL xG ⟨_,e,rfl⟩ F.entry_list_append (F.args_list_append_2 _ _) (PySem.list_append l i.toArray n u (by rw[ba];lia)) ⟨e,?_⟩;refine⟨.non,_,I.lset (z:=i++[u]) a e (by simp) (r.append (.cons k .nil)) ?_,rfl,q⟩;rw[bK,List.length_singleton];lia
def Gh:V->List V->Y->VK->Prop:=λx v H Q=>∃l b xs zs,x=.ref l/\v=[.ref b]/\H l=some (.lst xs)/\H b=some (.lst zs)/\xs.length+zs.length≤sizeLine/\Q .non (bN H l (.lst (xs++zs)))
theorem AN:PZ X "list.extend" Gh:=by
 intro pins s J H x K v j Q I g w h;obtain⟨l,b,xs,zs,rfl,rfl,k,hB,S,q⟩:=h;cases g;obtain⟨u,rfl,d⟩:=w.one;cases d;obtain⟨z,t,n,r,y,e⟩:=I.lstM k;obtain⟨P,i,m,p,c,f⟩:=I.lstM hB;have a:t.toArray.size+i.toArray.size≤sizeLine:=by rw[ba,ba];lia
 have o:¬(!t.toArray.isEmpty && nU (t.toArray.size+i.toArray.size))=true:=by rw[u0 a,Bool.and_false];exact a8
 refine gL xH ⟨_,e,rfl⟩ F.entry_list_extend (F.args_list_extend_2 _ _)
  (AutoSeq1.list_extend_list_list_0 l t.toArray n b i.toArray m o (by rw[ba];lia) (by lia)) ⟨e,f,?_⟩
 refine⟨.non,_,I.lset (z:=t++i) k e (by simp) (r.append p) ?_,rfl,q⟩;rw[bK];lia
def IX:V->List V->Y->VK->Prop:=λx v H Q=>∃l xs,x=.ref l/\v=[]/\H l=some (.lst xs)/\Q .non (bN H l (.lst []))
theorem Do:PZ X "list.clear" IX:=by intro pins s J H x c v j Q I f k h;obtain⟨l,xs,rfl,rfl,a,q⟩:=h;cases f;have u:=k.zero;subst u;obtain⟨z,i,n,r,b,e⟩:=I.lstM a;refine gL xF ⟨_,e,rfl⟩ F.entry_list_clear (F.args_list_clear_1 _) (AutoSeq1.list_clear_list_0 l i.toArray n (by rw[ba];lia)) ⟨e,?_⟩;exact⟨.non,_,I.lset (z:=[]) (ys:=[]) a e rfl .nil (b9 _),rfl,q⟩
def O7:R2:=λx y H Q=>∃l b xs zs,x=.ref l/\y=.ref b/\H l=some (.lst xs)/\H b=some (.lst zs)/\xs.length+zs.length≤sizeLine/\∀p,H p=none->Q (.ref p) (bN H p (.lst (xs++zs)))
theorem Jw:iB X (binaryOp .Add) O7:=by
 intro pins s J H x y v u Q I p d h;obtain⟨l,b,xs,zs,rfl,rfl,f,hB,g,q⟩:=h;cases p;cases d;obtain⟨z,t,n,r,w,e⟩:=I.lstM f;obtain⟨o,i,j,m,c,a⟩:=I.lstM hB;refine PySem.P.add_list e a ?_ (by rw[ba,ba];lia);have k:t.toArray++i.toArray=(t++i).toArray:=by simp
 rw[k];exact⟨.ref _,_,I.lnew (t:=s.toks) (r.append m) (by rw[bK];lia),rfl,q _ I.fresh⟩
def O2:R2:=λx y H Q=>∃l k xs,x=.ref l/\y=.int k/\H l=some (.lst xs)/\-(2 ^ 63)≤k/\k < 2 ^ 63/\xs.length * k.toNat≤sizeLine /\
 ∀p,H p=none->Q (.ref p) (bN H p (.lst (List.replicate k.toNat xs).flatten))
theorem GP(xs:List α)(k:Nat):(List.replicate k xs).flatten.length=k * xs.length:=by
 induction k with
 |zero=>simp
 |succ k i=>rw[cA,fR,bK,i,sL,Nat.add_comm]
theorem Js:iB X (binaryOp .Mult) O2:=by
 intro pins s J H x y v u Q I P A h;obtain⟨l,k,xs,rfl,rfl,S,h1,h2,g,q⟩:=h;cases P;obtain⟨t,rfl⟩:=A;obtain⟨z,i,n,r,K,e⟩:=I.lstM S;have b:i.toArray.size * k.toNat≤sizeLine:=by rw[ba,<- K];exact g
 have c:¬i.toArray.size * k.toNat > (2 ^ 63-1) / 8:=by
  have:(sizeLine:Nat)≤(2 ^ 63-1) / 8:=by decide
  lia
 have f:¬(!Builtin.List.listFitsIndex k)=true:=by rw[fitsIndex_both h1 h2];exact a8
 have o:¬nU (i.toArray.size * k.toNat)=true:=by rw[u0 b];exact a8
 have w:on (λp d=>p++d) #[] (List.replicate (if i.toArray.isEmpty=true then 0 else k.toNat) i.toArray)=(List.replicate k.toNat i).flatten.toArray:=by
  have j:∀m:Nat,on (λp d=>p++d) #[] (List.replicate m i.toArray)=(List.replicate m i).flatten.toArray:=λm=>by have:=foldl_rep i m [];rw[fh]at this;exact this
  rw[j];cases i with
  |nil=>simp
  |cons a B=>rw[al (by simp)]
 refine BS (T:="list") (U:="int") (by decide) ⟨_,e,rfl⟩ (λs'=>oX s' k t) noFill_list_mul xA nX repeat_list xD.lookup
  (gL nX (oX s k t) xB (xE _ _) (int___rmul___int_list k t l i.toArray n)
   ⟨e,rfl,⟨_,e,rfl⟩,gL F.slot_list_mul ⟨_,e,rfl⟩ F.entry_list_mul (F.args_list_mul_2 _ _) (AutoListH.list___mul___list_int_3 l i.toArray n k t f c o) ⟨e,?_⟩⟩)
 rw[w];exact⟨.ref _,_,I.lnew (t:=s.toks) (r.rep k.toNat) (by rw[GP,oC];exact g),rfl,q _ I.fresh⟩
end
section
variable{κ:Type}[DecidableEq κ]
noncomputable def f_(kvs:List (κ×V))(k:κ):Option V:=(kvs.find? λv=>decide (v.1=k)).map (·.2)
noncomputable def putK(kvs:List (κ×V))(k:κ)(v:V):List (κ×V):=
 if (kvs.any λh=>decide (h.1=k))=true then kvs.map (λh=>if h.1=k then (h.1,v) else h) else kvs++[(k,v)]
theorem gN{p:κ×V}{r:List (κ×V)}{k:κ}(e:p.1=k):f_ (p::r) k=some p.2:=by simp[f_,jZ,e]
theorem f8{p:κ×V}{r:List (κ×V)}{k:κ}(e:¬p.1=k):f_ (p::r) k=f_ r k:=by simp[f_,jZ,e]
theorem uH(k:κ):∀kvs:List (κ×V),(kvs.any λv=>decide (v.1=k))=(f_ kvs k).isSome
 | []=>rfl
 |p::r=>by
  rw[fN];by_cases e:p.1=k
  .simp only[gN e,jy e,Bool.true_or,Option.isSome_some]
  .rw [f8 e,cw e,lg];exact uH k r
theorem jG(kvs:List (κ×V))(k:κ)(v:V):(putK kvs k v).length≤kvs.length+1:=by
 unfold putK;split
 .rw [aU];lia
 .rw [bK,aX,ll];lia
theorem ju.isSome_eq(r:ju o u):o.isSome=u.isSome:=by
 cases o with
 |none=>cases u with
  |none=>rfl
  |some _=>exact(show False from r).elim
 |some _=>cases u with
  |none=>exact(show False from r).elim
  |some _=>rfl
theorem ju.getD(r:ju o u)(h:RelV d q):RelV (o.getD d) (u.getD q):=by
 cases o with
 |none=>cases u with
  |none=>exact h
  |some _=>exact(show False from r).elim
 |some _=>cases u with
  |none=>exact(show False from r).elim
  |some _=>exact r
theorem KV.val{kvs:List (κ×V)}{v:List (κ×Value)}(r:KV kvs v)(k:κ):ju (f_ kvs k) (valueAt v k):=by
 unfold KV at r;induction r with
 |nil=>exact True.intro
 | @cons p q ps qs h t i=>
  obtain⟨h1,h2⟩:=h;by_cases e:p.1=k
  .have x:q.1=k:=h1.symm.trans e;have b:valueAt (q::qs) k=some q.2:=by simp[valueAt,jZ,x]
   rw[gN e,b];exact h2
  .have x:¬q.1=k:=λz=>e (h1.trans z);have b:valueAt (q::qs) k=valueAt qs k:=by simp[valueAt,jZ,x]
   rw[f8 e,b];exact i
theorem KV.any(r:KV kvs q)(k:κ):(kvs.any λv=>decide (v.1=k))=q.any λv=>decide (v.1=k):=by
 unfold KV at r;induction r with
 |nil=>rfl
 |cons h t i=>rw[fN,fN,i,h.1]
theorem KV.repl(r:KV kvs I)(k:κ)(x:RelV y u) :
  KV (kvs.map λv=>if v.1=k then (v.1,y) else v) (I.map λv=>if v.1=k then (v.1,u) else v):=by
 unfold KV at r ⊢;induction r with
 |nil=>exact .nil
 | @cons p q ps qs h t i=>
  rw[aF,aF];refine .cons ?_ i;obtain⟨h1,h2⟩:=h;by_cases e:p.1=k
  .rw [ai e,ai (h1.symm.trans e)];exact⟨h1,x⟩
  .rw [al e,al (λz=>e (h1.trans z))];exact⟨h1,h2⟩
theorem KV.put(r:KV kvs q)(k:κ)(h:RelV y u):KV (putK kvs k y) (stored q k u):=by
 unfold putK stored;rw[r.any k];by_cases e:(q.any λv=>decide (v.1=k))=true
 .rw [ai e,ai e];exact r.repl k h
 .rw [al e,al e];exact Paired.snoc r ⟨rfl,h⟩
theorem KV.length(r:KV kvs q):kvs.length=q.length:=Paired.length r
end
variable{w:World}{u:Value}
theorem nl(r:RelV (kV k) u):(bX P w).is k u=true:=by
 cases k with
 |inl i=>obtain⟨t,e⟩:=(show ∃t,u=Value.int i t from r);subst e;exact u7 P w i t
 |inr x=>obtain⟨t,e⟩:=(show ∃t,u=Value.str x t from r);subst e;exact u6 P w x t
theorem qT:∀{ks:List dJ}{j:LV},bb (ks.map kV) j->ItemsAre (bX P w) ks j
 | [],_,r=>by rw[gy]at r;cases r;exact .nil
 |k::ks,_,r=>by
  rw[aF]at r;cases r with
  |cons h t=>exact .cons (nl h) (qT t)
abbrev KT(H:Y):List (List dJ×V)->List (List dJ×Addr×Value)->Prop:=Paired λp q=>p.1=q.1/\H q.2.1=some (.tup (p.1.map kV))/\RelV p.2 q.2.2
theorem KT.val{H:Y}{kvs:List (List dJ×V)}{xs:List (List dJ×Addr×Value)}(r:KT H kvs xs)(k:List dJ):ju (f_ kvs k) ((atKey xs k).map (·.2)):=by
 induction r with
 |nil=>exact True.intro
 | @cons p q ps qs h t i=>
  obtain⟨h1,_,h2⟩:=h;by_cases e:p.1=k
  .have x:q.1=k:=h1.symm.trans e;have b:atKey (q::qs) k=some q.2:=by simp[atKey,jZ,x]
   rw[gN e,b];exact h2
  .have x:¬q.1=k:=λz=>e (h1.trans z);have b:atKey (q::qs) k=atKey qs k:=by simp[atKey,jZ,x]
   rw[f8 e,b];exact i
variable{H:Y}{kvs:List (List dJ×V)}{xs:List (List dJ×Addr×Value)}{y:V}
theorem KT.repl(r:KT H kvs xs)(k:List dJ)(a:RelV y u) :
  KT H (kvs.map λv=>if v.1=k then (v.1,y) else v) (xs.map (putAt k u)):=by
 induction r with
 |nil=>exact .nil
 | @cons p q ps qs h t i=>
  rw[aF,aF];refine .cons ?_ i;obtain⟨h1,h2,x⟩:=h;unfold putAt;by_cases e:p.1=k
  .rw [ai e,ai (h1.symm.trans e)];exact⟨h1,h2,a⟩
  .rw [al e,al (λz=>e (h1.trans z))];exact⟨h1,h2,x⟩
theorem KT.put(r:KT H kvs xs)(k:List dJ)(x:H b=some (.tup (k.map kV)))(h:RelV y u) :
  KT H (putK kvs k y) (storedH xs k b u):=by
 have e:(kvs.any λv=>decide (v.1=k))=(atKey xs k).isSome:=by rw[uH,(r.val k).isSome_eq,yn]
 unfold putK storedH;rw[e];by_cases q:(atKey xs k).isSome=true
 .rw [ai q,ai q];exact r.repl k h
 .rw [al q,al q];exact Paired.snoc r ⟨rfl,x,h⟩
theorem KT.keeps(r:KT H kvs xs)(h:∀b ys,H b=some (.tup ys)->H' b=some (.tup ys)):KT H' kvs xs:=
 Paired.mapP r λ_ _ z=>⟨z.1,h _ _ z.2.1,z.2.2⟩
section
variable{P:Program}{w:World}{H:Y}{h:Heap}{a:Addr}
theorem rd_of{u:HO}(ok:kf P w H h)(e:Rd H a u):cT P w H h a u:=e.ok ok
theorem qZ{kvs:List (dJ×V)}(ok:kf P w H h)(e:Rd H a (.dK kvs)):kvs.length≤sizeLine/\(a == sysModules)=false/\∃vs,KV kvs vs/\h.DictOf (bX P w) a vs:=
 show cT P w H h a (.dK kvs) from rd_of ok e
theorem HU{kvs:List (dJ×V)}(ok:kf P w H h)(e:H a=some (.dK kvs)):kvs.length≤sizeLine/\(a == sysModules)=false/\∃v,KV kvs v/\h.DictOf (bX P w) a v:=qZ ok (.inl e)
theorem mJ(ok:kf P w H h)(e:H a=some (.tup (ks.map kV))):(tupleKind (bX P w)).is h ks a:=by obtain⟨_,i,r,o,h1,⟨h2,n,x⟩,_⟩:=(show cT P w H h a (.tup (ks.map kV)) from ok a _ e);exact⟨o,i.toArray,n,h1,h2,x,by simpa using qT r⟩
theorem qY(ok:kf P w H h)(e:Rd H a (.dT kvs)):kvs.length≤sizeLine/\(a == sysModules)=false /\
  ∃xs,KT H kvs xs/\h.DictOfH (tupleKind (bX P w)) a xs:=by
 obtain⟨z,y,xs,r,o,es,k,h1,h2,f,b,c⟩:=(show cT P w H h a (.dT kvs) from rd_of ok e);refine⟨z,y,xs,r,o,es,k,h1,h2,f,b,λx s=>?_,c⟩;have all:∀{l:List (List dJ×V)}{m:List (List dJ×Addr×Value)},KT H l m->∀x ∈ m,(tupleKind (bX P w)).is h x.1 x.2.1:=by
  intro l m q;induction q with
  |nil=>intro x s;exact nomatch s
  | @cons p q ps qs n t i=>
   intro x s;rcases aW.mp s with e|s
   .subst e;exact mJ ok (by rw[<- n.1];exact n.2.1)
   .exact i x s
 exact all r x s
theorem M4(ok:kf P w H h)(e:H a=some (.dT kvs)):kvs.length≤sizeLine/\(a == sysModules)=false /\
  ∃xs,KT H kvs xs/\h.DictOfH (tupleKind (bX P w)) a xs:=qY ok (.inl e)
end
def jj(H:Y)(a:Addr)(y:V)(r:Option V):Prop:=
 (∃kvs k,Rd H a (.dK kvs)/\y=kV k/\r=f_ kvs k)\/∃kvs k b,Rd H a (.dT kvs)/\y=.ref b/\H b=some (.tup (k.map kV))/\r=f_ kvs k
def vL(H:Y)(a:Addr)(y v:V)(H':Y):Prop:=
 (∃kvs k,H a=some (.dK kvs)/\y=kV k/\kvs.length < sizeLine/\H'=bN H a (.dK (putK kvs k v))) \/
 ∃kvs k b,H a=some (.dT kvs)/\y=.ref b/\H b=some (.tup (k.map kV))/\kvs.length < sizeLine/\H'=bN H a (.dT (putK kvs k v))
theorem jj.k{H:Y}{a:Addr}{kvs:List (dJ×V)}{k:dJ}(e:H a=some (.dK kvs)):jj H a (kV k) (f_ kvs k):=.inl ⟨kvs,k,.inl e,rfl,rfl⟩
theorem jj.t{H:Y}{a b:Addr}{kvs:List (List dJ×V)}{k:List dJ}(e:H a=some (.dT kvs))(h:H b=some (.tup (k.map kV))):jj H a (.ref b) (f_ kvs k):=.inr ⟨kvs,k,b,.inl e,rfl,h,rfl⟩
theorem vL.k{H:Y}{a:Addr}{kvs:List (dJ×V)}{k:dJ}{v:V}(e:H a=some (.dK kvs))(h:kvs.length < sizeLine):vL H a (kV k) v (bN H a (.dK (putK kvs k v))):=.inl ⟨kvs,k,e,rfl,h,rfl⟩
theorem vL.t{H:Y}{a b:Addr}{kvs:List (List dJ×V)}{k:List dJ}{v:V}(e:H a=some (.dT kvs))(h:H b=some (.tup (k.map kV)))(l:kvs.length < sizeLine) :
  vL H a (.ref b) v (bN H a (.dT (putK kvs k v))):=.inr ⟨kvs,k,b,e,rfl,h,l,rfl⟩
section
variable{X:Cx}{pins:PN}{J:St}{H:Y}{s:Shared}{a:Addr}{y v:V}{u r:Value}{o:Option V}{A:Around}{E:VP}
theorem Inv.big(I:Inv X pins J H s):sysModules < s.heap.objs.size:=by have h:mainGlobals < s.heap.objs.size:=(I.mod.glob.keeps I.bk).lt;exact j4 (by decide) h
theorem rf(q:A.units+1 < cLine)(I:Inv X pins J H s)(g:jj H a y (some v))(c:RelV y u)(h:∀x s',Inv X pins J H s'->RelV v x->Q x s') :
  wpAny (model X.p X.w) A (getItem (.ref a) u) Q E s:=by
 rcases g with ⟨kvs,k,e,n,l⟩|⟨kvs,k,b,e,n,m,l⟩
 .subst n;obtain⟨z,hd,i,r,d⟩:=qZ I.h e;obtain⟨x,hw,w⟩:=ju.some_of (v:=v) (o:=valueAt i k) (by rw[l];exact r.val k);exact wpAny_getItem_of (nl c) d.mapOf hw (h x _ (I.tok _) w)
 .subst n;cases (show u=Value.ref b from c);obtain⟨z,hd,xs,r,d⟩:=qY I.h e;obtain⟨x,hw,w⟩:=ju.some_of (v:=v) (o:=(atKey xs k).map (·.2)) (by rw[l];exact r.val k);obtain⟨p,t,f⟩:=cV.mp hw;refine wpAny_getItem_heap (o6 q) (mJ I.h m) d t ?_;rw[f];exact h x _ (I.tok _) w
theorem PF(c:A.units+1 < cLine)(I:Inv X pins J H s)(g:jj H a y o)(n:RelV y u)(h:∀s',Inv X pins J H s'->Q (.bool o.isSome) s') :
  wpAny (model X.p X.w) A (compareOp .In u (.ref a)) Q E s:=by
 rcases g with ⟨kvs,k,e,x,l⟩|⟨kvs,k,b,e,x,f,l⟩
 .subst x;obtain⟨z,hd,v,r,d⟩:=qZ I.h e;refine wpAny_in_of (nl n) hd d.mapOf ?_;rw[<- (r.val k).isSome_eq,<- l];exact h _ (I.tok _)
 .subst x;cases (show u=Value.ref b from n);obtain⟨z,hd,xs,r,d⟩:=qY I.h e;refine wpAny_in_heap (o6 c) (mJ I.h f) hd d ?_;have q:=(r.val k).isSome_eq;rw[yn]at q;rw[<- q,<- l];exact h _ (I.tok _)
theorem uf{t:Nat}(I:Inv X pins J H s)(m:Nl (H a))(f:eW a s.heap h')(k:∃q,h'.get? a=some q)(n:cT X.p X.w (bN H a N) h' a N) :
  Inv X pins J (bN H a N) { s with heap:=h',toks:=t }:=
 I.write (x:=a) (e:=a) m (.inl rfl) (λb q h z=>(f.2 b h).trans z) k n
theorem Ej{P:Program}{w:World}{H':Y}{h':Heap}{kvs:List (dJ×V)}{v:List (dJ×Value)}(z:kvs.length≤sizeLine)(hd:(a == sysModules)=false)(r:KV kvs v)(d:h'.DictOf (bX P w) a v) :
  cT P w H' h' a (.dK kvs):=⟨z,hd,v,r,d⟩
theorem A_{H':Y}{Q:Unit->Shared->Prop}(hu:A.units+1 < cLine)(I:Inv X pins J H s)(g:vL H a y v H')(ry:RelV y u)(rv:RelV v r)(h:∀s',Inv X pins J H' s'->Q () s') :
  wpAny (model X.p X.w) A (setItem (.ref a) u r) Q E s:=by
 rcases g with ⟨kvs,k,e,ey,l,eH⟩|⟨kvs,k,b,e,ey,eb,l,eH⟩
 .subst ey eH;obtain⟨z,hd,vs,rel,dd⟩:=HU I.h e;have hz:vs.length≤sizeLine:=by rw[<- rel.length];exact z
  have hl:(putK kvs k v).length≤sizeLine:=by have:=jG kvs k v;lia
  refine wpAny_setItem_pairs (hsz:=hz) (nl ry) dd λh' dd' hs=>h _ ?_;have he:∃q,h'.get? a=some q:=let ⟨q,_,_,hq,_⟩:=dd';⟨q,hq⟩
  exact uf I (by rw[e];exact True.intro) hs he (Ej hl hd (rel.put k rv) dd')
 .subst ey eH;cases (show u=Value.ref b from ry);obtain⟨z,hd,xs,rel,dd⟩:=M4 I.h e;have hz:xs.length≤sizeLine:=by rw[<- Paired.length rel];exact z
  have hl:(putK kvs k v).length≤sizeLine:=by have:=jG kvs k v;lia
  refine wpAny_setItem_heap (hsz:=hz) (o6 hu) (mJ I.h eb) dd λh' dd' hs=>h _ ?_;obtain⟨q,es,ep,hq,h2,h3,h4,_,h5⟩:=dd';refine uf I (by rw[e];exact True.intro) hs ⟨q,hq⟩ ⟨hl,hd,_,(rel.put k eb rv).keeps λc ys ec=>?_,q,es,ep,hq,h2,h3,h4,h5⟩;rw[aj (MJ ec e (λz=>nomatch z))];exact ec
end
noncomputable def L7(td ty tv:TE):TS:=λD J H=>tv J H λv G=>td J G λx H2=>ty J H2 λy e=>∃a h,x=.ref a/\vL e a y v h/\D.nx J h
section
variable{X:Cx}{o i e value:Expr}{B pos' tpos:Pos}{td ty tv:TE}
theorem zv(t:X.A.units+1 < cLine)(c:O X o td)(hi:O X i ty)(p:O X value tv)(m:swapsWith value (some (.Subscript o i pos')) B.line X.e=pure false) :
  PS X (.Assign [.Subscript o i pos'] value B) (L7 td ty tv):=by
 intro pins s J H D I h;refine wpAny_Assign_Subscript (cK (p pins s J H _ I h) λr F ⟨v,G,n,j,q⟩=>cK (c pins F J G _ n q) λu K ⟨x,H2,k,l,d⟩=>cK (hi pins K J H2 _ k d) λiv A z=>?_) m;obtain⟨y,P,f,S,a,e,ex,g,w⟩:=z;subst ex;obtain rfl:u=Value.ref a:=l;exact A_ t f g S j λC b=>⟨J,e,b,w⟩
end
theorem Ek(h:Heap)(b:sysModules < h.objs.size):cT P w H (h.push { cls:=.type "dict",data:=.dict #[] }) h.objs.size (.dK []):=
 ⟨b9 _,oW.mpr (aK (bc b)),[],.nil,Heap.DictOf.new h⟩
theorem Ei(h:Heap)(b:sysModules < h.objs.size):cT P w H (h.push { cls:=.type "dict",data:=.dict #[] }) h.objs.size (.dT []):=
 ⟨b9 _,oW.mpr (aK (bc b)),[],.nil,_,#[],0,bP _ rfl,⟨rfl,rfl,rfl⟩,rfl,rfl,yv⟩
def II:TE:=λ_ H Q=>∀p,H p=none->Q (.ref p) (bN H p (.dK []))
def IH:TE:=λ_ H Q=>∀p,H p=none->Q (.ref p) (bN H p (.dT []))
section
variable{X:Cx}{B:Pos}
theorem C4:O X (.Dict [] [] B) II:=λpins s J H Q I h=>
 By ⟨.ref s.heap.objs.size,_,I.laid (a:=s.heap.objs.size) (o:=.dK []) (t':=s.toks) (λ_ _ q=>aV _ q) (ag _) (Ek s.heap I.big),rfl,h _ (I.h.fresh (ag _))⟩
theorem C3:O X (.Dict [] [] B) IH:=λpins s J H Q I h=>
 By ⟨.ref s.heap.objs.size,_,I.laid (a:=s.heap.objs.size) (o:=.dT []) (t':=s.toks) (λ_ _ q=>aV _ q) (ag _) (Ei s.heap I.big),rfl,h _ (I.h.fresh (ag _))⟩
end
structure M1(X:Cx)(o:Expr)(m:Str)(apos:Pos)(e:Expr)(cpos:Pos):Prop where
 base:attributeBase o m X.e (eval o X.e)=eval o X.e
 few:((backTo cpos (starEach [e] X.e)).all (fun x=>!x.1) && (backToKw cpos (keywordEach [] X.e)).all (fun x=>x.1.isSome)
  && decide (([e]:Ab).length+([]:List Keyword).length+(if ([]:List Keyword).isEmpty then 0 else 1) < 30))=true
 line:(apos.endLine == cpos.line)=true
 trees:backTo cpos (starEach [e] X.e)=[(false,eval e X.e)]
structure M2(X:Cx)(o:Expr)(m:Str)(apos:Pos)(e f:Expr)(cpos:Pos):Prop where
 base:attributeBase o m X.e (eval o X.e)=eval o X.e
 few:((backTo cpos (starEach [e,f] X.e)).all (fun x=>!x.1) && (backToKw cpos (keywordEach [] X.e)).all (fun x=>x.1.isSome)
  && decide (([e,f]:Ab).length+([]:List Keyword).length+(if ([]:List Keyword).isEmpty then 0 else 1) < 30))=true
 line:(apos.endLine == cpos.line)=true
 trees:backTo cpos (starEach [e,f] X.e)=[(false,eval e X.e),(false,eval f X.e)]
def P2(H:Y)(a:Addr):Prop:=(∃kvs,Rd H a (.dK kvs))\/∃kvs,Rd H a (.dT kvs)
variable{pins:PN}{J:St}{s:Shared}
theorem wT(I:Inv X pins J H s)(d:P2 H a) :
  s.TypeIs (.ref a) "dict"/\(∀b,Value.ref a=.ref b->∃o,s.heap.get? b=some o/\o.dict=none)/\(a == sysModules)=false:=by
 rcases d with ⟨kvs,e⟩|⟨kvs,e⟩
 .obtain⟨_,hd,v,_,h⟩:=qZ I.h e;refine⟨h.typeIs,λb q=>?_,hd⟩;cases q;obtain⟨o,_,_,h1,h2,_⟩:=h;exact⟨o,h1,h2.2.1⟩
 .obtain⟨_,hd,xs,_,h⟩:=qY I.h e;refine⟨h.typeIs,λb q=>?_,hd⟩;cases q;obtain⟨o,_,_,h1,h2,_⟩:=h;exact⟨o,h1,h2.2.1⟩
section
variable{X:Cx}{pins:PN}{J:St}{H:Y}{s:Shared}{a:Addr}{y d:V}{u r:Value}{o:Option V}{A:Around}{E:VP}
theorem Kl(c:A.units+1 < cLine)(I:Inv X pins J H s)(g:jj H a y o)(n:RelV y u)(h:∀w s',Inv X pins J H s'->RelV (o.getD .non) w->Q w s') :
  wpAny (model X.p X.w) A (call (.builtin "dict.get") [.ref a,u]) Q E s:=by
 rcases g with ⟨kvs,k,e,x,l⟩|⟨kvs,k,b,e,x,f,l⟩
 .subst x;obtain⟨z,hd,v,r,d⟩:=qZ I.h e;refine o0 jU d.typeIs nY (xL _ _) (meets_dict_get (bX X.p X.w) a (nl n) hd) ⟨_,d.mapOf,h _ _ (I.tok _) ?_⟩;rw[l];exact(r.val k).getD rfl
 .subst x;cases (show u=Value.ref b from n);obtain⟨z,hd,xs,r,d⟩:=qY I.h e;refine o0 jU d.typeIs nY (xL _ _) (meetsH_dict_get (tupleKind (bX X.p X.w)) a b hd) ⟨o6 c,k,xs,mJ I.h f,d,h _ _ (I.tok _) ?_⟩;rw[l];exact(r.val k).getD rfl
theorem Kk(p:A.units+1 < cLine)(I:Inv X pins J H s)(g:jj H a y o)(m:RelV y u)(c:RelV d r)(h:∀w s',Inv X pins J H s'->RelV (o.getD d) w->Q w s') :
  wpAny (model X.p X.w) A (call (.builtin "dict.get") [.ref a,u,r]) Q E s:=by
 rcases g with ⟨kvs,k,e,f,l⟩|⟨kvs,k,b,e,f,t,l⟩
 .subst f;obtain⟨z,hd,v,x,n⟩:=qZ I.h e;refine o0 jU n.typeIs nY (xM _ _ _) (meets_dict_get_default (bX X.p X.w) a (nl m) hd r) ⟨_,n.mapOf,h _ _ (I.tok _) ?_⟩;rw[l];exact(x.val k).getD c
 .subst f;cases (show u=Value.ref b from m);obtain⟨z,hd,xs,x,n⟩:=qY I.h e;refine o0 jU n.typeIs nY (xM _ _ _) (meetsH_dict_get_default (tupleKind (bX X.p X.w)) a b hd r) ⟨o6 p,k,xs,mJ I.h t,n,h _ _ (I.tok _) ?_⟩;rw[l];exact(x.val k).getD c
end
noncomputable def IK(td ty:TE):TE:=λJ H Q=>td J H λx G=>∃a,x=.ref a/\P2 G a/\ty J G λy H2=>∃o,jj H2 a y o/\Q (o.getD .non) H2
noncomputable def IJ(td ty tx:TE):TE:=λJ H Q=>td J H λx G=>∃a,x=.ref a/\P2 G a/\ty J G λy H2=>tx J H2 λz h=>∃o,jj h a y o/\Q (o.getD z) h
section
variable{X:Cx}{o e f:Expr}{apos cpos:Pos}{td ty tx:TE}
theorem C6(t:X.A.units+1 < cLine)(c:O X o td)(b:O X e ty)(m:M1 X o "get" apos e cpos):O X (.Call (.Attribute o "get" apos) [e] [] cpos) (IK td ty):=by intro pins s J H Q I h;refine wa m.base m.few m.line rV jU xJ (cK (c pins s J H _ I h) λu i z=>?_);obtain⟨x,G,n,v,a,ex,d,q⟩:=z;subst ex;obtain rfl:u=Value.ref a:=v;obtain⟨j,l,_⟩:=wT n d;refine⟨j,l,?_⟩;rw[m.trees];refine jW rfl (lh (ei (cK (b pins i J G _ n q) λiv F ⟨y,H2,k,w,S,g,p⟩=>g9 ?_)));exact Kl t k g w λP K f r=>⟨_,H2,f,r,p⟩
theorem C5(w:X.A.units+1 < cLine)(v:O X o td)(p:O X e ty)(q:O X f tx)(m:M2 X o "get" apos e f cpos):O X (.Call (.Attribute o "get" apos) [e,f] [] cpos) (IJ td ty tx):=by
 intro pins s J H Q I h;refine wa m.base m.few m.line rV jU xJ (cK (v pins s J H _ I h) fun u A i=>?_);obtain⟨x,G,n,F,a,ex,d,j⟩:=i;subst ex;obtain rfl:u=Value.ref a:=F;obtain⟨C,D,_⟩:=wT n d;refine⟨C,D,?_⟩;rw [m.trees];refine jW rfl (lh (ei (cK (p pins A J G _ n j) fun iv B ⟨y,H2,b,K,l⟩=>
  ei (cK (q pins B J H2 _ b l) λE M ⟨z,k,c,P,L,g,S⟩=>g9 ?_))))
 exact Kk w c g K P λR N t r=>⟨_,k,t,r,S⟩
end
end L2
set_option tactic.hygienic true
namespace Att
open PySem PySem.W PySem.Calls PyProof.Rows
theorem nM:∀(s:List Int)(v:LV),WellAll P h v (s.map WData.int)->IntsAre v s:=by
 intro s;induction s with
 |nil=>intro v w;rw[gy]at w;cases w;exact .nil
 |cons n s i=>
  intro v w;rw[aF]at w;cases w with
  |cons a b=>cases a;exact .cons _ _ (i _ b)
theorem AD{l:OpenLaw}(t:l.most=some n)
  (p:l.row.toRowW.claim.pre z=true) (w:WellAll P h I z) :
  ∃a v s,I=[Value.ref a]/\z=[WData.list (s.map WData.int)]/\h.get? a=some { cls:=.type "list",data:=.seq v.toArray }/\IntsAre v s/\s.length≤n:=by
 have b:WShape.hasAll [] z [.list .int]=true:=(pre_splitW p).1;have c:l.pre.holds [] { args:=z }=true:=(pre_splitW p).2;obtain⟨d,r,rfl,h1,h2⟩:=hasAllW_cons b;obtain rfl:=hasAllW_nil h2;obtain⟨xs,rfl,m⟩:=hasW_list h1;obtain⟨s,rfl⟩:=items_int m;have e:s.length≤n:=by
  unfold OpenLaw.pre at c;have k:(WTm.not (.lt (.lit (.int (n:Int))) (.len (.arg 0)))).holds [] { args:=[.list (s.map .int)] }=true:=by have k:=(holds_andW c).1;rw[t]at k;exact k
  have f:=condW_of k (w_not (w_lt w_lit (w_len_list (w_arg rfl))));rw[aU]at f;refine Nat.le_of_not_lt λq=>?_;have u:(n:Int) < ((s.length:Nat):Int):=by lia
  first
   |(rw[jy u]at f;exact absurd f (by decide))
   |(simp at f;lia)
 cases w with
 |cons g i=>
  cases i;cases g with
  |list o x=>exact⟨_,_,s,rfl,rfl,o,nM s _ x,e⟩
theorem AG(l:OpenLaw)(a:List WData):l.row.toRowW.claim.post a (.bool true) a=true:=
 postW_of (r:=l.row.toRowW) (X:=(true == true))
  (show WShape.has [] (.bool true) .bool=true by first|rfl|decide|simp[WShape.has,WShape.arms,WShape.armsAll])
  (show(WTm.eq .res (.lit (.bool true))).value [] { args:=a,res:=some (.bool true),after:=a }=some (.bool (true == true)) from w_eq_bool (w_res rfl) w_lit) rfl
theorem attach_call{l:OpenLaw}
  (M:l.most=some n) (u:d.params.defaults=[])
  (call:∀(w:World) (h s:Shared) (mg y:SV) (x:Addr) (o:Obj) (H k c:Value) (a:Addr) (v:LV) (m:List Int),
   Ground q z [] I w h mg y s.heap->N w s.heap ->
   s.heap.get? x=some o->o.data=.func (docDef d.name d.params d.body d.scope H k c)->s.heap.CodeRec k d.name->mg d.name=some (.ref x) ->
   s.heap.get? a=some { cls:=.type "list",data:=.seq v.toArray }->IntsAre v m->m.length≤n->s.gens=#[] ->
   codeAny (model l.prog w) callerA (.call (.ref x) ⟨[.ref a],[]⟩) (λr s'=>r=.ok (.ret (.bool true))/\OldK s.heap s'.heap/\s'.os=s.os/\AllBare s'.gens) s) :
  WalkO q z I N l.row.toRowW d [] (λf v=>PySem.call f v):=by
 intro w h s mg y G P x o H k c V kV Q hd t D g C S K W p F T j E;obtain rfl:V=.none:=Dflts.none D u;obtain rfl:kV=.none:=Dflts.noKw D;obtain⟨a,v,m,rfl,rfl,b,i,e⟩:=AD M p j;refine enter_call (rJ (call w h s mg y x o H k c a v m G P Q (fd_plain hd) t g b i e C) λr s' R=>?_);obtain⟨rfl,h2,A,B⟩:=R;exact⟨.inl ⟨.bool true,.bool true,[],rfl,λ_=>rfl,.bool true,AG l _,λ_=>⟨List.Pairwise.nil,λ_ L=>(nomatch L)⟩⟩,h2,A,B⟩
end Att
set_option tactic.hygienic false
namespace L2
open PySem PySem.Spec PyProof.Rows
theorem qG:∀{v:LV}{s:List Int},IntsAre v s->bb (s.map V.int) v
 |_,_,.nil=>.nil
 |_,_,.cons n t h=>.cons ⟨t,rfl⟩ (qG h)
def Bn(H:Y):Prop:=∀b,H b=none\/H b=some .tbl\/∃o xs,H b=some (.frz o (.lst xs))
set_option tactic.hygienic true in
theorem DB{P:Program}{w:World}{K:FG}{mg mb:SV}{CX:Bq}{k:Nat}{fa a:Addr}{fd:FuncData}{x:Str}{sp:Sp}{f:Shared}{C:LV}{Z:List Int}
  (KX:K.In f.heap) (hNT:sP K=true) (T:∀P ∈ bS K,f.heap.get? P=some (lw #[])/\∃c,lv f.heap c P) (R:f.heap.Ns mainGlobals mg) (t:f.heap.Ns builtinsNs mb) (hbb:∀x:Str,x≠"__name__"->mb x=bootBuiltins x) (Q:f.heap.NoLimit) (hbm:∃G A,mg "__builtins__"=some (.ref G)/\G≠builtinsNs/\f.heap.get? G=some A/\A.cls=.type "module"/\A.dict=some builtinsNs/\A.data=.plain) (hg:f.gens=#[])
  (D:f.heap.get? a=some { cls:=.type "list",data:=.seq C.toArray }) (hi:IntsAre C Z) (hl:Z.length≤sizeLine) (hr:Room k callerA)
  (F:∀base:Heap,K.In base->base.Ns mainGlobals mg->FnOk P w K mg base CX k fa fd [x] sp) (B:∀(s:Shared)(u:Value),BindsTo s fd ⟨[u],[]⟩ [(x,u)])
  (hsp:∀H:Y,Bn H->fG K H a (Z.map V.int)->sp [.ref a] H (λv _=>v=.bl true) λ_ _ _=>False)
  (hCX:∀H e s',CX [] H f (λ_ _ _=>False) e s'->False) :
  codeAny (model P w) callerA (.call (.ref fa) ⟨[.ref a],[]⟩) (λr s'=>r=.ok (.ret (.bool true))/\OldK f.heap s'.heap/\s'.os=f.os/\AllBare s'.gens) f:=by
 have rv:=qG hi;have X:=hi.length;have y:∀H:Y,Bn H->fG K H a (Z.map V.int)->kf P w H f.heap->(∀b,H b≠none->b=a\/b ∈ bS K)->(∀b,H b=some .tbl->b ∈ bS K)->(∀b ∈ bS K,H b=some .tbl)->(H a≠none->K.lookup a=none) ->
   codeAny (model P w) callerA (.call (.ref fa) ⟨[.ref a],[]⟩) (λr s'=>r=.ok (.ret (.bool true))/\OldK f.heap s'.heap/\s'.os=f.os/\AllBare s'.gens) f:=by
  intro H hO hS W hA hB hC hK;have hKT:∀b ∈ bS K,K.lookup b=none:=λb t=>by
   cases q:K.lookup b with
   |none=>rfl
   |some o=>have e:=KX b o q;rw[(T b t).1]at e;cases e;have h2:=be.mp hNT (b,_) (y4 q);exact absurd (show false=true from h2) a8
  have p:∀{b:Addr}{o:Obj},f.heap.get? b=some o->H b=none->(tY f.heap H).get? b=some o:=λe n=>D5 e n;have noA:∀{b:Addr}{o:Obj}{es:Array DictEntry}{L:Nat},f.heap.get? b=some o->o.data=.dict es L->H b=none:=λ{b o es L} e d=>by
   cases q:H b with
   |none=>rfl
   |some u=>
    rcases hA b (by rw[q];simp) with j|j
    .subst j;rw[D]at e;cases e;have d':Data.seq C.toArray _=Data.dict es L:=d;cases d'
    .rw [(T b j).1]at e;cases e;cases d
  have noM:∀{b:Addr}{o:Obj},f.heap.get? b=some o->o.cls=.type "module"->H b=none:=λ{b o} e d=>by
   cases q:H b with
   |none=>rfl
   |some u=>
    rcases hA b (by rw[q];simp) with j|j
    .subst j;rw[D]at e;cases e;exact absurd (show Value.type "list"=Value.type "module" from d) (by decide)
    .rw [(T b j).1]at e;cases e;cases d
  have l:∀{b:Addr}{m:SV},f.heap.Ns b m->(tY f.heap H).Ns b m:=fun {b m} ⟨o,es,L,e,d,r⟩=>⟨o,es,L,p e (noA e d),d,r⟩;have M:K.In (tY f.heap H):=fun b o e=>p (KX b o e) (by
   cases q:H b with
   |none=>rfl
   |some u=>
    rcases hA b (by rw[q];simp) with j|j
    .subst j;rw[hK (by rw[q];simp)]at e;cases e
    .rw [hKT b j]at e;cases e)
  have hM:Mod K mg (tY f.heap H):=⟨M,l R,⟨mb,l t,hbb⟩,let ⟨mc,h1,h2⟩:=Q;⟨mc,l h1,h2⟩,let ⟨G,A,c1,c2,c3,c4,c5⟩:=hbm;⟨G,A,c1,c2,p c3 (noM c3 c4),c4,c5⟩⟩;have e0:Env0 P w K mg (tY f.heap H) callerA [] f H:=⟨rfl,hM,λb o e=>GI e,yR (AY _ _),trivial,λb t=>absurd (show b ∈ ([]:List Addr) from t) (by simp),hC,W,.of_eq hg⟩;refine rJ ((F _ M (l R)).run callerA [] f H ⟨[.ref a],[]⟩ [.ref a] [.ref a] _ _ hr e0 (B f (.ref a)) (.cons rfl .nil) (hsp H hO hS)) λr s' h=>?_;cases r with
  |error e=>exact(hCX H e s' h).elim
  |ok fl=>
   cases fl with
   |next=>exact False.elim h
   |brk=>exact False.elim h
   |cont=>exact False.elim h
   |ret u=>
    obtain⟨v,H',os,E,un,S,r',q⟩:=h;have q':v=.bl true:=q;subst q';obtain rfl:u=Value.bool true:=r';have aw:∀b o,f.heap.get? b=some o->asItWas f.heap s'.heap b o:=λb o e=>by
     rcases hO b with q|z|⟨A,xs,z⟩
     .exact .inl (un.keep b o e q (by intro z;exact absurd (show b ∈ ([]:List Addr) from z) (by simp)) (by simp))
     .obtain⟨I,c,e2⟩:=T b (hB b z);obtain⟨ps,e3,_⟩:=(show qc H' s'.heap b from S b _ (un.tbls b z));rw[I]at e;cases e;exact .inr (.inl ⟨(e2.tab I).isCodeTable,rfl,#[],ps,rfl,by rw[Array.empty_append];exact e3⟩)
     .have z2:=un.frzs b A _ z;obtain⟨I,_⟩:=W b _ z;obtain⟨e2,_⟩:=S b _ z2;rw[e]at I;cases I;exact .inl e2
    refine⟨rfl,⟨aw,λb o e=>?_⟩,os,E⟩;rcases aw b o e with x|⟨_,_,_,_,_,x⟩|⟨_,_,⟨_,_,_,x,_⟩,_⟩<;>exact⟨_,x⟩
 have N:a ∉ bS K:=λz=>by have e:=(T a z).1;rw[D]at e;cases e
 have tk:∀b,b ∈ bS K->∀H:Y,qc H f.heap b:=λb t H=>⟨#[],(T b t).1,.inl rfl⟩;cases hk:K.lookup a with
 |some o=>
  have e:=KX a o hk;rw[D]at e;cases e;refine y (λb=>if b ∈ bS K then some .tbl else none) (λb=>?_) (.inr ⟨_,C.toArray,_,hk,rfl,rfl,rfl,by rw[ba,X];exact hl,by simpa using rv⟩) (λb u z=>?_) (λb z=>?_) (λb z=>?_) (λb z=>ai z) λz=>absurd (al N) z
  .by_cases t:b ∈ bS K
   .exact .inr (.inl (ai t))
   .exact .inl (al t)
  .by_cases t:b ∈ bS K
   .have g:=(ai t).symm.trans z;cases g;exact tk b t _
   .have g:=(al t).symm.trans z;cases g
  .by_cases t:b ∈ bS K
   .exact .inr t
   .exact absurd (al t) z
  .by_cases t:b ∈ bS K
   .exact t
   .have g:=(al t).symm.trans z;cases g
 |none=>
  refine y (λb=>if b=a then some (.frz { cls:=.type "list",data:=.seq C.toArray } (.lst (Z.map V.int))) else if b ∈ bS K then some .tbl else none) (λb=>?_) (.inl (.inr ⟨{ cls:=.type "list",data:=.seq C.toArray },ai rfl⟩)) (λb u z=>?_) (λb z=>?_) (λb z=>?_) (λb z=>?_) λ_=>hk
  .by_cases t:b=a
   .exact .inr (.inr ⟨_,_,ai t⟩)
   .by_cases i:b ∈ bS K
    .exact .inr (.inl ((al t).trans (ai i)))
    .exact .inl ((al t).trans (al i))
  .by_cases t:b=a
   .have g:=(ai t).symm.trans z;cases g;subst t;exact⟨D,by rw[aU];exact hl,C,_,rv,D⟩
   .have z1:=(al t).symm.trans z;by_cases i:b ∈ bS K
    .have g:=(ai i).symm.trans z1;cases g;exact tk b i _
    .have g:=(al i).symm.trans z1;cases g
  .by_cases t:b=a
   .exact .inl t
   .by_cases i:b ∈ bS K
    .exact .inr i
    .exact absurd ((al t).trans (al i)) z
  .by_cases t:b=a
   .have g:=(ai t).symm.trans z;cases g
   .by_cases i:b ∈ bS K
    .exact i
    .have g:=(al i).symm.trans ((al t).symm.trans z);cases g
  .have t:b≠a:=λq=>N (q ▸ z);exact(al t).trans (ai z)
noncomputable abbrev Qy{K:FG}(_:K.In h):FG:=K
theorem FQ{l:yY}{n k:Nat}{q:Program}{m:LS}{I:(SV)->Heap->Prop}{g:World->Heap->Prop}{d:DefRec}{K:Params->FG}{CX:World->Bq}{sp:World->Sp}{x:Str}
  (hn:l.most=some n) (S:n≤sizeLine) (y:d.params.defaults=[]) (hr:Room k callerA)
  (W:∀(w:World)(h:Heap),g w h->(K w.params).In h) (N:∀w:World,sP (K w.params)=true) (T:∀(w:World)(h:Heap),g w h->∀P ∈ bS (K w.params),h.get? P=some (lw #[])/\∃c,lv h c P)
  (F:∀(w:World) (mg:SV) (t:Addr) (h:Heap),(K w.params).In h->h.Ns mainGlobals mg->mg d.name=some (.ref t) ->
   ∃fd:FuncData,(∀(s:Shared)(u:Value),BindsTo s fd ⟨[u],[]⟩ [(x,u)]) /\
    ∀base:Heap,(K w.params).In base->base.Ns mainGlobals mg->FnOk l.prog w (K w.params) mg base (CX w) k t fd [x] (sp w))
  (A:∀(w:World)(H:Y)(a:Addr)(p:List Int),p.length≤n->Bn H->fG (K w.params) H a (p.map V.int)->sp w [.ref a] H (λv _=>v=.bl true) λ_ _ _=>False)
  (C:∀(w:World)(H:Y)(s:Shared)(e:Value)(s':Shared),CX w [] H s (λ_ _ _=>False) e s'->False) :
  yW q m I g l.row.toRowW d [] (λf E=>PySem.call f E):=by
 refine Att.attach_call hn y λw D r mg mb t o pm cd L a E p G B ho hd hcd z j i b hg=>?_;have X:=W w _ B;obtain⟨fd,Z,M⟩:=F w mg t _ X G.T.g z;exact DB X (N w) (T w _ B) G.T.g G.T.b G.T.builtins G.T.nolimit G.T.bmain hg j i (bh b S) hr M Z (λH Q R=>A w H a p b Q R) λH e s'=>C w H r e s'
theorem B7{l:yY}{n k:Nat}{q:Program}{o:LS}{X:(SV)->Heap->Prop}{m:World->Heap->Prop}{d:DefRec}{K:Params->FG}{CX:Bq}{sp:FG->Sp}{x:Str}
  (y:l.most=some n) (t:n≤sizeLine) (r:d.params.defaults=[]) (z:Room k callerA)
  (j:∀(w:World)(h:Heap),m w h->(K w.params).In h) (N:∀w:World,sP (K w.params)=true) (T:∀(w:World)(h:Heap),m w h->∀P ∈ bS (K w.params),h.get? P=some (lw #[])/\∃c,lv h c P)
  (F:∀(w:World) (mg:SV) (g:Addr) (h:Heap),(K w.params).In h->h.Ns mainGlobals mg->mg d.name=some (.ref g) ->
   ∃fd:FuncData,(∀(s:Shared)(u:Value),BindsTo s fd ⟨[u],[]⟩ [(x,u)]) /\
    ∀base:Heap,(K w.params).In base->base.Ns mainGlobals mg->FnOk l.prog w (K w.params) mg base CX k g fd [x] (sp (K w.params)))
  (p:∀(K:FG)(H:Y)(a:Addr)(b:List Int),b.length≤n->Bn H->fG K H a (b.map V.int)->sp K [.ref a] H (λv _=>v=.bl true) λ_ _ _=>False)
  (C:∀(H:Y)(s:Shared)(e:Value)(s':Shared),CX [] H s (λ_ _ _=>False) e s'->False) :
  yW q o X m l.row.toRowW d [] (λf S=>PySem.call f S):=
 FQ (K:=K) (CX:=λ_=>CX) (sp:=λw=>sp (K w.params)) y t r z j N T F (λw H a b h1 h2 i=>p (K w.params) H a b h1 h2 i) λ_ H s e s'=>C H s e s'
noncomputable def j9(s:Stmt)(j:Nat):Stmt:=match s with
 | .ClassDef _ _ _ b _ _ _ _ _ _ _=>b.getD j (.Pass ⟨0,0,0,0⟩)
 |_=>.Pass ⟨0,0,0,0⟩
noncomputable def gI(s:Stmt):Arguments:=match s with
 | .FunctionDef _ a _ _ _ _ _ _ _ _=>a
 |_=>{ posonlyargs:=[],args:=[],vararg:=none,kwonlyargs:=[],kw_defaults:=[],kwarg:=none,defaults:=[] }
noncomputable def eB(s:Stmt):List Stmt:=match s with
 | .FunctionDef _ _ b _ _ _ _ _ _ _=>b
 |_=>[]
noncomputable def bp(s:Stmt):Scope:=match s with
 | .FunctionDef _ _ _ _ _ _ sc _ _ _=>sc
 |_=>{ kind:=.function,names:=[],isGenerator:=false,isCoroutine:=false }
noncomputable abbrev qh:Bq:=λ_ _ _ _ _ _=>False
noncomputable abbrev E0:XK:=λ_ _ _=>False
theorem pD:kX qh X E0:=λ_ _ _ _ _ _ _ h=>h.elim
structure Fun(K:FG)(x qual:Str)(st:Stmt)(f:Addr)(fd:FuncData):Prop where
 ex:∃(oc:Value)(od:Option Addr)(dV kV doc pm:Value)(an:Option Addr)(cdv ct:Value)(osl:Array (OV)),
  fd=fV x qual (gI st) (eB st) (bp st) dV kV doc pm an cdv ct/\K.lookup f=some ⟨oc,od,.func fd,osl⟩/\fW K cdv qual=true
 kp:em K (.ref f)=true
section
variable{P:Program}{w:World}{K:FG}{mg:SV}{base:Heap}
theorem D9{x q:Str}{st:Stmt}{f:Addr}{h:Value}{e a:Option Addr}{s:Array (OV)}{V kV o p d t:Value}(l:K.lookup f=some ⟨h,e,.func (fV x q (gI st) (eB st) (bp st) V kV o p a d t),s⟩)
  (c:fW K d q=true) (k:em K (.ref f)=true):Fun K x q st f (fV x q (gI st) (eB st) (bp st) V kV o p a d t):=⟨⟨h,e,V,kV,o,p,a,d,t,s,rfl,l,c⟩,k⟩
end
section
variable{X:Cx}
end
end L2
set_option tactic.hygienic true
namespace PySem
open PySem PyProof.Rows
namespace F
theorem entry_dict_update_loop:entryFor table "dict.update.loop"=some Builtin.«dict.update.loop»:=entryFor_of_tree (by kernel_rfl)
theorem plain_dict_update_loop:plainId "dict.update.loop"=true:=by decide +kernel
end F
section
variable{prog:Program}{w:World}{A:Around}{E:VP}{s:Shared}
inductive PairsAt{K:Type}[DecidableEq K](knd:KeyKind prog w K)(h:Heap):LV->List (K×Value)->Prop
 |nil:PairsAt knd h [] []
 |cons {t:Addr}{key v:Value}{k:K}{us:LV}{kvs:List (K×Value)}:IsTup h t #[key,v]->knd.is k key=true->PairsAt knd h us kvs->PairsAt knd h (.ref t::us) ((k,v)::kvs)
end
end PySem
namespace Ev
open PySem L2
inductive P where
 |non|bl (b:Bool)|int (i:Int)|str (x:Str)|tup (xs:List P)|lst (xs:List P)|ro (xs:List P)|dct (ks:List dJ) (vs:List P)|obj (c:Str) (ks:LS) (vs:List P)
inductive D where
 |p (v:P)|ref (i:Nat)
inductive SO where
 |lst (xs:List D)|dct (ks:List dJ) (vs:List D)|fz (v:P)|ins (c:Str) (ks:LS) (vs:List D)|dtt (ks:List (List dJ)) (vs:List D)
noncomputable abbrev aL:=List SO
noncomputable abbrev Lc:=List (Option D)
mutual
noncomputable def pd:P->PyData
 | .non=>.none
 | .bl b=>.bool b
 | .int i=>.int i
 | .str x=>.str x
 | .tup xs=>.tuple (gq xs)
 | .lst xs=>.list (gq xs)
 | .ro xs=>.list (gq xs)
 | .dct _ _=>.none
 | .obj _ _ _=>.none
noncomputable def gq:List P->List PyData
 | []=>[]
 |x::r=>pd x::gq r
end
def P0(K:FG)(a:Addr)(xs:List V):Prop:=jw K (λ_=>none) a xs
def P1(K:FG)(a:Addr)(xs:List V):Prop:=fG K (λ_=>none) a xs
def TupAt(K:FG)(H:Y)(a:Addr)(xs:List V):Prop:=H a=some (.tup xs)\/P0 K a xs
def LstAt(F:Aa)(H:Y)(a:Addr)(xs:List V):Prop:=F a/\H a=some (.lst xs)
def Bm(K:FG)(F:Aa)(H:Y)(a:Addr)(xs:List V):Prop:=(F a/\∃o,H a=some (.frz o (.lst xs)))\/P1 K a xs
variable{K:FG}{H:Y}{a:Addr}{xs:List V}
theorem TupAt.sq(h:TupAt K H a xs):jw K H a xs:=by
 rcases h with h|(h|h)
 .exact .inl (.inl h)
 .rcases h with h|⟨o,h⟩<;>cases h
 .exact .inr h
variable{F:Aa}
theorem LstAt.sq(h:LstAt F H a xs):fG K H a xs:=.inl (.inl h.2)
theorem Bm.sq(h:Bm K F H a xs):fG K H a xs:=by
 rcases h with ⟨_,o,h⟩|(h|h)
 .exact .inl (.inr ⟨o,h⟩)
 .rcases h with h|⟨o,h⟩<;>cases h
 .exact .inr h
section
variable(K:FG)(F:Aa)(H:Y)
mutual
noncomputable def RP:P->V->Prop
 | .non,v=>v=.non
 | .bl b,v=>v=.bl b
 | .int i,v=>v=.int i
 | .str x,v=>v=.str x
 | .tup ds,v=>∃a xs,v=.ref a/\TupAt K H a xs/\b7 ds xs
 | .lst ds,v=>∃a xs,v=.ref a/\LstAt F H a xs/\b7 ds xs
 | .ro ds,v=>∃a xs,v=.ref a/\Bm K F H a xs/\b7 ds xs
 | .dct ks ds,v=>∃a kvs,v=.ref a/\F a/\H a=some (.dK kvs)/\kvs.map (·.1)=ks/\b7 ds (kvs.map (·.2))
 | .obj c ks ds,v=>∃a C dx kvs,v=.ref a/\F a/\j6 K mainGlobals c=some (some (.ref C))/\H a=some (.ins C dx kvs)/\kvs.map (·.1)=ks/\b7 ds (kvs.map (·.2))
noncomputable def b7:List P->List V->Prop
 | [],xs=>xs=[]
 |d::ds,xs=>∃x r,xs=x::r/\RP d x/\b7 ds r
end
def RD(m:List Addr):D->V->Prop
 | .p d,v=>RP K F H d v
 | .ref i,v=>∃a,v=.ref a/\m[i]? = some a
def cQ(m:List Addr):List D->List V->Prop
 | [],xs=>xs=[]
 |d::s,xs=>∃x r,xs=x::r/\RD K F H m d x/\cQ m s r
def RO(m:List Addr)(a:Addr):SO->Prop
 | .lst d=>∃xs,H a=some (.lst xs)/\cQ K F H m d xs
 | .dct s d=>∃k,H a=some (.dK k)/\k.map (·.1)=s/\cQ K F H m d (k.map (·.2))
 | .fz v=>RP K F H v (.ref a)
 | .ins c s d=>∃C x k,j6 K mainGlobals c=some (some (.ref C))/\H a=some (.ins C x k)/\k.map (·.1)=s/\cQ K F H m d (k.map (·.2))
 | .dtt s d=>∃k,H a=some (.dT k)/\k.map (·.1)=s/\cQ K F H m d (k.map (·.2))
def SO.own:SO->Prop
 | .fz _=>False
 |_=>True
structure Rel(m:List Addr)(S:aL):Prop where
 len:m.length=S.length
 nd:m.Nodup
 obj:∀(i:Nat) a o,m[i]? = some a->S[i]? = some o->RO K F H m a o
 sep:∀(i:Nat) a o,m[i]? = some a->S[i]? = some o->o.own->¬F a
 trk:∀a ∈ m,H a≠none
 ft:∀a,F a->H a≠none
end
structure Kp(F:Aa)(m:List Addr)(H:Y)(F':Aa)(m':List Addr)(H':Y):Prop where
 pre:∃n,m'=m++n
 frz:∀b,F b->F' b
 frk:∀b o,F b->H b=some o->H' b=some o
 tup:∀b xs,H b=some (.tup xs)->H' b=some (.tup xs)
structure Stp(F:Aa)(m:List Addr)(H:Y)(F':Aa)(m':List Addr)(H':Y):Prop where
 pre:∃n,m'=m++n
 oth:∀b o,H b=some o->b ∉ m->H' b=some o
 frz:∀b,F b->F' b
 frk:∀b o,F b->H b=some o->H' b=some o
 tup:∀b xs,H b=some (.tup xs)->H' b=some (.tup xs)
 trk:∀b,H b≠none->H' b≠none
 nf:∀b,F' b->F b\/H b=none\/b ∈ m
 nm:∀b,b ∈ m'->b ∈ m\/H b=none
variable{F':Aa}{m:List Addr}{m':List Addr}{H':Y}
theorem Stp.kp(s:Stp F m H F' m' H'):Kp F m H F' m' H':=⟨s.pre,s.frz,s.frk,s.tup⟩
theorem Stp.refl:Stp F m H F m H:=
 ⟨⟨[],by simp⟩,λ_ _ h _=>h,λ_ h=>h,λ_ _ _ h=>h,λ_ _ h=>h,λ_ h=>h,λ_ h=>.inl h,λ_ h=>.inl h⟩
theorem Stp.trans(a:Stp F m H B r z)(b:Stp B r z j t I):Stp F m H j t I where
 pre:=by obtain⟨f,n⟩:=a.pre;obtain⟨p,k⟩:=b.pre;exact⟨f++p,by rw[k,n,fj]⟩
 oth:=λc o h s=>b.oth c o (a.oth c o h s) λx=>by
  rcases a.nm c x with x|x
  .exact s x
  .rw [h]at x;cases x
 frz:=λc h=>b.frz c (a.frz c h)
 frk:=λc o h e=>b.frk c o (a.frz c h) (a.frk c o h e)
 tup:=λc xs h=>b.tup c xs (a.tup c xs h)
 trk:=λc h=>b.trk c (a.trk c h)
 nf:=λc h=>by
  rcases b.nf c h with h|h|h
  .exact a.nf c h
  .by_cases e:H c=none
   .exact .inr (.inl e)
   .exact absurd h (a.trk c e)
  .rcases a.nm c h with h|h
   .exact .inr (.inr h)
   .exact .inr (.inl h)
 nm:=λc h=>by
  rcases b.nm c h with h|h
  .exact a.nm c h
  .by_cases e:H c=none
   .exact .inr e
   .exact absurd h (a.trk c e)
section
variable{K:FG}{F F':Aa}{H H':Y}{m m':List Addr}{S N:aL}
theorem TupAt.kp(s:Kp F m H F' m' H')(h:TupAt K H a xs):TupAt K H' a xs:=by
 rcases h with h|h
 .exact .inl (s.tup _ _ h)
 .exact .inr h
theorem LstAt.kp(s:Kp F m H F' m' H')(h:LstAt F H a xs):LstAt F' H' a xs:=⟨s.frz _ h.1,s.frk _ _ h.1 h.2⟩
theorem Bm.kp(s:Kp F m H F' m' H')(h:Bm K F H a xs):Bm K F' H' a xs:=by
 rcases h with ⟨f,o,h⟩|h
 .exact .inl ⟨s.frz _ f,o,s.frk _ _ f h⟩
 .exact .inr h
mutual
theorem RP.kp(s:Kp F m H F' m' H'):∀{d:P}{v:V},RP K F H d v->RP K F' H' d v
 | .non,_,h=>h
 | .bl _,_,h=>h
 | .int _,_,h=>h
 | .str _,_,h=>h
 | .tup _,_,h=>by obtain⟨a,xs,e,t,r⟩:=h;exact⟨a,xs,e,t.kp s,b7.kp s r⟩
 | .lst _,_,h=>by obtain⟨a,xs,e,t,r⟩:=h;exact⟨a,xs,e,t.kp s,b7.kp s r⟩
 | .ro _,_,h=>by obtain⟨a,xs,e,t,r⟩:=h;exact⟨a,xs,e,t.kp s,b7.kp s r⟩
 | .dct _ _,_,h=>by obtain⟨a,kvs,e,f,t,k,r⟩:=h;exact⟨a,kvs,e,s.frz _ f,s.frk _ _ f t,k,b7.kp s r⟩
 | .obj _ _ _,_,h=>by obtain⟨a,C,dx,kvs,e,f,n,t,k,r⟩:=h;exact⟨a,C,dx,kvs,e,s.frz _ f,n,s.frk _ _ f t,k,b7.kp s r⟩
theorem b7.kp(s:Kp F m H F' m' H'):∀{ds:List P}{xs:List V},b7 K F H ds xs->b7 K F' H' ds xs
 | [],_,h=>h
 |_::_,_,h=>by obtain⟨x,r,e,h1,h2⟩:=h;exact⟨x,r,e,RP.kp s h1,b7.kp s h2⟩
end
theorem RD.kp(s:Kp F m H F' m' H'):∀{d:D}{v:V},RD K F H m d v->RD K F' H' m' d v
 | .p _,_,h=>RP.kp s h
 | .ref i,_,h=>by obtain⟨a,e,h⟩:=h;obtain⟨n,x⟩:=s.pre;refine⟨a,e,?_⟩;rw[x];have k:i < m.length:=(aP.mp h).1;rw[bw k];exact h
theorem cQ.kp(s:Kp F m H F' m' H'):∀{d:List D}{xs:List V},cQ K F H m d xs->cQ K F' H' m' d xs
 | [],_,h=>h
 |_::_,_,h=>by obtain⟨x,r,e,a,n⟩:=h;exact⟨x,r,e,RD.kp s a,cQ.kp s n⟩
variable{d:P}{v:V}
theorem RP.mono(s:Stp F m H F' m' H')(h:RP K F H d v):RP K F' H' d v:=RP.kp s.kp h
theorem b7.mono(s:Stp F m H F' m' H'){d:List P}{v:List V}(h:b7 K F H d v):b7 K F' H' d v:=b7.kp s.kp h
theorem RD.mono(s:Stp F m H F' m' H'){d:D}{v:V}(h:RD K F H m d v):RD K F' H' m' d v:=RD.kp s.kp h
theorem cQ.mono(s:Stp F m H F' m' H'){d:List D}{v:List V}(h:cQ K F H m d v):cQ K F' H' m' d v:=cQ.kp s.kp h
theorem b7.length:∀{d:List P}{xs:List V},b7 K F H d xs->d.length=xs.length
 | [],_,h=>by rw[show _=([]:List V) from h]<;>rfl
 |_::_,_,h=>by obtain⟨x,r,e,_,a⟩:=h;rw[e,aX,aX,b7.length a]
theorem cQ.length:∀{d:List D}{xs:List V},cQ K F H m d xs->d.length=xs.length
 | [],_,h=>by rw[show _=([]:List V) from h]<;>rfl
 |_::_,_,h=>by obtain⟨x,r,e,_,a⟩:=h;rw[e,aX,aX,cQ.length a]
theorem b7.get:∀{s:List P}{xs:List V}{i:Nat}{d:P},b7 K F H s xs->s[i]? = some d->∃x,xs[i]? = some x/\RP K F H d x
 | [],_,_,_,_,e=>by simp at e
 |_::_,_,0,_,h,e=>by obtain⟨x,r,rfl,n,_⟩:=h;simp at e;subst e;exact⟨x,rfl,n⟩
 |_::_,_,i+1,d,h,e=>by obtain⟨x,r,rfl,_,k⟩:=h;obtain⟨y,a,f⟩:=b7.get (i:=i) k (by simpa using e);exact⟨y,by simpa using a,f⟩
theorem b7.append:∀{d l:List P}{xs y:List V},b7 K F H d xs->b7 K F H l y->b7 K F H (d++l) (xs++y)
 | [],_,_,_,h,g=>by rw[show _=([]:List V) from h];exact g
 |_::_,_,_,_,h,g=>by obtain⟨x,r,rfl,a,e⟩:=h;exact⟨x,r++_,rfl,a,b7.append e g⟩
theorem cQ.append:∀{d l:List D}{xs y:List V},cQ K F H m d xs->cQ K F H m l y->cQ K F H m (d++l) (xs++y)
 | [],_,_,_,h,g=>by rw[show _=([]:List V) from h];exact g
 |_::_,_,_,_,h,g=>by obtain⟨x,r,rfl,a,e⟩:=h;exact⟨x,r++_,rfl,a,cQ.append e g⟩
theorem b7.take:∀(n:Nat){d:List P}{xs:List V},b7 K F H d xs->b7 K F H (d.take n) (xs.take n)
 |0,_,_,_=>rfl
 |_+1,[],_,h=>by rw[show _=([]:List V) from h];rfl
 |n+1,_::_,_,h=>by obtain⟨x,r,rfl,a,e⟩:=h;exact⟨x,r.take n,rfl,a,b7.take n e⟩
theorem b7.drop:∀(n:Nat){d:List P}{xs:List V},b7 K F H d xs->b7 K F H (d.drop n) (xs.drop n)
 |0,_,_,h=>h
 |_+1,[],_,h=>by rw[show _=([]:List V) from h];rfl
 |n+1,_::_,_,h=>by obtain⟨x,r,rfl,_,a⟩:=h;exact b7.drop n a
theorem cQ.take:∀(n:Nat){d:List D}{xs:List V},cQ K F H m d xs->cQ K F H m (d.take n) (xs.take n)
 |0,_,_,_=>rfl
 |_+1,[],_,h=>by rw[show _=([]:List V) from h];rfl
 |n+1,_::_,_,h=>by obtain⟨x,r,rfl,a,e⟩:=h;exact⟨x,r.take n,rfl,a,cQ.take n e⟩
theorem cQ.get:∀{s:List D}{xs:List V}{i:Nat}{d:D},cQ K F H m s xs->s[i]? = some d->∃x,xs[i]? = some x/\RD K F H m d x
 | [],_,_,_,_,e=>by simp at e
 |_::_,_,0,_,h,e=>by obtain⟨x,r,rfl,n,_⟩:=h;simp at e;subst e;exact⟨x,rfl,n⟩
 |_::_,_,i+1,d,h,e=>by obtain⟨x,r,rfl,_,k⟩:=h;obtain⟨y,a,f⟩:=cQ.get (i:=i) k (by simpa using e);exact⟨y,by simpa using a,f⟩
theorem cQ.ofP:∀{d:List P}{xs:List V},b7 K F H d xs->cQ K F H m (d.map .p) xs
 | [],_,h=>h
 |_::_,_,h=>by obtain⟨x,r,e,a,s⟩:=h;exact⟨x,r,e,a,cQ.ofP s⟩
variable{p:Addr}
theorem Rel.fresh_m(r:Rel K F H m S)(h:H p=none):p ∉ m:=λz=>r.trk p z h
theorem Rel.fresh_F(r:Rel K F H m S)(h:H p=none):¬F p:=λz=>r.ft p z h
variable{o:HO}
theorem hZ(x:H p=none):Stp F m H F m (bN H p o) where
 pre:=⟨[],by simp⟩
 oth:=λb u h _=>by rw[aj (by rintro rfl;rw[x]at h;cases h)];exact h
 frz:=λ_ h=>h
 frk:=λb u _ h=>by rw[aj (by rintro rfl;rw[x]at h;cases h)];exact h
 tup:=λb u h=>by rw[aj (by rintro rfl;rw[x]at h;cases h)];exact h
 trk:=λb h=>by
  by_cases e:b=p
  .subst e;rw[aJ];exact λz=>nomatch z
  .rw [aj e];exact h
 nf:=λ_ h=>.inl h
 nm:=λ_ h=>.inl h
theorem RO.kp(s:Kp F m H F' m' H'){a:Addr}{o:SO}(k:∀u,H a=some u->H' a=some u)(h:RO K F H m a o):RO K F' H' m' a o:=by
 cases o with
 |lst d=>obtain⟨xs,e,r⟩:=h;exact⟨xs,k _ e,cQ.kp s r⟩
 |dct b d=>obtain⟨x,e,f,r⟩:=h;exact⟨x,k _ e,f,cQ.kp s r⟩
 |fz v=>exact RP.kp s (show RP K F H v (.ref a) from h)
 |ins c b d=>obtain⟨C,t,x,n,e,f,r⟩:=h;exact⟨C,t,x,n,k _ e,f,cQ.kp s r⟩
 |dtt b d=>obtain⟨x,e,f,r⟩:=h;exact⟨x,k _ e,f,cQ.kp s r⟩
theorem RO.mono(s:Stp F m H F' m' H'){a:Addr}{o:SO}(k:∀u,H a=some u->H' a=some u)(h:RO K F H m a o):RO K F' H' m' a o:=RO.kp s.kp k h
theorem Rel.stayK(r:Rel K F H m S)(s:Kp F m H F' m H')(k:∀a u,a ∈ m->H a=some u->H' a=some u)(n:∀a,F' a->F a\/H a=none)(t:∀a,F' a->H' a≠none):Rel K F' H' m S where
 len:=r.len
 nd:=r.nd
 obj:=λi a o e x=>(r.obj i a o e x).kp s λu h=>k a u (aM e) h
 sep:=λi a o e x w f=>by
  rcases n a f with f|f
  .exact r.sep i a o e x w f
  .exact r.trk a (aM e) f
 trk:=λa h=>by
  cases q:H a with
  |none=>exact absurd q (r.trk a h)
  |some u=>rw[k a u h q];exact λz=>nomatch z
 ft:=t
theorem Rel.stay(r:Rel K F H m S)(s:Stp F m H F' m H')(k:∀a u,a ∈ m->H a=some u->H' a=some u)(n:∀a,F' a->F a\/H a=none)(t:∀a,F' a->H' a≠none):Rel K F' H' m S where
 len:=r.len
 nd:=r.nd
 obj:=λi a o e x=>(r.obj i a o e x).mono s λu h=>k a u (aM e) h
 sep:=λi a o e x w f=>by
  rcases n a f with f|f
  .exact r.sep i a o e x w f
  .exact r.trk a (aM e) f
 trk:=λa h=>s.trk a (r.trk a h)
 ft:=t
theorem Rel.new(r:Rel K F H m S)(x:H p=none):Rel K F (bN H p o) m S:=
 r.stay (hZ x) (λa u e h=>by rw[aj (by rintro rfl;exact r.fresh_m x e)];exact h) (λ_ f=>.inl f) λa f=>(hZ (F:=F) (m:=m) x).trk a (r.ft a f)
theorem dU{p:Addr}{o:HO}(x:H p=none):Stp F m H F (m++[p]) (bN H p o) where
 pre:=⟨[p],rfl⟩
 oth:=(hZ (F:=F) (m:=m) (o:=o) x).oth
 frz:=λ_ h=>h
 frk:=(hZ (F:=F) (m:=m) (o:=o) x).frk
 tup:=(hZ (F:=F) (m:=m) (o:=o) x).tup
 trk:=(hZ (F:=F) (m:=m) (o:=o) x).trk
 nf:=λ_ h=>.inl h
 nm:=λb h=>by
  rcases fO.mp h with h|h
  .exact .inl h
  .have:b=p:=by simpa using h
   subst this;exact .inr x
theorem Rel.own(r:Rel K F H m S){p:Addr}{o:HO}{c:SO}(n:H p=none)(v:RO K F (bN H p o) (m++[p]) p c):Rel K F (bN H p o) (m++[p]) (S++[c]) where
 len:=by rw[bK,bK,r.len];rfl
 nd:=by
  rw[sC];refine⟨r.nd,by simp,λa t b q e=>?_⟩;have:b=p:=by simpa using q
  subst this;subst e;exact r.fresh_m n t
 obj:=λi a u x s=>by
  by_cases k:i < m.length
  .rw [bw k]at x;rw[bw (by rw[<- r.len];exact k)]at s;exact(r.obj i a u x s).mono (dU n) λw h=>by rw[aj (by rintro rfl;rw[n]at h;cases h)];exact h
  .have l:i=m.length:=by
    have:=(aP.mp x).1;rw[bK]at this;simp at this;lia
   subst l;rw[bU (ag _)]at x;rw[r.len,bU (ag _)]at s;simp at x s;subst x;subst s;exact v
 sep:=λi a u x s w f=>by
  by_cases k:i < m.length
  .rw [bw k]at x;rw[bw (by rw[<- r.len];exact k)]at s;exact r.sep i a u x s w f
  .have l:i=m.length:=by
    have:=(aP.mp x).1;rw[bK]at this;simp at this;lia
   subst l;rw[bU (ag _)]at x;simp at x;subst x;exact r.fresh_F n f
 trk:=λa h=>by
  rcases fO.mp h with h|h
  .exact (dU (F:=F) (m:=m) n).trk a (r.trk a h)
  .have:a=p:=by simpa using h
   subst this;rw[aJ];exact λz=>nomatch z
 ft:=λa f=>(dU (F:=F) (m:=m) n).trk a (r.ft a f)
variable{i:Nat}
theorem fm(r:Rel K F H m S)(x:m[i]? = some p)(s:S[i]? = some k)(hw:k.own)(t:∀xs,H p≠some (.tup xs)):Stp F m H F m (bN H p o) where
 pre:=⟨[],by simp⟩
 oth:=λb u h a=>by rw[aj (by rintro rfl;exact a (aM x))];exact h
 frz:=λ_ h=>h
 frk:=λb u f h=>by rw[aj (by rintro rfl;exact r.sep i _ k x s hw f)];exact h
 tup:=λb xs h=>by rw[aj (by rintro rfl;exact t xs h)];exact h
 trk:=λb h=>by
  by_cases e:b=p
  .subst e;rw[aJ];exact λz=>nomatch z
  .rw [aj e];exact h
 nf:=λ_ h=>.inl h
 nm:=λ_ h=>.inl h
theorem u3(h:m.Nodup)(e:m[i]? = some a)(x:m[k]? = some a):i=k:=by exact(List.getElem?_inj (aP.mp e).1 h).mp (e.trans x.symm)
theorem Rel.set(r:Rel K F H m S){i:Nat}{p:Addr}{c b:SO}{o:HO}(s:m[i]? = some p)(k:S[i]? = some c)(hw:c.own)(t:∀xs,H p≠some (.tup xs))(q:RO K F (bN H p o) m p b) :
  Rel K F (bN H p o) m (S.set i b) where
 len:=by rw[fg];exact r.len
 nd:=r.nd
 obj:=λj a u e x=>by
  by_cases n:i=j
  .subst n;rw[s]at e;cases e;rw[cC (by exact(aP.mp k).1)]at x;cases x;exact q
  .rw [bg n]at x;exact(r.obj j a u e x).mono (fm r s k hw t) λw h=>by rw[aj (by rintro rfl;exact n (u3 r.nd s e))];exact h
 sep:=λj a u e x w f=>by
  by_cases n:i=j
  .subst n;rw[s]at e;cases e;exact r.sep i p c s k hw f
  .rw [bg n]at x;exact r.sep j a u e x w f
 trk:=λa h=>(fm (o:=o) r s k hw t).trk a (r.trk a h)
 ft:=λa f=>(fm (o:=o) r s k hw t).trk a (r.ft a f)
theorem oI(x:p ∈ m):Stp F m H (λb=>F b\/b=p) m H:=
 ⟨⟨[],by simp⟩,fun _ _ h _=>h,fun _ h=>.inl h,fun _ _ _ h=>h,fun _ _ h=>h,fun _ h=>h,fun b h=>by
  rcases h with h|h
  .exact .inl h
  .subst h;exact .inr (.inr x),λ_ h=>.inl h⟩
theorem Rel.frz(r:Rel K F H m S){i:Nat}{p:Addr}{c:SO}{v:P}(n:m[i]? = some p)(k:S[i]? = some c)(o:RP K (λb=>F b\/b=p) H v (.ref p)):Rel K (λb=>F b\/b=p) H m (S.set i (.fz v)) where
 len:=by rw[fg];exact r.len
 nd:=r.nd
 obj:=λj a u x e=>by
  by_cases s:i=j
  .subst s;rw[n]at x;cases x;rw[cC (by exact(aP.mp k).1)]at e;cases e;exact o
  .rw [bg s]at e;exact(r.obj j a u x e).mono (oI (aM n)) λw h=>h
 sep:=λj a u x e w f=>by
  by_cases s:i=j
  .subst s;rw[cC (by exact(aP.mp k).1)]at e;cases e;exact w
  .rw [bg s]at e;rcases f with f|f
   .exact r.sep j a u x e w f
   .subst f;exact s (u3 r.nd n x)
 trk:=r.trk
 ft:=λa f=>by
  rcases f with f|f
  .exact r.ft a f
  .subst f;exact r.trk _ (aM n)
end
noncomputable abbrev EE:=Lc->aL->Option (D×aL)
noncomputable abbrev uL:=Option (D×aL)
noncomputable abbrev EV:=Lc->aL->Option (P×aL)
noncomputable abbrev tyV:=Option (P×aL)
noncomputable abbrev EB:=Lc->aL->Option (Bool×aL)
noncomputable abbrev KW:=Option (Bool×aL)
noncomputable abbrev jx:=Lc->aL->Option (List P×aL)
noncomputable abbrev Aw:=Option (List P×aL)
inductive Fl where
 |nx|rt (d:D)|bk|ct
noncomputable abbrev ES:=Lc->aL->Option (Fl×Lc×aL)
noncomputable abbrev zi:=Option (Fl×Lc×aL)
variable{α:Type}{β:Type}
noncomputable def bO(x:Option (α×aL))(f:α->aL->Option β):Option β:=match x with
 |some (a,S)=>f a S
 |none=>none
@[simp] theorem aB(a:α)(S:aL)(f:α->aL->Option β):bO (some (a,S)) f=f a S:=rfl
@[simp] theorem Nc(f:α->aL->Option β):bO none f=none:=rfl
theorem af{α β:Type}{x:Option (α×aL)}{f:α->aL->Option β}{r:β}(h:bO x f=some r):∃a S,x=some (a,S)/\f a S=some r:=by
 cases x with
 |none=>cases h
 |some p=>exact⟨p.1,p.2,rfl,h⟩
def wI(f:D->aL->Option (P×aL)):List D->aL->Option (List P×aL)
 | [],S=>some ([],S)
 |d::r,S=>bO (f d S) λv h=>bO (wI f r h) λT x=>some (v::T,x)
def jk:Nat->D->aL->Option (P×aL)
 |_,.p v,S=>some (v,S)
 |0,.ref _,_=>none
 |n+1,.ref i,S=>match S[i]? with
  |some (.lst d)=>bO (wI (jk n) d S) λT h=>some (.lst T,h.set i (.fz (.lst T)))
  |some (.dct k d)=>bO (wI (jk n) d S) λT h=>some (.dct k T,h.set i (.fz (.dct k T)))
  |some (.fz v)=>some (v,S)
  |some (.ins c k d)=>bO (wI (jk n) d S) λT h=>some (.obj c k T,h.set i (.fz (.obj c k T)))
  |some (.dtt _ _)=>none
  |none=>none
@[simp] theorem LG(n:Nat)(v:P)(S:aL):jk n (.p v) S=some (v,S):=by cases n<;>rfl
theorem tM(n:Nat):∀(T:List P)(S:aL),wI (jk n) (T.map .p) S=some (T,S)
 | [],_=>rfl
 |v::r,S=>by simp[wI,tM n r S]
variable{n:Nat}{S:aL}{T:List P}
theorem fZ(h:S[i]? = some (.lst (T.map .p))):jk (n+1) (.ref i) S=some (.lst T,S.set i (.fz (.lst T))):=by simp[jk,h,tM]
section
variable{K:FG}{F:Aa}{H:Y}{m:List Addr}{S N:aL}
theorem oN 
  (n:∀{d:D}{x:V}{v:P}{F:Aa}{S N:aL},f d S=some (v,N)->Rel K F H m S->RD K F H m d x->∃F',Stp F m H F' m H/\Rel K F' H m N/\N.length=S.length/\RP K F' H v x) :
  ∀{s:List D}{xs:List V}{T:List P}{F:Aa}{S N:aL},wI f s S=some (T,N)->Rel K F H m S->cQ K F H m s xs->∃F',Stp F m H F' m H/\Rel K F' H m N/\N.length=S.length/\b7 K F' H T xs
 | [],xs,T,F,S,N,h,r,a=>by cases h;exact⟨F,.refl,r,rfl,a⟩
 |d::s,xs,T,F,S,N,h,r,a=>by obtain⟨x,z,e,p,q⟩:=a;obtain⟨v,o,c,h⟩:=af h;obtain⟨C,A,t,h⟩:=af h;cases h;obtain⟨B,k,i,l,u⟩:=n c r p;obtain⟨j,b,y,w,g⟩:=oN n t i (cQ.mono k q);exact⟨j,k.trans b,y,w.trans l,x,z,e,RP.mono b u,g⟩
theorem my:∀(n:Nat){d:D}{x:V}{v:P}{F:Aa}{S N:aL},jk n d S=some (v,N)->Rel K F H m S->RD K F H m d x->∃F',Stp F m H F' m H/\Rel K F' H m N/\N.length=S.length/\RP K F' H v x
 |n,.p w,x,v,F,S,N,h,r,G=>by rw[LG]at h;cases h;exact⟨F,.refl,r,rfl,G⟩
 |0,.ref i,x,v,F,S,N,h,r,G=>by cases h
 |n+1,.ref i,x,v,F,S,N,h,r,G=>by
  obtain⟨a,e,f⟩:=G;subst e;have t:i < S.length:=by rw[<- r.len];exact(aP.mp f).1
  obtain⟨o,R⟩:∃o,S[i]? = some o:=⟨S[i],by simp[t]⟩;have E:=r.obj i a o f R;simp only[jk,R]at h;cases o with
  |fz w=>cases h;exact⟨F,.refl,r,rfl,E⟩
  |ins c L M=>obtain⟨T,k,u,h⟩:=af h;cases h;obtain⟨C,X,p,Z,g,I,z⟩:=E;obtain⟨B,A,y,l,j⟩:=oN (λh=>my n h) u r z;obtain⟨W,s⟩:∃o,k[i]? = some o:=⟨k[i]'(by rw[l];exact t),by simp[l,t]⟩;have Q:Stp B m H (λb=>B b\/b=a) m H:=oI (aM f);have q:RP K (λb=>B b\/b=a) H (.obj c L T) (.ref a):=⟨a,C,X,p,rfl,.inr rfl,Z,g,I,b7.mono Q j⟩;exact⟨_,A.trans Q,y.frz f s q,by rw[fg];exact l,q⟩
  |dtt _ _=>cases h
  |lst M=>obtain⟨T,k,u,h⟩:=af h;cases h;obtain⟨xs,g,z⟩:=E;obtain⟨B,A,y,l,j⟩:=oN (λh=>my n h) u r z;obtain⟨W,s⟩:∃o,k[i]? = some o:=⟨k[i]'(by rw[l];exact t),by simp[l,t]⟩;have Q:Stp B m H (λb=>B b\/b=a) m H:=oI (aM f);have q:RP K (λb=>B b\/b=a) H (.lst T) (.ref a):=⟨a,xs,rfl,⟨.inr rfl,g⟩,b7.mono Q j⟩;exact⟨_,A.trans Q,y.frz f s q,by rw[fg];exact l,q⟩
  |dct L M=>obtain⟨T,k,u,h⟩:=af h;cases h;obtain⟨p,g,I,z⟩:=E;obtain⟨B,A,y,l,j⟩:=oN (λh=>my n h) u r z;obtain⟨W,s⟩:∃o,k[i]? = some o:=⟨k[i]'(by rw[l];exact t),by simp[l,t]⟩;have Q:Stp B m H (λb=>B b\/b=a) m H:=oI (aM f);have q:RP K (λb=>B b\/b=a) H (.dct L T) (.ref a):=⟨a,p,rfl,.inr rfl,g,I,b7.mono Q j⟩;exact⟨_,A.trans Q,y.frz f s q,by rw[fg];exact l,q⟩
end
structure Grow(F:Aa)(H:Y)(F':Aa)(H':Y):Prop where
 keep:∀b o,H b=some o->H' b=some o
 frz:∀b,F b->F' b
 nf:∀b,F' b->F b\/(H b=none/\H' b≠none)
section
variable{K:FG}{F F' B j:Aa}{H H' z I:Y}{m:List Addr}{S N:aL}
theorem Grow.refl:Grow F H F H:=⟨λ_ _ h=>h,λ_ h=>h,λ_ h=>.inl h⟩
theorem Grow.stp(g:Grow F H F' H'):Stp F m H F' m H' where
 pre:=⟨[],by simp⟩
 oth:=λb o h _=>g.keep b o h
 frz:=g.frz
 frk:=λb o _ h=>g.keep b o h
 tup:=λb xs h=>g.keep b _ h
 trk:=λb h=>by
  cases q:H b with
  |none=>exact absurd q h
  |some o=>rw[g.keep b o q];exact λz=>nomatch z
 nf:=λb h=>by
  rcases g.nf b h with h|⟨h,_⟩
  .exact .inl h
  .exact .inr (.inl h)
 nm:=λ_ h=>.inl h
theorem Rel.grow(r:Rel K F H m S)(g:Grow F H F' H'):Rel K F' H' m S:=
 r.stay g.stp (fun a u _ h=>g.keep a u h) (fun a f=>by
  rcases g.nf a f with f|⟨f,_⟩
  .exact .inl f
  .exact .inr f) λa f=>by
  rcases g.nf a f with f|⟨_,f⟩
  .exact (g.stp (m:=m)).trk a (r.ft a f)
  .exact f
theorem bD{p:Addr}{o:HO}(x:H p=none):Grow F H F (bN H p o):=
 ⟨λb u h=>by rw[aj (by rintro rfl;rw[x]at h;cases h)];exact h,λ_ h=>h,λ_ h=>.inl h⟩
theorem bE{p:Addr}{o:HO}(x:H p=none):Grow F H (λb=>F b\/b=p) (bN H p o):=
 ⟨fun b u h=>by rw [aj (by rintro rfl;rw [x] at h;cases h)];exact h,fun _ h=>.inl h,fun b h=>by
  rcases h with h|h
  .exact .inl h
  .subst h;exact .inr ⟨x,by rw[aJ];exact λz=>nomatch z⟩⟩
theorem RP.grow(g:Grow F H F' H')(h:RP K F H d v):RP K F' H' d v:=RP.mono (m:=[]) g.stp h
theorem b7.grow(g:Grow F H F' H')(h:b7 K F H d v):b7 K F' H' d v:=b7.mono (m:=[]) g.stp h
theorem RP.newTup(x:H p=none)(r:b7 K F H h xs):RP K F (bN H p (.tup xs)) (.tup h) (.ref p):=⟨p,xs,rfl,.inl aJ,r.grow (bD x)⟩
theorem RP.newLst(x:H p=none)(r:b7 K F H h xs):RP K (λb=>F b\/b=p) (bN H p (.lst xs)) (.lst h) (.ref p):=⟨p,xs,rfl,⟨.inr rfl,aJ⟩,r.grow (bE x)⟩
end
@[simp] def vC(v:P)(_L:Lc)(S:aL):tyV:=some (v,S)
def U(i:Nat)(L:Lc)(S:aL):uL:=match L[i]? with
 |some (some d)=>some (d,S)
 |_=>none
@[simp] def vE(f:EE)(L:Lc)(S:aL):tyV:=bO (f L S) (jk 9)
@[simp] def eV(f:EV)(L:Lc)(S:aL):uL:=bO (f L S) λv h=>some (.p v,h)
@[simp] def ce(g:P->P->Option P)(a b:EV)(L:Lc)(S:aL):tyV:=bO (a L S) λx h=>bO (b L h) λy e=>(g x y).map λv=>(v,e)
@[simp] def KU(g:P->Option P)(a:EV)(L:Lc)(S:aL):tyV:=bO (a L S) λx h=>(g x).map λv=>(v,h)
@[simp] def bV(a:EV)(L:Lc)(S:aL):KW:=bO (a L S) λx h=>match x with
 | .bl b=>some (b,h)
 |_=>none
@[simp] def p'(a b:EB)(L:Lc)(S:aL):KW:=bO (a L S) λc h=>if c=true then b L h else some (false,h)
@[simp] def HX(a b:EB)(L:Lc)(S:aL):KW:=bO (a L S) λc h=>if c=true then some (true,h) else b L h
@[simp] def EH(a:EB)(L:Lc)(S:aL):KW:=bO (a L S) λc h=>some (!c,h)
@[simp] def vB(a:EB)(L:Lc)(S:aL):tyV:=bO (a L S) λc h=>some (.bl c,h)
@[simp] def Oy(c:EB)(a b:EV)(L:Lc)(S:aL):tyV:=bO (c L S) λk h=>if k=true then a L h else b L h
@[simp] def aE(_L:Lc)(S:aL):Aw:=some ([],S)
@[simp] def ae(a:EV)(r:jx)(L:Lc)(S:aL):Aw:=bO (a L S) λx h=>bO (r L h) λxs e=>some (x::xs,e)
@[simp] def aN(g:List P->Option P)(a:jx)(L:Lc)(S:aL):tyV:=bO (a L S) λxs h=>(g xs).map λv=>(v,h)
@[simp] def m_(L:Lc)(S:aL):zi:=some (.nx,L,S)
@[simp] def aD(f g:ES)(L:Lc)(S:aL):zi:=match f L S with
 |some (.nx,h,x)=>g h x
 |r=>r
@[simp] def aS(i:Nat)(f:EE)(L:Lc)(S:aL):zi:=bO (f L S) λd h=>some (.nx,L.set i (some d),h)
@[simp] def b0(f:EE)(L:Lc)(S:aL):zi:=bO (f L S) λd h=>some (.rt d,L,h)
@[simp] def dj(f:EE)(L:Lc)(S:aL):zi:=bO (f L S) λ_ h=>some (.nx,L,h)
@[simp] def kJ(c:EB)(a b:ES)(L:Lc)(S:aL):zi:=bO (c L S) λk h=>if k=true then a L h else b L h
noncomputable def wy:ES:=λ_ _=>none
noncomputable def Qa:ES:=λL S=>some (.ct,L,S)
noncomputable abbrev jS:=P->Lc->Option Lc
noncomputable def ar(i:Nat):jS:=λv L=>some (L.set i (some (.p v)))
noncomputable def bR(g:jS)(b:ES):List P->Lc->aL->Option (Fl×Lc×aL)
 | [],L,S=>some (.nx,L,S)
 |v::r,L,S=>match g v L with
  |none=>none
  |some a=>match b a S with
   |some (.nx,L2,h)=>bR g b r L2 h
   |some (.ct,L2,h)=>bR g b r L2 h
   |some (.bk,L2,h)=>some (.nx,L2,h)
   |x=>x
@[simp] def cf(i:jx)(g:jS)(b:ES)(L:Lc)(S:aL):zi:=bO (i L S) λxs h=>bR g b xs L h
open PySem PySem.Spec PyProof.Rows L2
section
variable(K:FG)
structure RL(F:Aa)(H:Y)(m:List Addr)(J:L2.St)(L:Lc):Prop where
 len:J.length=L.length
 at':∀(i:Nat) d,L[i]? = some (some d)->∃v,J[i]? = some (some v)/\RD K F H m d v
inductive tEI(f:EE)(J:L2.St)(H:Y)(Q:VK):Prop
 |mk (F:Aa) (m:List Addr) (L:Lc) (S:aL) (d:D) (S':aL) (h0_:Rel K F H m S) (h1_:RL K F H m J L) (h2_:f L S=some (d,S')) (h3_:∀v F' m' H',Stp F m H F' m' H'->Rel K F' H' m' S'->RD K F' H' m' d v->Q v H'):tEI f J H Q
noncomputable def tE(f:EE):TE:=λJ H Q=>tEI K f J H Q
inductive tVI(f:EV)(J:L2.St)(H:Y)(Q:VK):Prop
 |mk (F:Aa) (m:List Addr) (L:Lc) (S:aL) (d:P) (S':aL) (h0_:Rel K F H m S) (h1_:RL K F H m J L) (h2_:f L S=some (d,S')) (h3_:∀v F' m' H',Stp F m H F' m' H'->Rel K F' H' m' S'->RP K F' H' d v->Q v H'):tVI f J H Q
noncomputable def tV(f:EV):TE:=λJ H Q=>tVI K f J H Q
inductive tQI(f:EB)(J:L2.St)(H:Y)(Q:Bool->Y->Prop):Prop
 |mk (F:Aa) (m:List Addr) (L:Lc) (S:aL) (b:Bool) (S':aL) (h0_:Rel K F H m S) (h1_:RL K F H m J L) (h2_:f L S=some (b,S')) (h3_:∀F' m' H',Stp F m H F' m' H'->Rel K F' H' m' S'->Q b H'):tQI f J H Q
noncomputable def tQ(f:EB):TT:=λJ H Q=>tQI K f J H Q
inductive tVsI(f:jx)(J:L2.St)(H:Y)(Q:List V->Y->Prop):Prop
 |mk (F:Aa) (m:List Addr) (L:Lc) (S:aL) (ds:List P) (S':aL) (h0_:Rel K F H m S) (h1_:RL K F H m J L) (h2_:f L S=some (ds,S')) (h3_:∀xs F' m' H',Stp F m H F' m' H'->Rel K F' H' m' S'->b7 K F' H' ds xs->Q xs H'):tVsI f J H Q
noncomputable def pj(f:jx):TA:=λJ H Q=>tVsI K f J H Q
def OL(D:Ends)(F:Aa)(m:List Addr)(J:L2.St)(H:Y):Fl->Prop
 | .nx=>D.nx J H
 | .bk=>D.bk J H
 | .ct=>D.ct J H
 | .rt d=>∀v,RD K F H m d v->D.rt v H
inductive tStI(f:ES)(D:Ends)(J:L2.St)(H:Y):Prop
 |mk (F:Aa) (m:List Addr) (L:Lc) (S:aL) (fl:Fl) (L':Lc) (S':aL) (h0_:Rel K F H m S) (h1_:RL K F H m J L) (h2_:f L S=some (fl,L',S')) (h3_:∀J' F' m' H',Stp F m H F' m' H'->Rel K F' H' m' S'->RL K F' H' m' J' L'->OL K D F' m' J' H' fl):tStI f D J H
noncomputable def k4(f:ES):TS:=λD J H=>tStI K f D J H
end
section
variable{K:FG}{F F':Aa}{H H':Y}{m m':List Addr}{J:L2.St}{L:Lc}{S:aL}
theorem RL.mono(s:Stp F m H F' m' H')(h:RL K F H m J L):RL K F' H' m' J L:=⟨h.len,λi d e=>by obtain⟨v,x,r⟩:=h.at' i d e;exact⟨v,x,RD.mono s r⟩⟩
theorem RL.set (h:RL K F H m J L) (r:RD K F H m d v) (i:Nat):RL K F H m (J.set i (some v)) (L.set i (some d)):=⟨by rw [fg,fg];exact h.len,fun j e q=>by
 by_cases x:i=j
 .subst x;by_cases a:i < L.length
  .rw [cC a]at q;cases q;exact⟨v,cC (by rw[h.len];exact a),r⟩
  .rw [cB (by rw[fg];lia)]at q;cases q
 .rw [bg x]at q;rw[bg x];exact h.at' j e q⟩
end
section
variable{X:Cx}{e:Expr}{l:Ab}{Q:Stmt}{sts:List Stmt}
theorem _root_.L2.O.imp'(h:O X e t)(i:∀J H Q,k J H Q->t J H Q):O X e k:=λp s J H Q I q=>h p s J H Q I (i J H Q q)
theorem _root_.L2.PT.imp'(h:PT X e t)(i:∀J H Q,k J H Q->t J H Q):PT X e k:=λp s J H Q I q=>h p s J H Q I (i J H Q q)
theorem _root_.L2.PW.imp'(h:PW X e t)(i:∀J H Q,k J H Q->t J H Q):PW X e k:=λw p s J H Q I q=>h w p s J H Q I (i J H Q q)
theorem _root_.L2.PA.imp'(h:PA X l t)(i:∀J H Q,k J H Q->t J H Q):PA X l k:=λM p s J H Q I q=>h M p s J H Q I (i J H Q q)
theorem _root_.L2.PS.imp'(h:PS X Q t)(i:∀D J H,k D J H->t D J H):PS X Q k:=λp s J H D I q=>h p s J H D I (i D J H q)
theorem _root_.L2.nQ.imp'(h:nQ X sts t)(i:∀D J H,k D J H->t D J H):nQ X sts k:=λp s J H D I q=>h p s J H D I (i D J H q)
end
section
variable{X:Cx}{a b c e:Expr}{l:Ab}{fa fb:EV}{fe:EE}{M:Pos}
theorem Oe(h:O X e (tE X.K fe)):O X e (tV X.K (vE fe)):=h.imp' λJ H Q z=>by obtain⟨F,m,L,S,d,N,r,l,q,k⟩:=z;obtain⟨a,x,n,f⟩:=af q;refine⟨F,m,L,S,a,x,r,l,n,λv F' m' H' s b t=>?_⟩;obtain⟨j,w,c,_,p⟩:=my 9 f b t;exact k v j m' H' (s.trans w) c p
theorem KS(h:O X e (tV X.K fa)):O X e (tE X.K (eV fa)):=h.imp' λJ H Q z=>by obtain⟨F,m,L,S,d,N,r,l,q,k⟩:=z;obtain⟨x,c,a,n⟩:=af q;cases n;exact⟨F,m,L,S,x,N,r,l,a,λv F' m' H' s f b=>k v F' m' H' s f b⟩
theorem Oc(i:Nat)(s:X.N[i]? = some x:=by rfl)(n:K' X.e.scope x:=by first|exact Or.inl rfl|exact Or.inr (Or.inl rfl)|exact Or.inr (Or.inr rfl))(hd:(x == ("__debug__":Str))=false:=by decide)
  (h:(x == ("__classdict__":Str))=false:=by decide):O X (.Name x M) (tE X.K (U i)):=(Ji s n hd h).imp' λJ H Q z=>by
 obtain⟨F,m,L,S,d,N,r,l,q,k⟩:=z;unfold U at q;split at q
 .rename_i b e;cases q;obtain⟨v,a,f⟩:=l.at' i _ e;exact⟨v,a,k v F m H .refl r f⟩
 .cases q
theorem xC(h:O X e (tC v))(r:∀F H,RP X.K F H d v):O X e (tV X.K (vC d)):=h.imp' λJ H Q z=>by obtain⟨F,m,L,S,a,N,x,l,q,k⟩:=z;cases q;exact k v F m H .refl x (r F H)
theorem Ou {i h M}:O X (.Constant (.int i) h M) (tV X.K (vC (.int i))):=xC Jn λ_ _=>rfl
theorem QI {i h M}:O X (.Constant (.bool i) h M) (tV X.K (vC (.bl i))):=xC Mj λ_ _=>rfl
theorem Ol {h M}:O X (.Constant .none h M) (tV X.K (vC .non)):=xC Jm λ_ _=>rfl
theorem Og {i h M}:O X (.Constant (.str i) h M) (tV X.K (vC (.str i))):=xC Jj λ_ _=>rfl
inductive rPI(K:FG)(g:P->P->Option P)(x:V)(y:V)(H:Y)(Q:VK):Prop
 |mk (F:Aa) (dx:P) (dy:P) (d:P) (h0_:(∀a,F a->H a≠none)) (h1_:RP K F H dx x) (h2_:RP K F H dy y) (h3_:g dx dy=some d) (h4_:∀v F' H',Grow F H F' H'->RP K F' H' d v->Q v H'):rPI K g x y H Q
noncomputable def rP(K:FG)(g:P->P->Option P):R2:=λx y H Q=>rPI K g x y H Q
def nR(X:Cx)(f:Value->Value->Sem Value)(g:P->P->Option P):Prop:=iB X f (rP X.K g)
theorem tq(h:tV X.K (ce g fa fb) J H t):IG (rP X.K g) (tV X.K fa) (tV X.K fb) J H t:=by
 obtain⟨F,m,L,S,d,N,r,l,q,k⟩:=h;obtain⟨x,s,K,q⟩:=af q;obtain⟨y,o,P,q⟩:=af q;refine⟨F,m,L,S,x,s,r,l,K,λv B A z b M D=>?_⟩;refine⟨B,A,L,s,y,o,M,l.mono b,P,λu j C I c f E=>?_⟩;cases e:g x y with
 |none=>rw[e]at q;cases q
 |some a=>rw[e]at q;cases q;refine⟨j,x,y,_,f.ft,RP.mono c D,E,e,λw p i n G=>?_⟩;exact k w p C i (b.trans (c.trans n.stp)) (f.grow n) G
theorem QF(o:nR X (binaryOp k) g)(x:O X a (tV X.K fa))(e:O X b (tV X.K fb)):O X (.BinOp a k b M) (tV X.K (ce g fa fb)):=
 (Mi o x e).imp' λ_ _ _ h=>tq h
theorem Ow(o:nR X (compareOp k) g)(x:O X a (tV X.K fa))(e:O X b (tV X.K fb))(m:behindInMarks k b=false):O X (.Compare a [k] [b] M) (tV X.K (ce g fa fb)):=
 (zx o x e m).imp' λ_ _ _ h=>tq h
theorem Cg(h:tQ X.K (bV (ce g fa fb)) J H t):Ch (IG (rP X.K g) (tV X.K fa) (tV X.K fb)) J H t:=by
 refine tq ?_;obtain⟨F,m,L,S,d,N,r,l,q,k⟩:=h;obtain⟨x,n,e,q⟩:=af q;cases x with
 |bl b=>cases q;exact⟨F,m,L,S,_,_,r,l,e,λv F' m' H' s a p=>⟨_,p,k F' m' H' s a⟩⟩
 |_=>cases q
theorem Oa(o:nR X (compareOp k) g)(x:O X a (tV X.K fa))(e:O X b (tV X.K fb))(m:behindInMarks k b=false):PT X (.Compare a [k] [b] M) (tQ X.K (bV (ce g fa fb))):=
 (zu o x e m).imp' λ_ _ _ h=>Cg h
variable{qa qb:EB}{u:Ab}
theorem Lm(h:PT X a (tQ X.K qa)):PW X (.BoolOp .And [a] M) (tQ X.K qa):=Gk h
theorem N9(h:PT X a (tQ X.K qa)):PW X (.BoolOp .Or [a] M) (tQ X.K qa):=IY h
theorem Ob(n:PT X a (tQ X.K qa))(f:PW X (.BoolOp .And (b::u) M) (tQ X.K qb)):PW X (.BoolOp .And (a::b::u) M) (tQ X.K (p' qa qb)):=
 (IZ n f).imp' λJ H Q z=>by
  obtain⟨F,m,L,S,d,N,r,l,q,k⟩:=z;obtain⟨c,h,e,q⟩:=af q;refine⟨F,m,L,S,c,h,r,l,e,λF' m' H' s x=>?_⟩;cases c with
  |true=>rw[ai rfl]at q ⊢;exact⟨F',m',L,h,d,N,x,l.mono s,q,λj t I v p=>k j t I (s.trans v) p⟩
  |false=>rw[al a8]at q ⊢;cases q;exact k F' m' H' s x
theorem QD(n:PT X a (tQ X.K qa))(f:PW X (.BoolOp .Or (b::u) M) (tQ X.K qb)):PW X (.BoolOp .Or (a::b::u) M) (tQ X.K (HX qa qb)):=
 (Md n f).imp' λJ H Q z=>by
  obtain⟨F,m,L,S,d,N,r,l,q,k⟩:=z;obtain⟨c,h,e,q⟩:=af q;refine⟨F,m,L,S,c,h,r,l,e,λF' m' H' s x=>?_⟩;cases c with
  |false=>rw[al a8]at q ⊢;exact⟨F',m',L,h,d,N,x,l.mono s,q,λj t I v p=>k j t I (s.trans v) p⟩
  |true=>rw[ai rfl]at q ⊢;cases q;exact k F' m' H' s x
theorem N_(h:PT X a (tQ X.K qa)):PT X (.UnaryOp .Not a M) (tQ X.K (EH qa)):=
 (I_ h).imp' λJ H Q z=>by obtain⟨F,m,L,S,d,N,r,l,q,k⟩:=z;obtain⟨c,n,e,q⟩:=af q;cases q;exact⟨F,m,L,S,c,N,r,l,e,λF' m' H' s x=>k F' m' H' s x⟩
theorem Ly {k} (h:O X a (tV X.K (vB qa))):O X (.BoolOp k [a] M) (tV X.K (vB qa)):=Jk h
theorem uJ(h:tQ X.K qa J H k)(x:∀b H',k b H'->t (.bl b) H'):tV X.K (vB qa) J H t:=by obtain⟨F,m,L,S,d,N,r,l,q,a⟩:=h;exact⟨F,m,L,S,.bl d,N,r,l,by unfold vB;rw[q];rfl,λv F' m' H' s e p=>by rw[show v=.bl d from p];exact x _ _ (a F' m' H' s e)⟩
theorem zC(h:tV X.K (vB qa) J H k):tQ X.K qa J H λb H'=>k (.bl b) H':=by obtain⟨F,m,L,S,d,N,r,l,q,x⟩:=h;obtain⟨c,n,e,q⟩:=af q;cases q;exact⟨F,m,L,S,c,N,r,l,e,λF' m' H' s a=>x _ F' m' H' s a rfl⟩
theorem Ox(f:O X a (tV X.K (vB qa)))(t:O X (.BoolOp .And (b::u) M) (tV X.K (vB qb))):O X (.BoolOp .And (a::b::u) M) (tV X.K (vB (p' qa qb))):=
 (Jq f t).imp' λJ H Q h=>by
  obtain⟨F,m,L,S,d,N,r,l,q,k⟩:=zC h;obtain⟨c,x,n,q⟩:=af q;refine uJ (k:=λc z=>if c=true then tV X.K (vB qb) J z Q else Q (.bl false) z) ⟨F,m,L,S,c,x,r,l,n,λF' m' H' s e=>?_⟩ λb H' q=>⟨b,rfl,q⟩;cases c with
  |true=>rw[ai rfl]at q ⊢;exact uJ (k:=λb I=>Q (.bl b) I) ⟨F',m',L,x,d,N,e,l.mono s,q,λj p I w v=>k j p I (s.trans w) v⟩ λ_ _ q=>q
  |false=>rw[al a8]at q ⊢;cases q;exact k F' m' H' s e
theorem QE(f:O X a (tV X.K (vB qa)))(t:O X (.BoolOp .Or (b::u) M) (tV X.K (vB qb))):O X (.BoolOp .Or (a::b::u) M) (tV X.K (vB (HX qa qb))):=
 (Mh f t).imp' λJ H Q h=>by
  obtain⟨F,m,L,S,d,N,r,l,q,k⟩:=zC h;obtain⟨c,x,n,q⟩:=af q;refine uJ (k:=λc z=>if c=true then Q (.bl true) z else tV X.K (vB qb) J z Q) ⟨F,m,L,S,c,x,r,l,n,λF' m' H' s e=>?_⟩ λb H' q=>⟨b,rfl,q⟩;cases c with
  |false=>rw[al a8]at q ⊢;exact uJ (k:=λb I=>Q (.bl b) I) ⟨F',m',L,x,d,N,e,l.mono s,q,λj p I w v=>k j p I (s.trans w) v⟩ λ_ _ q=>q
  |true=>rw[ai rfl]at q ⊢;cases q;exact k F' m' H' s e
theorem Oj(x:O X a (tV X.K (vB qa))):O X (.UnaryOp .Not a M) (tV X.K (vB (EH qa))):=
 (Jl x).imp' λJ H Q h=>by obtain⟨F,m,L,S,d,N,r,l,q,k⟩:=zC h;obtain⟨c,f,e,q⟩:=af q;cases q;exact uJ (k:=λb H'=>Q (.bl (!b)) H') ⟨F,m,L,S,c,N,r,l,e,λF' m' H' s n=>k F' m' H' s n⟩ λb H' q=>⟨b,rfl,q⟩
theorem y_(h:O X e (tV X.K fa)):O X e (tV X.K (vB (bV fa))):=h.imp' λJ H Q h=>by
 obtain⟨F,m,L,S,d,N,r,l,q,k⟩:=zC h;obtain⟨x,f,a,q⟩:=af q;cases x with
 |bl b=>cases q;exact⟨F,m,L,S,_,_,r,l,a,λv F' m' H' s n p=>by cases (show v=.bl d from p);exact k F' m' H' s n⟩
 |_=>cases q
theorem QH(u:PT X c (tQ X.K qa))(p:O X a (tV X.K fa))(w:O X b (tV X.K fb)):O X (.IfExp c a b M) (tV X.K (Oy qa fa fb)):=
 (C2 u p w).imp' λJ H Q z=>by
  obtain⟨F,m,L,S,d,N,r,l,q,k⟩:=z;obtain⟨c,h,t,q⟩:=af q;refine⟨F,m,L,S,c,h,r,l,t,λF' m' H' s f=>?_⟩;cases c with
  |true=>rw[ai rfl]at q ⊢;exact⟨F',m',L,h,d,N,f,l.mono s,q,λv j x I n e=>k v j x I (s.trans n) e⟩
  |false=>rw[al a8]at q ⊢;exact⟨F',m',L,h,d,N,f,l.mono s,q,λv j x I n e=>k v j x I (s.trans n) e⟩
variable{fs:jx}
theorem Hl:PA X [] (pj X.K aE):=fH.imp' λJ H Q h=>by obtain⟨F,m,L,S,d,N,r,l,q,k⟩:=h;cases q;exact k [] F m H .refl r rfl
theorem EM(c:O X e (tV X.K fa))(t:PA X l (pj X.K fs))(p:starEach (e::l) X.e=(false,eval e X.e)::starEach l X.e:=by rfl):PA X (e::l) (pj X.K (ae fa fs)):=
 (dI c t p).imp' λJ H Q w=>by obtain⟨F,m,L,S,d,N,r,h,q,k⟩:=w;obtain⟨x,a,f,q⟩:=af q;obtain⟨xs,P,b,q⟩:=af q;cases q;refine⟨F,m,L,S,x,a,r,h,f,λv B u z s o i=>?_⟩;refine⟨B,u,L,a,xs,N,o,h.mono s,b,λT j g I n K y=>?_⟩;exact k (v::T) j g I (s.trans n) K ⟨v,T,rfl,RP.mono n i,y⟩
noncomputable def few(xs:List α):Bool:=decide (xs.length≤1000000)
theorem jL{α:Type}{xs:List α}(h:few xs=true):xs.length≤sizeLine:=bh (bu h) (by decide)
@[simp] def bf(a:jx)(L:Lc)(S:aL):tyV:=bO (a L S) λxs h=>if few xs=true then some (.tup xs,h) else none
@[simp] def bQ(a:jx)(L:Lc)(S:aL):tyV:=bO (a L S) λxs h=>if few xs=true then some (.lst xs,h) else none
@[simp] def ee(a:jx)(L:Lc)(S:aL):uL:=bO (a L S) λxs h=>if few xs=true then some (.ref h.length,h++[.lst (xs.map .p)]) else none
theorem Of {C} (h:PA X l (pj X.K fs)):O X (.Tuple l C M) (tV X.K (bf fs)):=(tH h).imp' λJ H Q n=>by
 obtain⟨F,m,L,S,d,N,r,x,q,k⟩:=n;obtain⟨xs,v,s,q⟩:=af q;split at q
 .rename_i f;cases q;refine⟨F,m,L,S,xs,N,r,x,s,λT B b z t c e=>⟨by rw[<- e.length];exact jL f,λp a=>?_⟩⟩;exact k (.ref p) B b _ (t.trans (bD a).stp) (c.grow (bD a)) (.newTup a e)
 .cases q
theorem Oo(h:PA X l (pj X.K fs)):O X (.List l M) (tV X.K (bQ fs)):=(wF h).imp' λJ H Q n=>by
 obtain⟨F,m,L,S,d,N,r,x,q,k⟩:=n;obtain⟨xs,v,s,q⟩:=af q;split at q
 .rename_i f;cases q;refine⟨F,m,L,S,xs,N,r,x,s,λT B b z t c e=>⟨by rw[<- e.length];exact jL f,λp a=>?_⟩⟩;exact k (.ref p) _ b _ (t.trans (bE a).stp) (c.grow (bE a)) (.newLst a e)
 .cases q
theorem Hr(h:PA X l (pj X.K fs)):O X (.List l M) (tE X.K (ee fs)):=(wF h).imp' λJ H Q v=>by
 obtain⟨F,m,L,S,d,N,r,x,q,k⟩:=v;obtain⟨xs,b,c,q⟩:=af q;split at q
 .rename_i t;cases q;refine⟨F,m,L,S,xs,b,r,x,c,λT B a z w n s=>⟨by rw[<- s.length];exact jL t,λp e=>?_⟩⟩;have f:Stp B a z B (a++[p]) (bN z p (.lst T)):=dU e;refine k (.ref p) B (a++[p]) _ (w.trans f) (n.own e ⟨T,aJ,cQ.ofP (b7.mono f s)⟩) ⟨p,rfl,?_⟩;rw[<- n.len,bU (ag _)];simp
 .cases q
def rC(K:FG)(g:List P->Option P):List V->Y->VK->Prop:=λxs H Q=>∃F s d,(∀a,F a->H a≠none)/\b7 K F H s xs/\g s=some d/\∀v F' H',Grow F H F' H'->RP K F' H' d v->Q v H'
theorem wq(h:tV X.K (aN g fs) J H t):pj X.K fs J H λT z=>rC X.K g T z t:=by
 obtain⟨F,m,L,S,d,N,r,l,q,k⟩:=h;obtain⟨xs,w,n,q⟩:=af q;cases e:g xs with
 |none=>rw[e]at q;cases q
 |some x=>rw[e]at q;cases q;exact⟨F,m,L,S,xs,_,r,l,n,λT B f z c s b=>⟨B,xs,_,s.ft,b,e,λv j I a p=>k v j f I (c.trans a.stp) (s.grow a) p⟩⟩
theorem B6{x:Str}{p:Pos}{id:String}{g:List P->Option P}(c:dL X (.builtin id) (rC X.K g))(k:Gl X x)(m:X.g x=none)(v:bootBuiltins x=some (.builtin id))(s:PA X (e::l) (pj X.K fs))(f:x≠"__name__":=by decide)(d:(x == ("__debug__":Str))=false:=by decide)
  (n:starEach (e::l) X.e=(false,eval e X.e)::starEach l X.e:=by rfl) (a:(backTo M (starEach l X.e)).any (·.1)=false:=by rfl):O X (.Call (.Name x p) (e::l) [] M) (tV X.K (aN g fs)):=
 (lH c k m v s f d n a).imp' λ_ _ _ h=>wq h
theorem wd(c:dL X (.type k) (rC X.K g))(f:Gl X x)(m:X.g x=none)(v:bootBuiltins x=some (.type k))(s:PA X (e::l) (pj X.K fs))(b:x≠"__name__":=by decide)(d:(x == ("__debug__":Str))=false:=by decide)
  (n:starEach (e::l) X.e=(false,eval e X.e)::starEach l X.e:=by rfl) (a:(backTo M (starEach l X.e)).any (·.1)=false:=by rfl):O X (.Call (.Name x p) (e::l) [] M) (tV X.K (aN g fs)):=
 (iF c f m v s b d n a).imp' λ_ _ _ h=>wq h
noncomputable def Nv(K:FG)(g:List P->Option P):Sp:=λT H Q _=>rC K g T H Q
theorem Lx(G:FnOk X.p X.w X.K X.g X.b qh k f t C (Nv X.K g))(y:Room k X.A)(u:Gl X x)(j:X.g x=some (.ref f))(i:em X.K (.ref f)=true)(v:Binds X.K t C [])
  (c:PA X (e::l) (pj X.K fs)) (d:(x == ("__debug__":Str))=false:=by decide) (w:starEach (e::l) X.e=(false,eval e X.e)::starEach l X.e:=by rfl) (n:(backTo M (starEach l X.e)).any (·.1)=false:=by rfl) :
  O X (.Call (.Name x p) (e::l) [] M) (tV X.K (aN g fs)):=
 (tJ G y u j i v .nil pD c d w n).imp' λJ H Q h=>by obtain⟨F,m,L,S,b,N,r,a,q,k⟩:=wq h;exact⟨F,m,L,S,b,N,r,a,q,λxs F' m' H' s z p=>by show Nv X.K g (xs++[]) H' Q E0;rw[dR];exact k xs F' m' H' s z p⟩
end
section
variable{X:Cx}{a b e:Expr}{Q:Stmt}{u bs cs:List Stmt}{f g:ES}{fe:EE}{qa:EB}{M:Pos}
theorem N7:nQ X [] (k4 X.K m_):=Gn.imp' λD J H h=>by obtain⟨F,m,L,S,f,x,N,r,l,q,k⟩:=h;cases q;exact k J F m H .refl r l
theorem Lj(o:PS X Q (k4 X.K f))(K:nQ X u (k4 X.K g)):nQ X (Q::u) (k4 X.K (aD f g)):=(CS o K).imp' λD J H P=>by
 obtain⟨F,m,L,S,w,v,N,r,l,q,k⟩:=P;cases e:f L S with
 |none=>rw[show aD f g L S=none by unfold aD;rw[e]]at q;cases q
 |some x=>
  obtain⟨i,t,p⟩:=x;cases i with
  |nx=>
   have s:g t p=some (w,v,N):=by have:=q;unfold aD at this;rw[e]at this;exact this
   exact⟨F,m,L,S,.nx,t,p,r,l,e,λc B a z b n h=>⟨B,a,t,p,w,v,N,n,h,s,λy j C I G E A=>k y j C I (b.trans G) E A⟩⟩
  |rt d=>
   have s:some (Fl.rt d,t,p)=some (w,v,N):=by have:=q;unfold aD at this;rw[e]at this;exact this
   cases s;exact⟨F,m,L,S,_,_,_,r,l,e,λc B a z b n h=>k c B a z b n h⟩
  |bk=>
   have s:some (Fl.bk,t,p)=some (w,v,N):=by have:=q;unfold aD at this;rw[e]at this;exact this
   cases s;exact⟨F,m,L,S,_,_,_,r,l,e,λc B a z b n h=>k c B a z b n h⟩
  |ct=>
   have s:some (Fl.ct,t,p)=some (w,v,N):=by have:=q;unfold aD at this;rw[e]at this;exact this
   cases s;exact⟨F,m,L,S,_,_,_,r,l,e,λc B a z b n h=>k c B a z b n h⟩
theorem N6(h:PS X Q (k4 X.K f)):nQ X [Q] (k4 X.K f):=Gm h
theorem Ib(h:O X e (tE X.K fe)):PS X (.Return (some e) M) (k4 X.K (b0 fe)):=(Jb h).imp' λD J H z=>by obtain⟨F,m,L,S,b,n,N,r,l,q,k⟩:=z;obtain⟨d,f,x,q⟩:=af q;cases q;exact⟨F,m,L,S,d,N,r,l,x,λv F' m' H' s a p=>k J F' m' H' s a (l.mono s) v p⟩
theorem Li(h:O X e (tE X.K fe))(a:swapsWith e none M.line X.e=pure false:=by rfl):PS X (.Expr e M) (k4 X.K (dj fe)):=(Go h a).imp' λD J H z=>by obtain⟨F,m,L,S,c,f,N,r,l,q,k⟩:=z;obtain⟨d,b,x,q⟩:=af q;cases q;exact⟨F,m,L,S,d,N,r,l,x,λv F' m' H' s n p=>k J F' m' H' s n (l.mono s)⟩
theorem As(i:Nat)(n:X.N.Nodup)(h:O X e (tE X.K fe))(b:X.N[i]? = some x:=by rfl)(w:Loc X.e.scope x:=by first|exact Or.inl rfl|exact Or.inr rfl)(c:swapsWith e (some (.Name x t)) M.line X.e=pure false:=by rfl)
  (f:X.fn x=true\/X.e.scope.names.lookup x=some .local:=by first|exact .inl rfl|exact .inr rfl|assumption):PS X (.Assign [.Name x t] e M) (k4 X.K (aS i fe)):=
 (Ja n b w h c f).imp' λD J H z=>by obtain⟨F,m,L,S,y,g,N,r,l,q,k⟩:=z;obtain⟨d,j,a,q⟩:=af q;cases q;exact⟨F,m,L,S,d,N,r,l,a,λv F' m' H' s u p=>k (J.set i (some v)) F' m' H' s u ((l.mono s).set p i)⟩
theorem QB(i:PT X c (tQ X.K qa))(w:nQ X bs (k4 X.K f))(u:nQ X cs (k4 X.K g)):PS X (.If c bs cs M) (k4 X.K (kJ qa f g)):=(Me i w u).imp' λD J H z=>by
 obtain⟨F,m,L,S,p,t,N,r,l,q,k⟩:=z;obtain⟨c,x,d,q⟩:=af q;refine⟨F,m,L,S,c,x,r,l,d,λF' m' H' s v=>?_⟩;cases c with
 |true=>rw[ai rfl]at q ⊢;exact⟨F',m',L,x,p,t,N,v,l.mono s,q,λh j e I b n a=>k h j e I (s.trans b) n a⟩
 |false=>rw[al a8]at q ⊢;exact⟨F',m',L,x,p,t,N,v,l.mono s,q,λh j e I b n a=>k h j e I (s.trans b) n a⟩
theorem Ic:PS X Q (k4 X.K wy):=CT.imp' λD J H h=>by obtain⟨F,m,L,S,f,x,N,r,l,q,k⟩:=h;cases q
theorem QC:PS X (.Continue M) (k4 X.K Qa):=uV.imp' λD J H h=>by obtain⟨F,m,L,S,f,x,N,r,l,q,k⟩:=h;cases q;exact k J F m H .refl r l
inductive gTI(K:FG)(g:jS)(x:V)(J:L2.St)(H:Y)(Q:L2.St->Y->Prop):Prop
 |mk (F:Aa) (m:List Addr) (L:Lc) (v:P) (L':Lc) (h0_:RL K F H m J L) (h1_:RP K F H v x) (h2_:g v L=some L') (h3_:∀J',RL K F H m J' L'->Q J' H):gTI K g x J H Q
noncomputable def gT(K:FG)(g:jS):TG:=λx J H Q=>gTI K g x J H Q
theorem _root_.L2.PG.imp'(h:PG X C t)(i:∀v J H Q,k v J H Q->t v J H Q):PG X C k:=λp s J H v u Q I r q=>h p s J H v u Q I r (i v J H Q q)
theorem Kf(i:Nat)(h:X.N.Nodup)(a:X.N[i]? = some x:=by rfl)(e:Loc X.e.scope x:=by first|exact Or.inl rfl|exact Or.inr rfl)(f:X.fn x=true\/X.e.scope.names.lookup x=some .local:=by first|exact .inl rfl|exact .inr rfl|assumption) :
  PG X (.Name x M) (gT X.K (ar i)):=(Gx h a e f).imp' λv J H Q z=>by
 obtain⟨F,m,L,d,s,l,p,q,k⟩:=z;cases q;exact k _ (l.set (d:=.p d) p i)
def H_(K:FG)(a:It)(T:List P)(F:Aa)(m:List Addr)(H:Y):Prop:=∀j s I,Stp F m H j s I ->
 (∀(i:Nat) v,T[i]? = some v->a.go i I/\∀x h,a.yld i I x h->∃e,Grow j I e h/\RP K e h v x)/\a.stop T.length I
inductive tII(K:FG)(f:jx)(J:L2.St)(H:Y)(R:It->Y->Prop):Prop
 |mk (F:Aa) (m:List Addr) (L:Lc) (S:aL) (vs:List P) (S':aL) (h0_:Rel K F H m S) (h1_:RL K F H m J L) (h2_:f L S=some (vs,S')) (h3_:∀J9 F' m' H',Stp F m H F' m' H'->Rel K F' H' m' S'->H_ K J9 vs F' m' H'->R J9 H'):tII K f J H R
noncomputable def tI(K:FG)(f:jx):TI:=λJ H R=>tII K f J H R
theorem N8{tg iter:Expr}{fi:jx}{g:jS}{b:List Stmt}{fb:ES}(hp:PassesOwn (model X.p X.w) X.A X.e X.xe)(hc:X.c=true)(hi:PI X tg iter (tI X.K fi))(hg:PG X tg (gT X.K g))(hb:nQ X b (k4 X.K fb))
  (hs:∀x,foldedSetIterable iter X.e x=pure x:=by intro _;rfl):PS X (.For tg iter b [] M) (k4 X.K (cf fi g fb)):=
 (Jc hp hc hi hg hb hs).imp' λD J H hz=>by
  obtain⟨F,m,L,S,fl,L',N,r,l,q,k⟩:=hz;obtain⟨T,S1,e1,q⟩:=af q;refine⟨F,m,L,S,T,S1,r,l,e1,fun J9 B u z A r1 it=>?_⟩;refine⟨fun i n Q I=>n=T.length-i/\i≤T.length/\∃j s L2 f,Stp B u z j s I/\Rel X.K j I s f/\RL X.K j I s Q L2/\bR g fb (T.drop i) L2 f=some (fl,L',N),
   ⟨T.length,rfl,b9 _,B,u,L,S1,.refl,r1,l.mono A,by rw[sj];exact q⟩,?_⟩
  rintro i n Q I ⟨rfl,hi,j,s,L2,f,s2,r2,l2,a⟩;obtain⟨go,o⟩:=it j s I s2;by_cases t:i < T.length
  .right;have hv:T[i]? = some T[i]:=by simp[t]
   rw[yJ t]at a;obtain⟨hgo,hy⟩:=go i _ hv;refine⟨hgo,λJ3 c=>∃n',n' < T.length-i/\(n'=T.length-(i+1)/\i+1≤T.length/\∃j s L2 f,Stp B u z j s c/\Rel X.K j c s f/\RL X.K j c s J3 L2/\bR g fb (T.drop (i+1)) L2 f=some (fl,L',N)),λ_ _ h=>h,λx c y=>?_⟩;obtain⟨G,gr,p3⟩:=hy x c y;unfold bR at a;cases eg:g T[i] L2 with
   |none=>rw[eg]at a;cases a
   |some R=>
    rw[eg]at a;dsimp only at a;refine⟨G,s,L2,T[i],R,l2.mono gr.stp,p3,eg,λJ3 l3=>?_⟩;have C:Stp B u z G s c:=s2.trans gr.stp;have r3:=r2.grow gr;cases Z:fb R f with
    |none=>rw[Z]at a;cases a
    |some h=>
     obtain⟨p,V,W⟩:=h;rw[Z]at a;refine⟨G,s,R,f,p,V,W,r3,l3,Z,λJ4 v K H4 E P w=>?_⟩;cases p with
     |nx=>exact⟨T.length-(i+1),by lia,rfl,t,v,K,V,W,C.trans E,P,w,a⟩
     |ct=>exact⟨T.length-(i+1),by lia,rfl,t,v,K,V,W,C.trans E,P,w,a⟩
     |bk=>cases a;exact k J4 v K H4 (A.trans (C.trans E)) P w
     |rt d=>cases a;exact k J4 v K H4 (A.trans (C.trans E)) P w
  .left;have e:i=T.length:=by lia
   subst e;rw[sm]at a;cases a;exact⟨o,k Q j s I (A.trans s2) r2 l2⟩
end
theorem Stp.toGrow(s:Stp F [] H F' m' H')(f:∀a,F' a->H' a≠none):Grow F H F' H':=
 ⟨fun b o h=>s.oth b o h (by simp),s.frz,fun b h=>by
  rcases s.nf b h with q|q|q
  .exact .inl q
  .exact .inr ⟨q,f b h⟩
  .simp at q⟩
theorem kl{α:Prop}{β:Type}{d:β}(h:(none:Option β)=some d):α:=nomatch h
noncomputable def g6(n:Nat):Bool:=decide (n≤1000000)
theorem ip(h:g6 n=true):n≤sizeLine:=bh (bu h) (by decide)
section
variable{X:Cx}
def p0:P->P->Option P
 | .int i,.int j=>some (.int (i+j))
 | .str x,.str y=>if g6 (x.length+y.length)=true then some (.str (x++y)) else none
 | .tup xs,.tup s=>if (!xs.isEmpty && g6 (xs.length+s.length))=true then some (.tup (xs++s)) else none
 | .lst xs,.lst s=>if g6 (xs.length+s.length)=true then some (.lst (xs++s)) else none
 |_,_=>none
theorem MD:nR X (binaryOp .Add) p0:=by
 intro n s J H x y v u Q I o S h;obtain⟨F,E,t,d,L,w,g,q,k⟩:=h;cases E with
 |int i=>
  cases t with
  |int j=>cases q;cases (show x=.int i from w);cases (show y=.int j from g);exact Jx n s J H _ _ v u Q I o S ⟨i,j,rfl,rfl,k _ F H .refl rfl⟩
  |_=>exact kl q
 |str i=>
  cases t with
  |str j=>
   simp only[p0]at q;split at q
   .rename_i c;cases q;cases (show x=.str i from w);cases (show y=.str j from g);exact wG n s J H _ _ v u Q I o S ⟨i,j,rfl,rfl,ip c,k _ F H .refl rfl⟩
   .cases q
  |_=>exact kl q
 |tup B=>
  cases t with
  |tup l=>
   simp only[p0]at q;split at q
   .rename_i c;rw[av]at c;cases q;obtain⟨a,xs,rfl,K,r⟩:=w;obtain⟨b,A,rfl,P,m⟩:=g;have C:=r.length;have D:=m.length;have G:xs≠[]:=λz=>by
     subst z;have:B=[]:=hV C;subst this;simp at c
    refine GD n s J H _ _ v u Q I o S ⟨a,b,xs,A,rfl,rfl,K.sq,P.sq,G,by rw[<- C,<- D];exact ip c.2,λz=>?_,λ_ p f=>?_⟩
    .subst z;have e:l=[]:=hV D;subst e;refine k _ F H .refl ?_;rw[dR];exact⟨a,xs,rfl,K,r⟩
    .exact k _ F _ (bD f) (.newTup f (r.append m))
   .cases q
  |_=>exact kl q
 |lst B=>
  cases t with
  |lst l=>
   simp only[p0]at q;split at q
   .rename_i c;cases q;obtain⟨a,xs,rfl,K,r⟩:=w;obtain⟨b,A,rfl,P,m⟩:=g;exact Jw n s J H _ _ v u Q I o S ⟨a,b,xs,A,rfl,rfl,K.2,P.2,by rw[<- r.length,<- m.length];exact ip c,λp f=>k _ _ _ (bE f) (.newLst f (r.append m))⟩
   .cases q
  |_=>exact kl q
 |_=>exact kl q
noncomputable def EY(c:Int->Int->Bool)(g:Int->Int->P):P->P->Option P
 | .int i,.int j=>if c i j=true then some (g i j) else none
 |_,_=>none
@[simp] theorem G7(c:Int->Int->Bool)(g:Int->Int->P)(i j:Int):EY c g (.int i) (.int j)=if c i j=true then some (g i j) else none:=rfl
theorem uY{f:Value->Value->Sem Value}{C:Int->Int->Prop}{a:Int->Int->V}{c:Int->Int->Bool}{g:Int->Int->P}(o:iB X f (rI C a))(b:∀i j,c i j=true->C i j)(m:∀K F H i j,RP K F H (g i j) (a i j)):nR X f (EY c g):=by
 intro p s J H x y v u Q I l z h;obtain⟨F,e,n,d,S,t,w,q,k⟩:=h;cases e with
 |int i=>
  cases n with
  |int j=>
   rw[G7]at q;split at q
   .rename_i r;cases q;cases (show x=.int i from t);cases (show y=.int j from w);exact o p s J H _ _ v u Q I l z ⟨i,j,rfl,rfl,b i j r,k _ F H .refl (m _ _ _ _ _)⟩
   .cases q
  |_=>exact kl q
 |_=>exact kl q
theorem pB(h:iB X f (Gg k)):iB X f (rI (λ_ _=>True) k):=λp s J H x y v u Q I r n ⟨i,j,e,a,_,q⟩=>h p s J H x y v u Q I r n ⟨i,j,e,a,q⟩
noncomputable abbrev B0:Int->Int->Bool:=λ_ _=>true
abbrev Km:=EY B0 λi j=>.int (i-j)
theorem Mq:nR X (binaryOp .Sub) Km:=uY (pB Jr) (λ_ _ _=>trivial) λ_ _ _ _ _=>rfl
noncomputable abbrev Jf:Int->Int->Bool:=λ_ j=>decide (0 < j) && decide (j < 1152921504606846976)
theorem Dd:iB X (binaryOp .FloorDiv) (rI (λ_ j=>0 < j/\j < 1152921504606846976) λi j=>.int (i / j)):=NA λi j _ _ _ _ _ h q=>by have a:(0:Int) < j:=h.1;have e:j < 1152921504606846976:=h.2;have x:j.natAbs.log2 < 9000:=bM ((yQ (by lia)).mpr (show j.natAbs < 2 ^ 60 by lia)) (by decide);exact floordiv_int (by lia) (by rw[Int.fdiv_eq_ediv_of_nonneg i (by lia)];exact q) (.inl (PyProof.noPylong_of_log2 x))
abbrev w_:=EY Jf λi j=>.int (i / j)
theorem GG:nR X (binaryOp .FloorDiv) w_:=uY Dd (λi j h=>by rw[av]at h;exact⟨bu h.1,bu h.2⟩) λ_ _ _ _ _=>rfl
abbrev Kr:=EY (λ_ j=>decide (0 < j)) λi j=>.int (i % j)
theorem Mv:nR X (binaryOp .Mod) Kr:=uY Ju (λi j h=>bu h) λ_ _ _ _ _=>rfl
abbrev Ko:=EY (λi j=>decide (0≤j) && decide (j≤1000000) && decide (i.natAbs < 2 ^ 64)) λi j=>.int (i ^ j.toNat)
theorem Mr:nR X (binaryOp .Pow) Ko:=uY Jt (λi j h=>by simp only[av]at h;exact⟨bu h.1.1,bu h.1.2,bu h.2⟩) λ_ _ _ _ _=>rfl
abbrev PJ:=EY B0 λi j=>.bl (decide (i < j))
theorem Pb:nR X (compareOp .Lt) PJ:=uY (pB Mm) (λ_ _ _=>trivial) λ_ _ _ _ _=>rfl
abbrev Qq:=EY B0 λi j=>.bl (decide (i≤j))
theorem Pc:nR X (compareOp .LtE) Qq:=uY (pB Mn) (λ_ _ _=>trivial) λ_ _ _ _ _=>rfl
abbrev PL:=EY B0 λi j=>.bl (decide (j < i))
theorem Pd:nR X (compareOp .Gt) PL:=uY (pB Mo) (λ_ _ _=>trivial) λ_ _ _ _ _=>rfl
abbrev PM:=EY B0 λi j=>.bl (decide (j≤i))
theorem Pe:nR X (compareOp .GtE) PM:=uY (pB Mp) (λ_ _ _=>trivial) λ_ _ _ _ _=>rfl
noncomputable def gf(i j:Int):Bool:=decide (i.natAbs.log2+j.natAbs.log2 < 100000000)
theorem Dn{i j:Int}(h:gf i j=true):IntMulOk i j:=by
 have a:i.natAbs.log2+j.natAbs.log2 < 100000000:=bu h;have b:∀x:Int,Builtin.Int.intBits x≤x.natAbs.log2+1:=λx=>by
  unfold Builtin.Int.intBits;split
  .exact b9 _
  .exact ag _
 exact IntMulOk.of_le (b i) (b j) (by lia)
theorem GC:iB X (binaryOp .Mult) (rI (λi j=>IntMulOk i j) λi j=>.int (i * j)):=NA λ_ _ _ _ _ _ _ h q=>mul_int q h
noncomputable def dO(x:Str)(n:Nat):Str:=⟨(List.replicate n x.cps).foldl (·++·) #[]⟩
theorem wu(x:Str):dO x 1=x:=by unfold dO;cases x;simp
theorem A2(n:Nat):(List.replicate n (#[]:Array Nat)).foldl (·++·) #[]=#[]:=by
 induction n with
 |zero=>rfl
 |succ n i=>rw[cA,ff];simpa using i
theorem tw(x:Str)(n:Nat)(h:x.length=0):dO x n=x:=by have e:x.cps=#[]:=Array.eq_empty_of_size_eq_zero (by simpa[lf] using h);unfold dO;cases x;simp only at e;subst e;rw[A2]
theorem wZ(a:Array Nat)(n:Nat):∀b:Array Nat,((List.replicate n a).foldl (·++·) b).size=b.size+n * a.size:=by
 induction n with
 |zero=>intro b;simp
 |succ n i=>intro b;rw[cA,ff,i,yg,sL];lia
theorem ki(x:Str)(n:Nat):(dO x n).length=n * x.length:=by unfold dO lf;simp only;rw[wZ];simp
def ug:P->P->Option P
 | .int i,.int j=>if gf i j=true then some (.int (i * j)) else none
 | .str x,.int n=>if (g6 (n.toNat * x.length) && decide (n.natAbs < 1000000))=true then some (.str (dO x n.toNat)) else none
 | .lst xs,.int n=>if (g6 (xs.length * n.toNat) && decide (n.natAbs < 1000000))=true then some (.lst (List.replicate n.toNat xs).flatten) else none
 |_,_=>none
theorem b7.rep(h:b7 K F H r xs):∀k:Nat,b7 K F H (List.replicate k r).flatten (List.replicate k xs).flatten
 |0=>rfl
 |k+1=>by rw[cA,cA,fR,fR];exact h.append (b7.rep h k)
theorem Mu:nR X (binaryOp .Mult) ug:=by
 intro r s J H x y v u Q I o S h;obtain⟨F,B,w,d,M,g,l,q,k⟩:=h;cases B with
 |int i=>
  cases w with
  |int j=>
   simp only[ug]at q;split at q
   .rename_i c;cases q;cases (show x=.int i from g);cases (show y=.int j from l);exact GC r s J H _ _ v u Q I o S ⟨i,j,rfl,rfl,Dn c,k _ F H .refl rfl⟩
   .cases q
  |_=>exact kl q
 |str i=>
  cases w with
  |int n=>
   simp only[ug]at q;split at q
   .rename_i c;rw[av]at c;have E:=bu c.2;have N:n.toNat * i.length≤1000000:=bu c.1;have T:=jF;have V:(1000000:Nat)≤sizeLine:=by decide
    cases q;cases (show x=.str i from g);cases (show y=.int n from l);obtain⟨t,rfl⟩:=o;obtain⟨W,rfl⟩:=S;refine PySem.P.mul_str (by have C:decide (n < -(2 ^ 63:Int))=false:=cw (by lia);have D:decide (n ≥ 2 ^ 63)=false:=cw (by lia);rw[C,D];rfl) (λa b=>?_) (λa b=>?_) ?_
    .intro z;have R:((i.length:Nat):Int)≤(2 ^ 63-1) / n:=by
      refine(Int.le_ediv_iff_mul_le (by lia)).mpr ?_;have e:((i.length:Nat):Int) * n=((n.toNat * i.length:Nat):Int):=by rw[xq,xr (by lia),Int.mul_comm]
      rw[e];lia
     lia
    .unfold Builtin.Str.tooLong;first
      |exact cw (by rw[oC];lia)
      |(rw[oC];exact cw (by lia))
    .have f:Q (.str (dO i n.toNat)) H:=k _ F H .refl rfl;by_cases K:n < 1
     .rw [ai K];have e:n.toNat=0:=by lia
      rw[e]at f;exact⟨by decide,⟨.str Str.empty,H,I.tok _,⟨_,rfl⟩,f⟩⟩
     .rw [al K];by_cases m:(n == 1 ||i.length == 0)=true
      .rw [ai m];rw[yd]at m;have e:dO i n.toNat=i:=by
        rcases m with m|m
        .have:n=1:=by simpa using m
         subst this;exact wu i
        .exact tw i _ (by simpa using m)
       rw[e]at f;exact⟨.str i,H,I,⟨_,rfl⟩,f⟩
      .rw [al m];refine⟨?_,⟨.str (dO i n.toNat),H,I.tok _,⟨_,rfl⟩,f⟩⟩;have:=ki i n.toNat
       unfold dO at this;rw[this];lia
   .cases q
  |_=>exact kl q
 |lst L=>
  cases w with
  |int n=>
   simp only[ug]at q;split at q
   .rename_i c;rw[av]at c;have E:=bu c.2;cases q;obtain⟨a,xs,rfl,G,A⟩:=g;cases (show y=.int n from l);exact Js r s J H _ _ v u Q I o S ⟨a,n,xs,rfl,rfl,G.2,by lia,by lia,by rw[<- A.length];exact ip c.1,λp P=>k _ _ _ (bE P) (.newLst P (A.rep _))⟩
   .cases q
  |_=>exact kl q
 |_=>exact kl q
noncomputable def Qr:P->P->Option P
 | .int i,.int j=>some (.bl (decide (i=j)))
 | .str x,.str y=>some (.bl (decide (x=y)))
 | .bl a,.bl b=>some (.bl (decide (a=b)))
 |_,_=>none
noncomputable def Kq:P->P->Option P
 | .int i,.int j=>some (.bl (!decide (i=j)))
 | .str x,.str y=>some (.bl (!decide (x=y)))
 | .bl a,.bl b=>some (.bl (!decide (a=b)))
 |_,_=>none
theorem nu{i j:Int}:decide (V.int i=V.int j)=decide (i=j):=by
 by_cases h:i=j
 .subst h;simp
 .rw [cw h,cw λz=>h (V.int.inj z)]
theorem nr:decide (V.str i=V.str k)=decide (i=k):=by
 by_cases h:i=k
 .subst h;simp
 .rw [cw h,cw λz=>h (V.str.inj z)]
theorem pY:decide (V.bl i=V.bl k)=decide (i=k):=by
 by_cases h:i=k
 .subst h;simp
 .rw [cw h,cw λz=>h (V.bl.inj z)]
theorem Pf:nR X (compareOp .Eq) Qr:=by
 intro p s J H x y v u Q I r f h;obtain⟨F,b,a,d,t,e,n,q,k⟩:=h;cases b with
 |int i=>
  cases a with
  |int j=>cases q;cases (show x=.int i from e);cases (show y=.int j from n);exact De p s J H _ _ v u Q I r f ⟨rfl,by rw[nu];exact k _ F H .refl rfl⟩
  |_=>exact kl q
 |str i=>
  cases a with
  |str j=>cases q;cases (show x=.str i from e);cases (show y=.str j from n);exact De p s J H _ _ v u Q I r f ⟨rfl,by rw[nr];exact k _ F H .refl rfl⟩
  |_=>exact kl q
 |bl i=>
  cases a with
  |bl j=>cases q;cases (show x=.bl i from e);cases (show y=.bl j from n);exact De p s J H _ _ v u Q I r f ⟨rfl,by rw[pY];exact k _ F H .refl rfl⟩
  |_=>exact kl q
 |_=>exact kl q
theorem Pa:nR X (compareOp .NotEq) Kq:=by
 intro p s J H x y v u Q I r f h;obtain⟨F,b,a,d,t,e,n,q,k⟩:=h;cases b with
 |int i=>
  cases a with
  |int j=>cases q;cases (show x=.int i from e);cases (show y=.int j from n);exact Dc p s J H _ _ v u Q I r f ⟨rfl,by rw[nu];exact k _ F H .refl rfl⟩
  |_=>exact kl q
 |str i=>
  cases a with
  |str j=>cases q;cases (show x=.str i from e);cases (show y=.str j from n);exact Dc p s J H _ _ v u Q I r f ⟨rfl,by rw[nr];exact k _ F H .refl rfl⟩
  |_=>exact kl q
 |bl i=>
  cases a with
  |bl j=>cases q;cases (show x=.bl i from e);cases (show y=.bl j from n);exact Dc p s J H _ _ v u Q I r f ⟨rfl,by rw[pY];exact k _ F H .refl rfl⟩
  |_=>exact kl q
 |_=>exact kl q
theorem Al{α β:Type}{xs:List α}{s:List β}{i:Int}{d:α}(l:xs.length=s.length)(h:L2.atI xs i=some d):∃j:Nat,xs[j]? = some d/\∀y,s[j]? = some y->L2.atI s i=some y:=by
 unfold L2.atI at h ⊢;rw[l]at h;cases e:AU s.length i with
 |none=>rw[e]at h;cases h
 |some j=>rw[e]at h;exact⟨j,h,λy x=>x⟩
theorem b7.atI{K:FG}{F:Aa}{H:Y}{s:List P}{xs:List V}{i:Int}{d:P}(r:b7 K F H s xs)(h:L2.atI s i=some d):∃x,L2.atI xs i=some x/\RP K F H d x:=by obtain⟨j,a,n⟩:=Al r.length h;obtain⟨x,e,p⟩:=r.get a;exact⟨x,n x e,p⟩
theorem cQ.atI{K:FG}{F:Aa}{H:Y}{m:List Addr}{s:List D}{xs:List V}{i:Int}{d:D}(r:cQ K F H m s xs)(h:L2.atI s i=some d):∃x,L2.atI xs i=some x/\RD K F H m d x:=by obtain⟨j,a,n⟩:=Al r.length h;obtain⟨x,e,p⟩:=r.get a;exact⟨x,n x e,p⟩
noncomputable def iJ(k:dJ):List dJ->List α->Option α
 |h::s,v::T=>if h=k then some v else iJ k s T
 |_,_=>none
noncomputable def gu:P->Option dJ
 | .int i=>some (.inl i)
 | .str x=>some (.inr x)
 |_=>none
def cF:P->P->Option P
 | .tup xs,.int i=>L2.atI xs i
 | .lst xs,.int i=>L2.atI xs i
 | .ro xs,.int i=>L2.atI xs i
 | .str x,.int i=>if g6 x.length=true then (L2.atI x.cps.toList i).map λc=>.str ⟨#[c]⟩ else none
 | .dct s T,y=>match gu y with
  |some k=>iJ k s T
  |none=>none
 |_,_=>none
theorem mx:∀{s:List (dJ×V)}{a:List P}{d:P},b7 K F H a (s.map (·.2))->iJ k (s.map (·.1)) a=some d->∃v,f_ s k=some v/\RP K F H d v
 | [],a,d,r,h=>by cases a<;>exact kl h
 |(f,v)::s,[],d,r,h=>kl h
 |(f,v)::s,u::a,d,r,h=>by
  obtain⟨x,g,e,p,b⟩:=r;rw[aF]at e;injection e with c m;simp only[aF,iJ]at h;by_cases n:f=k
  .rw [ai n]at h;cases h;exact⟨v,gN (p:=(f,v)) n,by rw[show v=x from c];exact p⟩
  .rw [al n]at h;rw[<- m]at b;obtain⟨w,t,q⟩:=mx b h;exact⟨w,by rw[f8 (p:=(f,v)) n];exact t,q⟩
theorem gS(h:gu t=some k)(r:RP K F H t v):v=kV k:=by
 cases t with
 |int i=>cases h;exact r
 |str x=>cases h;exact r
 |_=>exact kl h
theorem DL(r:X.A.units+1 < cLine):ET X (λx y H Q=>∃a v,x=.ref a/\jj H a y (some v)/\(∃k,H a=some (.dK k))/\Q v H):=by
 intro f l p s J H x y v u Q I d i h m;obtain⟨a,w,rfl,g,⟨k,c⟩,q⟩:=h;cases d;have n:∃o,s.heap.get? a=some o/\o.ExactDict:=by obtain⟨_,_,_,_,o,_,_,e,n,_⟩:=I.h a _ c;exact⟨o,e,n⟩
 obtain⟨o,e,n⟩:=n;exact oe ⟨o,e,n.1⟩ BE.lookup (rf r I g i λz j b t=>⟨w,H,b,t,q⟩) m
theorem Qk(M:X.A.units+1 < cLine):ET X (rP X.K cF):=by
 intro n l f s J H x y v u Q I o S h t;obtain⟨F,D,m,d,R,g,j,q,k⟩:=h;cases D with
 |tup b=>
  cases m with
  |int i=>obtain⟨a,xs,rfl,K,r⟩:=g;cases (show y=.int i from j);obtain⟨z,e,p⟩:=r.atI (show L2.atI b i=some d from q);exact DK n l f s J H _ _ v u Q I o S ⟨a,xs,i,z,rfl,rfl,K.sq,e,k z F H .refl p⟩ t
  |_=>exact kl q
 |lst b=>
  cases m with
  |int i=>obtain⟨a,xs,rfl,K,r⟩:=g;cases (show y=.int i from j);obtain⟨z,e,p⟩:=r.atI (show L2.atI b i=some d from q);exact tT n l f s J H _ _ v u Q I o S ⟨a,xs,i,z,rfl,rfl,K.sq,e,k z F H .refl p⟩ t
  |_=>exact kl q
 |ro b=>
  cases m with
  |int i=>obtain⟨a,xs,rfl,K,r⟩:=g;cases (show y=.int i from j);obtain⟨z,e,p⟩:=r.atI (show L2.atI b i=some d from q);exact tT n l f s J H _ _ v u Q I o S ⟨a,xs,i,z,rfl,rfl,K.sq,e,k z F H .refl p⟩ t
  |_=>exact kl q
 |str z=>
  cases m with
  |int i=>
   cases (show x=.str z from g);cases (show y=.int i from j);simp only[cF]at q;split at q
   .rename_i L;cases e:L2.atI z.cps.toList i with
    |none=>rw[e]at q;exact kl q
    |some c=>rw[e]at q;cases q;exact JZ n l f s J H _ _ v u Q I o S ⟨z,i,c,rfl,rfl,ip L,e,k _ F H .refl rfl⟩ t
   .cases q
  |_=>exact kl q
 |dct T b=>
  obtain⟨a,B,rfl,fa,C,G,r⟩:=g;simp only[cF]at q;cases P:gu m with
  |none=>rw[P]at q;exact kl q
  |some N=>rw[P]at q;dsimp only at q;subst G;obtain⟨w,E,p⟩:=mx r q;have A:=gS P j;subst A;exact DL M n l f s J H _ _ v u Q I o S ⟨a,w,rfl,by rw[<- E];exact jj.k C,⟨B,C⟩,k w F H .refl p⟩ t
 |_=>exact kl q
theorem QG{a b:Expr}{fa fb:EV}{M:Pos}(u:X.A.units+1 < cLine)(x:O X a (tV X.K fa))(e:O X b (tV X.K fb))(s:mi b):O X (.Subscript a b M) (tV X.K (ce cF fa fb)):=
 (C1 (Qk u) x e s).imp' λ_ _ _ h=>tq h
end
section
variable{X:Cx}
theorem pb:∀{s:List (dJ×V)}{a:List D}{d:D},cQ K F H m a (s.map (·.2))->iJ k (s.map (·.1)) a=some d->∃v,f_ s k=some v/\RD K F H m d v
 | [],a,d,r,h=>by cases a<;>exact kl h
 |(f,v)::s,[],d,r,h=>kl h
 |(f,v)::s,g::a,d,r,h=>by
  obtain⟨x,i,e,p,b⟩:=r;rw[aF]at e;injection e with c t;simp only[aF,iJ]at h;by_cases n:f=k
  .rw [ai n]at h;cases h;exact⟨v,gN (p:=(f,v)) n,by rw[show v=x from c];exact p⟩
  .rw [al n]at h;rw[<- t]at b;obtain⟨w,q,u⟩:=pb b h;exact⟨w,by rw[f8 (p:=(f,v)) n];exact q,u⟩
@[simp] def z3(r:EE)(k:EV)(L:Lc)(S:aL):uL:=bO (r L S) λd x=>bO (k L x) λy h=>match d with
 | .p v=>(cF v y).map λz=>(.p z,h)
 | .ref i=>match h[i]? with
  | some (.lst s)=>(match y with
   | .int j=>(L2.atI s j).map λz=>(z,h)
   |_=>none)
  |some (.fz v)=>(cF v y).map λz=>(.p z,h)
  | some (.dct a T)=>(match gu y with
   |some k=>(iJ k a T).map λz=>(z,h)
   |none=>none)
  |_=>none
theorem Ot{a b:Expr}{fa:EE}{fb:EV}{M:Pos}(hu:X.A.units+1 < cLine)(ha:O X a (tE X.K fa))(hb:O X b (tV X.K fb))(hs:mi b):O X (.Subscript a b M) (tE X.K (z3 fa fb)):=
 (C1 ((((Qk hu).or tT).or (DL hu)).or DK) ha hb hs).imp' λJ H Q hz=>by
  obtain⟨F,m,L,S,d,N,r,h,q,k⟩:=hz;obtain⟨x,S1,C,q⟩:=af q;obtain⟨y,A,e2,q⟩:=af q;refine⟨F,m,L,S,x,S1,r,h,C,λv B m1 z o r1 p1=>?_⟩;refine⟨B,m1,L,S1,y,A,r1,h.mono o,e2,λu j V I K c Z=>?_⟩;have px:=RD.mono K p1;have n:∀w:P,RP X.K j I w v->(cF w y).map (λe=>(D.p e,A))=some (d,N)->rP X.K cF v u I Q:=λw pw q=>by
   cases g:cF w y with
   |none=>rw[g]at q;cases q
   |some e=>rw[g]at q;cases q;exact⟨j,w,y,e,c.ft,pw,Z,g,λt F3 H3 gr p3=>k t F3 V H3 (o.trans (K.trans gr.stp)) (c.grow gr) p3⟩
  cases x with
  |p w=>exact .inl (.inl (.inl (n w px q)))
  |ref i=>
   obtain⟨a,rfl,hm⟩:=px;dsimp only at q;cases l:A[i]? with
   |none=>rw[l]at q;cases q
   |some so=>
    rw[l]at q;have W:=c.obj i a so hm l;cases so with
    |fz w=>exact .inl (.inl (.inl (n w W q)))
    |dct ks T=>
     dsimp only at q;obtain⟨f,hk,ek,ra⟩:=W;cases E:gu y with
     |none=>rw[E]at q;cases q
     |some R=>
      rw[E]at q;dsimp only at q;subst ek;cases g:iJ R (f.map (·.1)) T with
      |none=>rw[g]at q;cases q
      |some e=>rw[g]at q;cases q;obtain⟨w,C,p⟩:=pb ra g;have G:=gS E Z;subst G;exact .inl (.inr ⟨a,w,rfl,by rw[<- C];exact jj.k hk,⟨f,hk⟩,k w j V I (o.trans K) c p⟩)
    |ins _ _ _=>cases q
    |dtt _ _=>cases q
    |lst ds=>
     dsimp only at q;cases y with
     |int s=>
      dsimp only at q;obtain⟨xs,hH,rs⟩:=W;cases g:L2.atI ds s with
      |none=>rw[g]at q;cases q
      |some e=>rw[g]at q;cases q;obtain⟨t,e3,p3⟩:=rs.atI g;cases (show u=.int s from Z);exact .inl (.inl (.inr ⟨a,xs,s,t,rfl,rfl,fG.of hH,e3,k t j V I (o.trans K) c p3⟩))
     |_=>cases q
def d9:P->Option Nat
 | .tup xs=>some xs.length
 | .lst xs=>some xs.length
 | .ro xs=>some xs.length
 | .str x=>if g6 x.length=true then some x.length else none
 |_=>none
def dM:D->aL->Option Nat
 | .p v,_=>d9 v
 | .ref i,S=>match S[i]? with
  |some (.lst d)=>some d.length
  |some (.fz v)=>d9 v
  |_=>none
def dS(r:EE):EV:=λL S=>bO (r L S) λd h=>(dM d h).map λn=>(.int n,h)
theorem zM{F:Aa}{H:Y}{w:P}{v:V}{n:Nat}{Q:VK}(p:RP X.K F H w v)(h:d9 w=some n)(q:Q (.int n) H) :
  (∃p y,[v]=[V.ref p]/\(fG X.K H p y\/jw X.K H p y)/\Q (.int y.length) H)\/(∃z,[v]=[V.str z]/\z.length≤sizeLine/\Q (.int z.length) H):=by
 cases w with
 |tup d=>obtain⟨a,xs,rfl,t,r⟩:=p;cases h;exact .inl ⟨a,xs,rfl,.inr t.sq,by rw[<- r.length];exact q⟩
 |lst d=>obtain⟨a,xs,rfl,t,r⟩:=p;cases h;exact .inl ⟨a,xs,rfl,.inl t.sq,by rw[<- r.length];exact q⟩
 |ro d=>obtain⟨a,xs,rfl,t,r⟩:=p;cases h;exact .inl ⟨a,xs,rfl,.inl t.sq,by rw[<- r.length];exact q⟩
 |str x=>
  cases (show v=.str x from p);simp only[d9]at h;split at h
  .rename_i c;cases h;exact .inr ⟨x,rfl,ip c,q⟩
  .cases h
 |_=>exact kl h
theorem Op(A:Gl X "len")(f:X.g "len"=none)(P:O X e (tE X.K fe))(c:starEach [e] X.e=[(false,eval e X.e)]:=by rfl):O X (.Call (.Name "len" p) [e] [] M) (tV X.K (dS fe)):=
 (lH (ul.or uk) A f PySem.boot_len (dI P fH (by rw[c];rfl)) (by decide) (by decide) (by rw[c];rfl) rfl).imp' λJ H Q C=>by
  obtain⟨F,m,L,S,d,N,r,h,q,k⟩:=C;obtain⟨x,b,j,q⟩:=af q;refine⟨F,m,L,S,x,b,r,h,j,λv B D z G u t=>?_⟩;cases s:dM x b with
  |none=>rw[s]at q;cases q
  |some n=>
   rw[s]at q;cases q;have y:Q (.int n) z:=k _ B D z G u rfl;cases x with
   |p w=>exact zM t s y
   |ref i=>
    obtain⟨a,rfl,f⟩:=t;simp only[dM]at s;cases l:N[i]? with
    |none=>rw[l]at s;cases s
    |some g=>
     rw[l]at s;have o:=u.obj i a g f l;cases g with
     |fz w=>exact zM o s y
     |dct R T=>cases s
     |ins _ _ _=>cases s
     |dtt _ _=>cases s
     |lst I=>cases s;obtain⟨xs,K,E⟩:=o;exact .inl ⟨a,xs,rfl,.inl (fG.of K),by rw[<- E.length];exact y⟩
noncomputable def d4(d:D)(S:aL):Option (Nat×List D):=match d with
 | .ref i=>match S[i]? with
  |some (.lst s)=>some (i,s)
  |_=>none
 |_=>none
theorem h_(h:d4 d S=some (i,k)):d=.ref i/\S[i]? = some (.lst k):=by
 unfold d4 at h;split at h
 .split at h
  .rename_i e;cases h;exact⟨rfl,e⟩
  .cases h
 .cases h
@[simp] def bW(r:EE)(a:EE)(L:Lc)(S:aL):uL:=bO (r L S) λd h=>match d4 d h with
 |none=>none
 |some _=>bO (a L h) λx e=>match d4 d e with
  |some (i,s)=>if few s=true then some (.p .non,e.set i (.lst (s++[x]))) else none
  |none=>none
theorem FP{o e:Expr}{W fe:EE}{p c:Pos}(ho:O X o (tE X.K W))(he:O X e (tE X.K fe))(M:starEach [e] X.e=[(false,eval e X.e)]:=by rfl)
  (t:attributeBase o "append" X.e (eval o X.e)=eval o X.e:=by rfl) (w:(p.endLine == c.line)=true:=by rfl):O X (.Call (.Attribute o "append" p) [e] [] c) (tE X.K (bW W fe)):=
 (HB n_ xG PySem.F.type_list_append qO ho (dI he fH (by rw[M];rfl)) t (by rw[M];rfl) w (by rw[M];rfl) rfl).imp' λJ H h hz=>by
  obtain⟨F,m,L,S,d,N,r,s,q,k⟩:=hz;obtain⟨x,C,e1,q⟩:=af q;refine⟨F,m,L,S,x,C,r,s,e1,λv B m1 z s1 r1 p1=>?_⟩;cases E:d4 x C with
  |none=>rw[E]at q;cases q
  |some n=>
   obtain⟨i,ds⟩:=n;rw[E]at q;dsimp only at q;obtain⟨rfl,l⟩:=h_ E;obtain⟨a,rfl,hm⟩:=id p1;obtain⟨xs,hH,rs⟩:=r1.obj i a _ hm l;refine⟨.inl ⟨rfl,xs,fG.of hH⟩,?_⟩;obtain⟨y,V,e2,q⟩:=af q;refine⟨B,m1,L,C,y,V,r1,s.mono s1,e2,λu j R I s2 T p2=>?_⟩;cases f:d4 (.ref i) V with
   |none=>rw[f]at q;cases q
   |some n=>
    obtain⟨i2,D⟩:=n;rw[f]at q;dsimp only at q;obtain⟨e3,b⟩:=h_ f;cases e3;split at q
    .rename_i Z;cases q;obtain⟨a2,e4,g⟩:=RD.mono s2 p1;cases e4;obtain⟨K,P,A⟩:=T.obj i a _ g b;have hl:=jL Z;have G:K.length < sizeLine:=by
      have:D.length≤1000000:=bu Z;rw[<- A.length];exact j5 this (by decide)
     have nt:∀zs,I a≠some (.tup zs):=λzs n=>by rw[P]at n;cases n
     have Q:Stp j R I j R (bN I a (.lst (K++[u]))):=fm T g b trivial nt;refine⟨a,K,u,rfl,rfl,P,G,?_⟩;exact k .non j R _ (s1.trans (s2.trans Q)) (T.set g b trivial nt ⟨_,aJ,cQ.mono Q (A.append ⟨u,[],rfl,p2,rfl⟩)⟩) rfl
    .cases q
noncomputable abbrev EO:=Lc->aL->Option (Option Int×aL)
noncomputable def pH:EO:=λ_ S=>some (none,S)
def ng(a:EV):EO:=λL S=>bO (a L S) λv h=>match v with
 | .int i=>some (some i,h)
 |_=>none
inductive tOI(K:FG)(f:EO)(J:L2.St)(H:Y)(Q:Option Int->Y->Prop):Prop
 |mk (F:Aa) (m:List Addr) (L:Lc) (S:aL) (b:Option Int) (S':aL) (h0_:Rel K F H m S) (h1_:RL K F H m J L) (h2_:f L S=some (b,S')) (h3_:∀F' m' H',Stp F m H F' m' H'->Rel K F' H' m' S'->Q b H'):tOI K f J H Q
noncomputable def tO(K:FG)(f:EO):TO:=λJ H Q=>tOI K f J H Q
theorem _root_.L2.PO.imp'(h:PO X e t)(i:∀J H Q,k J H Q->t J H Q):PO X e k:=λp s J H Q I q=>h p s J H Q I (i J H Q q)
theorem JG:PO X none (tO X.K pH):=Gr.imp' λJ H Q h=>by obtain⟨F,m,L,S,d,N,r,l,q,k⟩:=h;cases q;exact k F m H .refl r
theorem JF(h:O X e (tV X.K fa)):PO X (some e) (tO X.K (ng fa)):=(Gq h).imp' λJ H Q s=>by
 obtain⟨F,m,L,S,d,N,r,l,q,k⟩:=s;obtain⟨x,c,a,q⟩:=af q;cases x with
 |int i=>cases q;exact⟨F,m,L,S,_,_,r,l,a,λv B n z b f p=>⟨i,p,k B n z b f⟩⟩
 |_=>cases q
def cut(xs:List α)(lo h:Option Int):List α:=(xs.drop (HT.eP xs.length 0 lo)).take (HT.eP xs.length xs.length h-HT.eP xs.length 0 lo)
theorem b7.cut(r:b7 K F H k xs)(lo h:Option Int):b7 K F H (Ev.cut k lo h) (vr xs lo h):=by unfold Ev.cut vr;rw[r.length];exact(r.drop _).take _
def Rh:P->Option Int->Option Int->Option P
 | .lst xs,lo,h=>some (.lst (cut xs lo h))
 | .ro xs,lo,h=>some (.lst (cut xs lo h))
 | .tup xs,lo,h=>if HT.eP xs.length 0 lo=0/\HT.eP xs.length xs.length h=xs.length then none else some (.tup (cut xs lo h))
 |_,_,_=>none
theorem _root_.L2.PI.imp'(h:PI X r iter t)(i:∀J H R,k J H R->t J H R):PI X r iter k:=λp s J H R I q=>h p s J H R I (i J H R q)
theorem DN(f:∀j h I,Stp F m H j h I->fG K I a xs)(r:b7 K F H T xs):H_ K (No K a) T F m H:=by
 intro j h I s;have q:=f j h I s;have k:=b7.mono s r;refine⟨λi v e=>?_,⟨xs,q,by rw[k.length];exact ag _⟩⟩;obtain⟨x,n,p⟩:=k.get e;refine⟨⟨xs,x,q,n⟩,λy b z=>?_⟩;obtain⟨rfl,z⟩:=z;have:=z xs q
 rw[n]at this;cases this;exact⟨j,.refl,p⟩
theorem J0(k:TupAt K H a xs)(r:b7 K F H T xs):H_ K (Qz K a) T F m H:=by
 intro j b I s;have q:=(k.kp s.kp).sq;have n:=b7.mono s r;refine⟨λi v e=>?_,⟨xs,q,by rw[n.length];exact ag _⟩⟩;obtain⟨x,h,p⟩:=n.get e;refine⟨⟨xs,x,q,h⟩,λy f z=>?_⟩;obtain⟨rfl,z⟩:=z;have:=z xs q
 rw[h]at this;cases this;exact⟨j,.refl,p⟩
noncomputable def intsFrom(lo:Int)(n:Nat):List P:=(List.range n).map λ(i:Nat)=>.int (lo+(i:Int))
def gZ(a:EV):jx:=λL S=>bO (a L S) λv h=>match v with
 | .int j=>if decide (j.natAbs < 1000000)=true then some (intsFrom 0 j.toNat,h) else none
 |_=>none
theorem J1{lo:Int}:H_ K (N1 lo n) (intsFrom lo n) F m H:=by
 intro j k I s;have l:(intsFrom lo n).length=n:=by unfold intsFrom;simp
 refine⟨λi v e=>?_,by show n≤(intsFrom lo n).length;rw[l];exact ag _⟩;have h:i < n:=by rw[<- l];exact(aP.mp e).1
 refine⟨h,λx a z=>?_⟩;obtain⟨rfl,rfl⟩:=z;refine⟨j,.refl,?_⟩;unfold intsFrom at e;simp[h]at e;subst e;exact rfl
theorem Q3{u a:Expr}{fa:EV}{p M:Pos}(g:Gl X "range")(n:X.g "range"=none)(s:O X a (tV X.K fa))(h:starEach [a] X.e=[(false,eval a X.e)]:=by rfl):PI X u (.Call (.Name "range" p) [a] [] M) (tI X.K (gZ fa)):=
 (AI g n (dI s fH (by rw[h];rfl)) h).imp' λJ H R f=>by
  obtain⟨F,m,L,S,T,N,r,l,q,k⟩:=f;obtain⟨v,i,e,q⟩:=af q;cases v with
  |int j=>
   dsimp only at q;split at q
   .rename_i c;have y:j.natAbs < 1000000:=bu c;cases q;refine⟨F,m,L,S,_,_,r,l,e,λx B b z w d t=>?_⟩;cases (show x=.int j from t);exact⟨j,rfl,by lia,by lia,k _ B b z w d J1⟩
   .cases q
  |_=>cases q
end
def bt(g:jS)(c:EB)(e:EV):List P->Lc->aL->Option (List P×aL)
 | [],_,S=>some ([],S)
 |v::r,L,S=>match g v L with
  |none=>none
  |some h=>bO (c h S) λk x=>if k=true then bO (e h x) λy a=>bO (bt g c e r h a) λn s=>some (y::n,s) else bt g c e r h x
open Classical in
def iy(ok:aL->Prop)(g:jS)(c:EB)(e:EV):List P->Lc->aL->Option (List P×aL)
 | [],_,S=>if ok S then some ([],S) else none
 | v::r,L,S=>if ok S then (match g v L with
  |none=>none
  |some h=>bO (c h S) λk x=>if k=true then bO (e h x) λy a=>bO (iy ok g c e r h a) λn s=>some (y::n,s) else iy ok g c e r h x) else none
theorem p7:∀{T:List P}{L:Lc}{S:aL},iy (λ_=>True) g c e T L S=bt g c e T L S
 | [],_,_=>ai trivial
 |v::r,L,S=>by
  unfold iy bt;rw[ai trivial];cases g v L with
  |none=>rfl
  |some h=>simp only[p7 (T:=r)]
noncomputable def kh(y:List Nat)(n:Nat)(L:List (Option α)):List (Option α):=(y.foldl (λL i=>L.set i none) L)++List.replicate n none
def bo(i:jx)(y:List Nat)(n:Nat)(g:jS)(c:EB)(e:EV):EV:=λL S=>bO (i L S) λxs h=>if few xs=true then bO (bt g c e xs (kh y n L) h) λs x=>some (.lst s,x) else none
@[simp] def cE(_L:Lc)(S:aL):KW:=some (true,S)
theorem f6(y:List Nat):∀L:List (Option α),(y.foldl (λL i=>L.set i none) L).length=L.length:=by
 induction y with
 |nil=>intro L;rfl
 |cons t y h=>intro L;rw[ff,h,fg]
theorem qv(y:List Nat):∀(L:List (Option α))(i:Nat)(d:α),(y.foldl (λL i=>L.set i none) L)[i]? = some (some d)->L[i]? = some (some d)/\i ∉ y:=by
 induction y with
 |nil=>intro L i d h;exact⟨h,by simp⟩
 |cons t y s=>
  intro L i d h;rw[ff]at h;obtain⟨x,a⟩:=s _ _ _ h;by_cases e:t=i
  .subst e;by_cases l:t < L.length
   .rw [cC l]at x;cases x
   .rw [cB (by rw[fg];lia)]at x;cases x
  .rw [bg e]at x;exact⟨x,by simp[a];exact λz=>e z.symm⟩
theorem sY(y:List Nat)(n:Nat)(L:List (Option α)):(kh y n L).length=L.length+n:=by unfold kh;rw[bK,f6,sJ]
theorem zg(h:(kh y n L)[i]? = some (some d)):L[i]? = some (some d)/\i ∉ y/\i < L.length:=by
 unfold kh at h;by_cases x:i < L.length
 .rw [bw (by rw[f6];exact x)]at h;obtain⟨a,e⟩:=qv y L i d h;exact⟨a,e,x⟩
 .rw [bU (by rw[f6];lia),sK]at h;split at h<;>cases h
variable{J:L2.St}
theorem RL.up(l:RL K F H m J L)(y:List Nat)(n:Nat):RL K F H m (kh y n J) (kh y n L):=by
 refine⟨by rw[sY,sY,l.len],λi d h=>?_⟩;obtain⟨a,s,f⟩:=zg h;obtain⟨v,e,r⟩:=l.at' i d a;refine⟨v,?_,r⟩;unfold kh;rw[bw (by rw[f6,l.len];exact f)];have k:∀(y:List Nat)(J:L2.St),i ∉ y->J[i]? = some (some v)->(y.foldl (λL i=>L.set i none) J)[i]? = some (some v):=by
  intro y;induction y with
  |nil=>intro J _ e;exact e
  |cons t y b=>intro J x e;rw[ff];refine b _ (λz=>x (aR _ z)) ?_;rw[bg (λz=>x (by rw[z];exact aO))];exact e
 exact k y J s e
noncomputable def l7(G:Scope)(e:Env):List (Str×Addr):=((G.names.filter λx=>x.2 == .free).map λx=>(x.1,(e.cells.lookup x.1).getD 0)).reverse
def inn(X:Cx)(G:Scope)(q:LS)(s:Shared)(H:Y)(C:Addr)(f:List Addr):Cx:=
 { X with N:=q,z:=s,y:=H,e:=compEnvC G (l7 G X.e) C X.e,o:=X.k,ex:=f,fn:=λ_=>false,pn:=[],xe:=λ_ _=>False }
structure BlockOk(X:Cx)(scope:Scope)(N':LS)(ts:List Nat)(n:Nat):Prop where
 kind:scope.kind=.function
 cell:∀x ∈ scope.names,x.2≠.cell
 loc:∀x ∈ scope.names,x.2=.local->scope.names.lookup x.1=some .local
 fr:∀x ∈ scope.names,x.2=.free->scope.names.lookup x.1=some .free/\(X.e.kindOf x.1=some .cell\/X.e.kindOf x.1=some .free)
 names:X.N=N'.take X.N.length
 more:N'.length=X.N.length+n
 ts:∀x ∈ scope.names,x.2=.local->∀i:Nat,X.N[i]? = some x.1->i ∈ ts
theorem gR:∀{l:List (Str×α)}{x:Str}{v:α},l.lookup x=some v->(x,v) ∈ l
 | [],_,_,h=>by simp at h
 |(y,w)::r,x,v,h=>by
  rw[oz]at h;cases e:x == y with
  |true=>rw[e]at h;cases h;rw[show x=y from by simpa using e];exact aO
  |false=>rw[e]at h;exact aR _ (gR h)
theorem kn:∀{l:List (Str×α)}{x:Str}{v:α},(x,v) ∈ l->∃w,l.lookup x=some w
 | [],_,_,h=>by simp at h
 |(y,w)::r,x,v,h=>by
  rw[oz];cases e:x == y with
  |true=>exact⟨w,rfl⟩
  |false=>
   rcases aW.mp h with h|h
   .injection h with a _;subst a;simp at e
   .exact kn h
variable{x:Str}
theorem fu(h:(relabel G r).names.lookup x=some k):∃a,(x,a) ∈ G.names/\(k=a\/(k=.cell/\a=.free)):=by
 have m:=gR h;unfold relabel at m;obtain⟨⟨n,a⟩,t,e⟩:=a_.mp m;by_cases c:(a == NameKind.free && r.scope.kind == .function && r.kindOf n == some .cell)=true
 .have s:(n,NameKind.cell)=(x,k):=by simpa[c] using e
  injection s with f b;subst f;rw[av,av]at c;exact⟨a,t,.inr ⟨b.symm,by simpa using c.1.1⟩⟩
 .have s:(n,a)=(x,k):=by simpa[c] using e
  injection s with f b;subst f;exact⟨a,t,.inl b.symm⟩
section
variable{X:Cx}{G:Scope}{q:LS}{y:List Nat}{n:Nat}
theorem BlockOk.cl(B:BlockOk X G q y n)(I:Inv X C J H s)(h:(l7 G X.e).lookup x=some c):X.e.cells.lookup x=some c/\(x,NameKind.free) ∈ G.names:=by
 have p:=gR h;unfold l7 at p;obtain⟨⟨a,k⟩,m,e⟩:=a_.mp (yz.mp p);obtain⟨m,u⟩:=fP.mp m;have t:k=.free:=by simpa using u
 subst t;injection e with d b;subst d;obtain⟨_,w⟩:=B.fr _ m rfl;obtain⟨v,f⟩:=I.o.has a w;dsimp only at b;rw[f]at b;have r:v=c:=b;subst r;exact⟨f,m⟩
theorem BlockOk.has(B:BlockOk X G q y n)(h:(x,NameKind.free) ∈ G.names):∃c,(l7 G X.e).lookup x=some c:=by unfold l7;exact kn (v:=(X.e.cells.lookup x).getD 0) (yz.mpr (a_.mpr ⟨(x,.free),fP.mpr ⟨h,by simp⟩,rfl⟩))
theorem DY(B:BlockOk X G q y n)(I:Inv X r J H s)(p:s.heap.objs.size≤C)(f:∀b ∈ t,qe X r H b)(g:∀b ∈ t,b < s.heap.objs.size) :
  (inn X G q s H C t).Ok where
 mod:=I.o.mod
 kind:=B.kind
 glob:=I.o.glob
 blt:=I.o.blt
 above:=p
 inj:=λx a c d w=>I.o.inj x a c (B.cl I d).1 (B.cl I w).1
 has:=λx h=>by
  have v:(relabel G X.e).names.lookup x=some .cell\/(relabel G X.e).names.lookup x=some .free:=h;rcases v with h|h
  .obtain⟨i,m,e|⟨_,e⟩⟩:=fu h
   .subst e;exact absurd rfl (B.cell _ m)
   .subst e;exact B.has m
  .obtain⟨i,m,e|⟨e,_⟩⟩:=fu h
   .subst e;exact B.has m
   .cases e
 cab:=λx c h=>nomatch h
 hd:=I.o.hd
 frames:=I.o.frames
 stk:=.inl rfl
 exf:=λb k=>⟨bc (bM (g b k) p),λx c h=>(f b k).2.2.2.2.1 x c (B.cl I h).1⟩
 bs:=I.bs
 bsz:=bh I.o.bsz I.sz
 noex:=λb o e k=>by
  rcases(f b k).2.2.2.1 with z|z
  .exact I.o.noex b o e z
  .exact absurd (bM (aI (I.o.bs b o e).1) z) (gC _)
 exfs:=λb k z=>by
  rcases aW.mp (I.stkSub b z) with z|z
  .exact (f b k).2.1 z
  .exact (f b k).2.2.1 z
 funs:=I.stack
 frf:=I.stkFree
 tab:=λP u=>I.base.tbls P (I.o.tab P u)
theorem _root_.L2.Un.sameBut(u:Un fs r H H' h t)(k:eW C t h2)(a:∀b o,h.get? b=some o->b≠C):Un fs r H H' h h2 where
 keep:=λb o e n s x=>k.extBut b o (a b o e) (u.keep b o e n s x)
 slot:=λb o e n s x=>by obtain⟨l,q⟩:=u.slot b o e n s x;exact⟨l,k.extBut b _ (a b o e) q⟩
 free:=u.free
 there:=λb o e x=>by obtain⟨f,q⟩:=u.there b o e x;exact⟨f,k.extBut b _ (a b o e) q⟩
 tups:=u.tups
 frzs:=u.frzs
 tbls:=u.tbls
theorem _root_.L2.kf.sameBut{P:Program}{w:World}{H:Y}{h x:Heap}{C:Addr}(ok:kf P w H h)(n:eW C h x)(a:H C=none):kf P w H x:=λb u e=>
 (ok b u e).stay (fun c v s q=>n.extBut c v (by
  rintro rfl;rcases s with z|z
  .subst z;rw[a]at e;cases e
  .rw [a]at z;cases z) q) (λ_ q=>q) λ_ _ q=>q
inductive PIfs(X:Cx):Ab->EB->Prop where
 |none:PIfs X [] cE
 |one {c:Expr}{q:EB}:PT X c (tQ X.K q)->PIfs X [c] q
theorem Kp.bump(x:¬F p)(t:∀xs,H p≠some (.tup xs)):Kp F m H F m (bN H p o):=
 ⟨⟨[],by simp⟩,λ_ h=>h,λb u f h=>by rw[aj (by rintro rfl;exact x f)];exact h,λb xs h=>by rw[aj (by rintro rfl;exact t xs h)];exact h⟩
theorem Stp.bump(s:Stp F m H F' m' H')(x:H p=none):Stp F m H F' m' (bN H' p o) where
 pre:=s.pre
 oth:=λb u h a=>by rw[aj (by rintro rfl;rw[x]at h;cases h)];exact s.oth b u h a
 frz:=s.frz
 frk:=λb u f h=>by rw[aj (by rintro rfl;rw[x]at h;cases h)];exact s.frk b u f h
 tup:=λb xs h=>by rw[aj (by rintro rfl;rw[x]at h;cases h)];exact s.tup b xs h
 trk:=λb h=>by
  by_cases e:b=p
  .subst e;rw[aJ];exact λz=>nomatch z
  .rw [aj e];exact s.trk b h
 nf:=s.nf
 nm:=s.nm
theorem Rel.bump(r:Rel K F H m S)(x:¬F p)(s:p ∉ m)(t:∀xs,H p≠some (.tup xs)):Rel K F (bN H p o) m S:=
 r.stayK (Kp.bump x t) (λa u e h=>by rw[aj (by rintro rfl;exact s e)];exact h) (λ_ f=>.inl f) λa f=>by rw[aj (by rintro rfl;exact x f)];exact r.ft a f
theorem Qj:Kp F m H (λb=>F b\/b=p) m H:=⟨⟨[],by simp⟩,λ_ h=>.inl h,λ_ _ _ h=>h,λ_ _ h=>h⟩
theorem Stp.addF(s:Stp F m H F' m' H')(x:H p=none):Stp F m H (λb=>F' b\/b=p) m' H':=
 ⟨s.pre,s.oth,fun b h=>.inl (s.frz b h),s.frk,s.tup,s.trk,fun b h=>by
  rcases h with h|h
  .exact s.nf b h
  .subst h;exact .inr (.inl x),s.nm⟩
theorem Rel.addF(r:Rel K F H m S)(s:p ∉ m)(n:H p≠none):Rel K (λb=>F b\/b=p) H m S where
 len:=r.len
 nd:=r.nd
 obj:=λi a o e x=>(r.obj i a o e x).kp Qj λu h=>h
 sep:=λi a o e x w f=>by
  rcases f with f|f
  .exact r.sep i a o e x w f
  .subst f;exact s (aM e)
 trk:=r.trk
 ft:=λa f=>by
  rcases f with f|f
  .exact r.ft a f
  .subst f;exact n
theorem _root_.L2.Inv.letGo(I:Inv X h J H s)(k:eW C s.heap r)(u:H C=none)(t:X.z.heap.objs.size≤C)(v:C≠X.e.locals)
  (d:∀x c,X.e.cells.lookup x=some c->c≠C) (w:∀p ∈ X.pn++h,p.1≠C):Inv X h J H { s with heap:=r }:=by
 have m:∀b:Addr,b ∉ [C]->b≠C:=λb f z=>f (by simp[z]);refine I.call' (s':={ s with heap:=r }) (q:=[C]) rfl ⟨λb o e _ _ a=>k.extBut b o (m b a) e,λb o e _ _ a=>⟨o.slots,k.extBut b o (m b a) e⟩,λ_ _ _ n _=>n,λb o e a=>⟨o,k.extBut b o (m b a) e⟩,λ_ _ q=>q,λ_ _ _ q=>q,λ_ q=>q⟩ (I.h.sameBut k u) I.bare λb f=>?_;have e:b=C:=by simpa using f
 subst e;exact⟨.inr t,v,d,w⟩
theorem Bd(I:Nat->Shared->Prop)
  (u:∀n s,I n s->wpAny (model t w) A (pyNext it) (fun r f=>match r with
   |none=>R (.ok .next) f
   | some v=>wpAny (model t w) A (letOwnedTupleGo tg it v) (fun _ d=>wpAny (model t w) A (assign tg k v) (fun _ g=>
     wpAny (model t w) A (forIn ifs true fun c r=>if r=true then do let ok <- isTrue c k (eval c k);pure (ForInStep.yield ok) else pure (ForInStep.yield r)) (fun ok b=>
      if ok=true then wpAny (model t w) A (eval elt k) (fun x i=>
       wpAny (model t w) A (call (.builtin "list.append") [C,x]) (λ_ j=>∃m,m < n/\I m j) (notedBy (model t w) A k λe a=>R (.error e) a) i) (notedBy (model t w) A k λe a=>R (.error e) a) b
      else ∃m,m < n/\I m b) (notedBy (model t w) A k λe a=>R (.error e) a) g) (notedBy (model t w) A k λe a=>R (.error e) a) d) (notedBy (model t w) A k λe a=>R (.error e) a) f) (notedBy (model t w) A k λe a=>R (.error e) a) s)
  (n:Nat) (h:I n s):codeAny (model t w) A (.compLoop (.ListComp elt [⟨tg,iter,ifs,0⟩] G M) 0 it C k) R s:=by
 refine codeAny_loop rfl I (λn s S=>?_) n h;show wpAny _ A ((compTurn (.ListComp elt [⟨tg,iter,ifs,0⟩] G M) 0 it C k).onRaise (λx=>do noteFrame x k;theTreesLotGoes x)) _ _ s;refine wpAny_noted ?_;rw[compTurn_list];refine ab (vY (ab (cy (u n s S) (λr f p=>?_) λ_ _ z=>z)));cases r with
 |none=>exact ah p
 |some v=>
  refine ab (cy p (λ_ d l=>ab (cy l (λ_ g y=>ab (cy y (λok b q=>?_) λ_ _ z=>z)) λ_ _ z=>z)) λ_ _ z=>z);cases ok with
  |false=>exact ah ⟨rfl,q⟩
  |true=>exact ab (ab (cy q (λx i o=>ab (cy o (λ_ j H=>ah (ah ⟨rfl,H⟩)) λ_ _ z=>z)) λ_ _ z=>z))
theorem G8{H:Heap}{tk:Nat}(B:BlockOk X G q y n)(a:Inv X pins J I k)(f:k.heap.objs.size≤C)(Z:∀b ∈ fp,qe X pins I b)(A:∀b ∈ fp,b < k.heap.objs.size)(l:∀b o,k.heap.get? b=some o->H.get? b=some o)
  (hD:I k.heap.objs.size=none) (D:k.heap.objs.size≠C) (P:I C=none) (w:H.Ns C mC) (s:H.get? k.heap.objs.size=some { cls:=.type "list",dict:=none,data:=.seq ([]:LV).toArray }) :
  Inv (inn X G q k I C fp) [] (kh y n J) (bN I k.heap.objs.size (.lst [])) { k with heap:=H,toks:=tk }:=by
 refine⟨DY B a f Z A,rfl,a.bare,Un.laid l (ag _) hD,?_,λx c e=>?_,?_,λx c e=>?_,λp hp=>absurd (show p ∈ ([]:PN) from hp) (by simp),?_,?_⟩
 .obtain⟨m0,hn0,E⟩:=a.loc;refine⟨_,w,λi x v T V hv=>?_⟩;obtain⟨S,F,K⟩:=zg V;have d:J.length=X.N.length:=a.len;have N:X.N[i]? = some x:=by
   rw[B.names,j3 (by rw[<- d];exact K)];exact T
  have j:(relabel G X.e).names.lookup x=some .local\/(relabel G X.e).names.lookup x=some .cell\/(relabel G X.e).names.lookup x=some .free:=hv;have R:¬(relabel G X.e).names.lookup x=some .local:=λz=>by
   obtain⟨Q,m,e|⟨e,_⟩⟩:=fu z
   .subst e;exact absurd (B.ts _ m rfl i N) F
   .cases e
  have M:(x,NameKind.free) ∈ G.names:=by
   rcases j with z|z|z
   .exact absurd z R
   .obtain⟨Q,m,e|⟨_,e⟩⟩:=fu z
    .subst e;exact absurd rfl (B.cell _ m)
    .subst e;exact m
   .obtain⟨Q,m,e|⟨e,_⟩⟩:=fu z
    .subst e;exact m
    .cases e
  obtain⟨_,t⟩:=B.fr _ M rfl;have L:K' X.e.scope x:=by
   rcases t with z|z
   .exact .inr (.inl z)
   .exact .inr (.inr z)
  obtain⟨u,ru,lk⟩:=E i x v N S L;refine⟨u,ru,.inr ⟨?_,?_⟩⟩
  .rcases j with z|z|z
   .exact absurd z R
   .exact .inl z
   .exact .inr z
  .rcases lk with ⟨z,_⟩|⟨_,c,W,ic⟩
   .rcases t with h|h
    .rw [z]at h;cases h
    .rw [z]at h;cases h
   .obtain⟨c',r⟩:=B.has M;have:=(B.cl a r).1
    rw[W]at this;cases this;obtain⟨o,g,hd⟩:=ic;exact⟨c,r,o,l c o g,hd⟩
 .obtain⟨v,o,g,hd⟩:=a.cell x c (B.cl a e).1;exact⟨v,o,l c o g,hd⟩
 .show bN I k.heap.objs.size (.lst []) C=none;rw[aj (aK D)];exact P
 .obtain⟨v,o,g,hd⟩:=a.cell x c (B.cl a e).1;rw[aj (bc (aI g))];exact a.freeC x c (B.cl a e).1
 .exact a.h.laid l (ag _) ⟨b9 _,[],0,.nil,s⟩
 .show (kh y n J).length=q.length;rw[sY,a.len,B.more]
inductive cIv(K:FG)(Y9:Cx)(F1:Aa)(m1:List Addr)(H2:Y)(A:Addr)(tn:Nat->Heap->Prop)(fp:List Addr)(R:Nat->Nat->Lc->aL->List P->Prop)(ys:List P)(nn:Nat)(sx:Shared):Prop
 |mk (i:Nat) (J':L2.St) (F':Aa) (m':List Addr) (H':Y) (L':Lc) (S':aL) (acc rest:List P) (xs:List V) (h0_:Inv Y9 [] J' H' sx) (h1_:tn i sx.heap) (h2_:∀b ∈ fp,H' b=none) (h3_:Stp F1 m1 H2 F' m' H') (h4_:Rel K F' H' m' S') (h5_:RL K F' H' m' J' L') (h6_:H' A=some (.lst xs)) (h7_:b7 K F' H' acc xs) (h8_:acc.length≤i) (h9_:¬F' A) (ha_:A ∉ m') (hb_:R nn i L' S' rest) (hc_:acc++rest=ys):cIv K Y9 F1 m1 H2 A tn fp R ys nn sx
def QA(K:FG)(ok:aL->Prop)(a:It)(T:List P)(F:Aa)(m:List Addr)(H:Y):Prop:=∀j s I S,Stp F m H j s I->Rel K j I s S->ok S ->
 (∀(i:Nat) v,T[i]? = some v->a.go i I/\∀x h,a.yld i I x h->∃e,Grow j I e h/\RP K e h v x)/\a.stop T.length I
def qf(X:Cx)(t iter:Expr)(f:EV)(y:List Nat)(n:Nat)(g:jS)(c:EB)(fe:EV):Prop:=∃w,PI X t iter w/\∀J H F m L S d a,Rel X.K F H m S->RL X.K F H m J L->f L S=some (d,a) ->
 ∃ok T x s,d=.lst s/\few T=true/\w J H (λe z=>∃B h,Stp F m H B h z/\Rel X.K B z h x/\QA X.K ok e T B h z)/\iy ok g c fe T (kh y n L) x=some (s,a)
theorem Nb(i:PI X tg iter (tI X.K C)):qf X tg iter (bo C y n g t fe) y n g t fe:=by
 refine⟨_,i,λJ H F m L S d a r l q=>?_⟩;obtain⟨T,x,s,q⟩:=af q;split at q;case isFalse=>cases q
 rename_i h;obtain⟨w,e,k,q⟩:=af q;cases q;exact⟨λ_=>True,T,x,w,rfl,h,⟨F,m,L,S,T,x,r,l,s,λu B b z v p f=>⟨B,b,v,p,λj c I a Q _ _=>f j c I Q⟩⟩,by rw[p7];exact k⟩
theorem mQ 
  (h:BlockOk X G q y n) (hcalm:X.c=true)
  (hi:PI X tg iter wi) (hg:∀s H C Q,PG (inn X G q s H C Q) tg (gT X.K g)) (hc:∀s H C Q,PIfs (inn X G q s H C Q) ifs fc) (he:∀s H C Q,O (inn X G q s H C Q) elt (tV X.K fe))
  (hclos:closureFor G X.e=pure (l7 G X.e)) (hs:∀x,foldedSetIterable iter X.e x=pure x)
  (a:Inv X pins J H s) (r:Rel X.K F H m S) (l:RL X.K F H m J L) (hw:wi J H λJ9 z=>∃B m1,Stp F m H B m1 z/\Rel X.K B z m1 S1/\QA X.K ok J9 T B m1 z) (hfew:few T=true) (e2:iy ok g fc fe T (kh y n L) S1=some (ds,S2))
  (fin:∀p F' m' H' sx C xs,Inv X pins J H' sx->Stp F m H F' m' H'->Rel X.K F' H' m' S2->H p=none/\¬F' p/\p ∉ m'/\H' p=some (.lst xs)/\b7 X.K F' H' ds xs->H' C=none->X.z.heap.objs.size≤C->C≠X.e.locals->(∀x c,X.e.cells.lookup x=some c->c≠C)->(∀p ∈ X.pn++pins,p.1≠C) ->
   (∃mC,sx.heap.Ns C mC)->compPost (model X.p X.w) X.A X.xe use k (.ref p) C (.ok .next) sx) :
  wx X (comprehension (.ListComp elt [⟨tg,iter,ifs,0⟩] G M) G X.e p2 (newList []) false (eval iter X.e) use) k X.xe s:=by
 refine wpAny_comprehension_free (use:=use) rfl hs hclos h.kind h.loc (cK (hi pins s J H _ a hw) λxv sA hA=>cK hA λitv D h2=>?_);obtain⟨it,Q,tn,J9,I,rfl,I2,t,st2,f2,B,m1,s1,r1,itp⟩:=h2;have hfp:∀b ∈ Q,b < D.heap.objs.size:=λb V=>by obtain⟨o,e,_⟩:=t.obj _ _ st2 b V;exact aI e
 refine kH ?_ (by show 0≤sizeLine;exact b9 _);refine BL h.cell (by intro d hy;simp at hy) (λh1 hns1 hsb1=>?_) h.kind;dsimp only at hns1 hsb1 ⊢;have hD:I D.heap.objs.size=none:=I2.h.fresh (ag _);generalize hH2:D.heap.push { cls:=.type "list",dict:=none,data:=.seq ([]:LV).toArray }=A at hns1 hsb1 ⊢;have hC:A.objs.size=D.heap.objs.size+1:=by rw[<- hH2,oS]
 have E:D.heap.objs.size≤A.objs.size:=by rw[hC];exact hW _
 have old:∀b o,D.heap.get? b=some o->h1.get? b=some o:=λb o e=>hsb1.extBut b o (bc (bM (aI e) E)) (aV _ (hH2 ▸ aV _ e));have hDC:D.heap.objs.size≠A.objs.size:=by rw[hC];exact bc (fU _)
 have accO:h1.get? D.heap.objs.size=some { cls:=.type "list",dict:=none,data:=.seq ([]:LV).toArray }:=hsb1.extBut _ _ hDC (aV _ (hH2 ▸ bP _ rfl));have hCn:I A.objs.size=none:=I2.h.fresh E;have hCcell:∀x c,X.e.cells.lookup x=some c->c≠A.objs.size:=λx c e w=>by obtain⟨v,o,ho,_⟩:=I2.cell x c e;exact absurd (aI ho) (yP.mpr (by rw[w];exact E))
 have hCloc:A.objs.size≠X.e.locals:=bL (bM I2.lt E);have hCpin:∀p ∈ X.pn++pins,p.1≠A.objs.size:=λp hp w=>absurd (aI (I2.pin p hp).1) (yP.mpr (by rw[w];exact E));have I3:=G8 (tk:=D.toks+([]:List (Str×Value)).length) h I2 E f2 hfp old hD hDC hCn hns1 accO;have okX:=DY (C:=A.objs.size) h I2 E f2 hfp;have fpH:∀{H':Y},(∀b ∈ Q,H' b=none)->∀b ∈ Q,qe (inn X G q D I A.objs.size Q) [] H' b:=λhn b V=>
  ⟨hn b V,bc (bM (hfp b V) E),okX.exfs b V,.inl V,(okX.exf b V).2,λp hp=>absurd (show p ∈ ([]:PN) from hp) (by simp)⟩
 have tn1:tn 0 h1:=t.keep _ _ _ st2 λb V o e=>old b o e;have loop:∀s3:Shared,s3={ D with heap:=h1,toks:=D.toks+([]:List (Str×Value)).length } ->
   codeAny (model X.p X.w) X.A (.compLoop (.ListComp elt [⟨tg,iter,ifs,0⟩] G M) 0 (.ref it) (.ref D.heap.objs.size) (compEnvC G (l7 G X.e) A.objs.size X.e))
    (compPost (model X.p X.w) X.A X.xe use k (.ref D.heap.objs.size) A.objs.size) s3:=by
  rintro s3 rfl;refine Bd (cIv X.K (inn X G q D I A.objs.size Q) B m1 I D.heap.objs.size tn Q (λnn i L' N u=>nn=T.length-i/\i≤T.length/\iy ok g fc fe (T.drop i) L' N=some (u,S2)) ds) ?_ T.length ?_
  .rintro nn sx ⟨i,J',F',m',H',L',N,acc,u,xs,I',tn',fr',st',r',l',hacc,ra,hal,nF,nm,⟨rfl,hi',R⟩,rfl⟩;by_cases hlt:i < T.length
   .have hv:T[i]? = some T[i]:=by simp[hlt]
    rw[yJ hlt]at R;unfold iy at R;split at R;case isFalse=>cases R
    rename_i hok;obtain⟨hgo,_⟩:=itp F' m' H' N st' r' hok;obtain⟨hgo1,hy⟩:=hgo i _ hv;refine cy (t.item (inn X G q D I A.objs.size Q) rfl rfl rfl hcalm i [] sx J' H' (λ_ _=>False) I' (fpH fr') tn' hgo1) (λrr sy hr=>?_) (λ_ _ f=>f.elim);obtain⟨K,rfl,hr⟩:=hr;refine cy hr (λ_ sz hz=>?_) (λ_ _ f=>f.elim);obtain⟨x,H3,I4,rx,yl,tn4,fr4⟩:=hz;obtain⟨F3,gr,p3⟩:=hy x H3 yl;have st4:Stp B m1 I F3 m' H3:=st'.trans gr.stp;have r4:=r'.grow gr;have l4:=l'.mono (gr.stp (m:=m'));have acc4:=gr.keep _ _ hacc;have nF4:¬F3 D.heap.objs.size:=λw=>by
     rcases gr.nf _ w with w|⟨w,_⟩
     .exact nF w
     .rw [hacc]at w;cases w
    have I4':=I4.pinned (fpH fr4) (t.obj _ _ tn4);have back:∀{J7:L2.St}{H7:Y}{s7:Shared},Inv (inn X G q D I A.objs.size Q) ([]++mF Q sz.heap) J7 H7 s7->tn (i+1) s7.heap/\∀b ∈ Q,H7 b=none:=λ{J7 H7 s7} I7=>
     ⟨t.keep _ _ _ tn4 λb V o e=>(I7.pin (b,o) (fS _ (fS _ (ja V e)))).1,λb V=>by obtain⟨o,e,dd⟩:=t.obj _ _ tn4 b V;exact(I7.pin (b,o) (fS _ (fS _ (ja V e)))).2.1⟩
    cases eg:g T[i] L' with
    |none=>rw[eg]at R;cases R
    |some L1=>
     rw[eg]at R;dsimp only at R;obtain⟨kk,S5,e5,R⟩:=af R;refine cy (hg D I A.objs.size Q _ sz J' H3 x K (λJ5 H5=>H5=H3/\RL X.K F3 H3 m' J5 L1) I4' rx ⟨F3,m',L',T[i],L1,l4,p3,eg,λJ5 l5=>⟨rfl,l5⟩⟩) (λ_ s5 h5=>?_) (λ_ _ f=>f.elim);obtain⟨J5,H5,I5,rfl,l5⟩:=h5;have test:wx X (forIn ifs true λc r=>if r=true then do let ok <- isTrue c (compEnvC G (l7 G X.e) A.objs.size X.e) (eval c (compEnvC G (l7 G X.e) A.objs.size X.e));pure (ForInStep.yield ok) else pure (ForInStep.yield r))
       (λok s6=>ok=kk/\∃Z m6 H6,Inv (inn X G q D I A.objs.size Q) ([]++mF Q sz.heap) J5 H6 s6/\Stp F3 m' H5 Z m6 H6/\Rel X.K Z H6 m6 S5) (λ_ _=>False) s5:=by
      have hcc:=hc D I A.objs.size Q;cases hcc with
      |none=>cases e5;exact wpAny_tests_nil ⟨rfl,F3,m',H5,I5,.refl,r4⟩
      |one hq=>refine wpAny_tests_one (cy (hq _ s5 J5 H5 (λb H6=>b=kk/\∃Z m6,Stp F3 m' H5 Z m6 H6/\Rel X.K Z H6 m6 S5) I5 ⟨F3,m',L1,N,kk,S5,r4,l5,e5,λZ m6 H6 s6 r6=>⟨rfl,Z,m6,s6,r6⟩⟩) (λb s6 h6=>?_) λ_ _ f=>f);obtain⟨H6,I6,rfl,Z,m6,W,r6⟩:=h6;exact⟨rfl,Z,m6,H6,I6,W,r6⟩
     refine cy test (λok s6 h6=>?_) (λ_ _ f=>f.elim);obtain⟨rfl,Z,m6,H6,I6,W,r6⟩:=h6;have acc6:=W.oth _ _ acc4 nm;have nm6:D.heap.objs.size ∉ m6:=λw=>by
      rcases W.nm _ w with w|w
      .exact nm w
      .rw [acc4]at w;cases w
     have nF6:¬Z D.heap.objs.size:=λw=>by
      rcases W.nf _ w with w|w|w
      .exact nF4 w
      .rw [acc4]at w;cases w
      .exact nm w
     have ra6:=b7.mono W (ra.grow gr);have l6:=l5.mono W;cases ok with
     |false=>rw[al a8]at R ⊢;obtain⟨t7,f7⟩:=back I6;exact⟨T.length-(i+1),by lia,i+1,J5,Z,m6,H6,L1,S5,acc,u,xs,I6.pins_of λp hp=>absurd hp (by simp),t7,f7,st4.trans W,r6,l6,acc6,ra6,yU hal,nF6,nm6,⟨rfl,hlt,R⟩,rfl⟩
     |true=>
      rw[ai rfl]at R ⊢;obtain⟨d,S8,e8,R⟩:=af R;obtain⟨zs,S9,e9,R⟩:=af R;cases R;refine cy (he D I A.objs.size Q _ s6 J5 H6 (λv8 H8=>∃F8 m8,Stp Z m6 H6 F8 m8 H8/\Rel X.K F8 H8 m8 S8/\RP X.K F8 H8 d v8) I6 ⟨Z,m6,L1,S5,d,S8,r6,l6,e8,λv8 F8 m8 H8 s8 r8 p8=>⟨F8,m8,s8,r8,p8⟩⟩) (λu8 s8 h8=>?_) (λ_ _ f=>f.elim);obtain⟨v8,H8,I8,rv8,F8,m8,st8,r8,p8⟩:=h8;have acc8:=st8.oth _ _ acc6 nm6;have nm8:D.heap.objs.size ∉ m8:=λw=>by
       rcases st8.nm _ w with w|w
       .exact nm6 w
       .rw [acc6]at w;cases w
      have nF8:¬F8 D.heap.objs.size:=λw=>by
       rcases st8.nf _ w with w|w|w
       .exact nF6 w
       .rw [acc6]at w;cases w
       .exact nm6 w
      have ra8:=b7.mono st8 ra6;have nt8:∀zs,H8 D.heap.objs.size≠some (.tup zs):=λzs w=>by rw[acc8]at w;cases w
      have hl8:xs.length < sizeLine:=by have h9:T.length≤1000000:=bu hfew;rw[<- ra8.length];exact bM (j5 hal hlt) (bh h9 (by decide))
      refine cy (qO (X:=inn X G q D I A.objs.size Q) _ s8 J5 H8 (.ref D.heap.objs.size) [v8] (.ref D.heap.objs.size) [u8] (λ_ H9=>H9=bN H8 D.heap.objs.size (.lst (xs++[v8]))) I8 rfl (.cons rv8 .nil) ⟨_,xs,v8,rfl,rfl,acc8,hl8,rfl⟩) (λ_ s9 h9=>?_) (λ_ _ f=>f.elim);obtain⟨_,H9,I9,_,rfl⟩:=h9;obtain⟨t9,f9⟩:=back I9;have kb:Kp F8 m8 H8 F8 m8 (bN H8 D.heap.objs.size (.lst (xs++[v8]))):=Kp.bump nF8 nt8;have st9:Stp B m1 I F8 m8 (bN H8 D.heap.objs.size (.lst (xs++[v8]))):=(st4.trans (W.trans st8)).bump hD;have l9:RL X.K F8 (bN H8 D.heap.objs.size (.lst (xs++[v8]))) m8 J5 L1:=⟨l6.len,λj dd e=>by obtain⟨v,e1,rr⟩:=(l6.mono st8).at' j dd e;exact⟨v,e1,RD.kp kb rr⟩⟩
      exact⟨T.length-(i+1),by lia,i+1,J5,F8,m8,_,L1,S8,acc++[d],zs,xs++[v8],I9.pins_of fun p hp=>absurd hp (by simp),t9,f9,st9,r8.bump nF8 nm8 nt8,l9,aJ,
       b7.kp kb (ra8.append ⟨v8,[],rfl,p8,rfl⟩),by rw[bK];exact Nat.succ_le_succ hal,nF8,nm8,⟨rfl,hlt,e9⟩,by simp⟩
   .have e:i=T.length:=by lia
    subst e;rw[sm]at R;unfold iy at R;split at R;case isFalse=>cases R
    rename_i hok;cases R;obtain⟨_,hstop⟩:=itp F' m' H' _ st' r' hok;refine cy (t.done (inn X G q D I A.objs.size Q) rfl rfl rfl hcalm T.length [] sx J' H' (λ_ _=>False) I' (fpH fr') tn' hstop) (λrr sy hr=>?_) (λ_ _ f=>f.elim);obtain⟨rfl,I5⟩:=hr;rw[dR] at *
    have Iout:Inv X pins J H' sy:=I2.call' (q:=Q) I5.os I5.base I5.h I5.bare λb V=>⟨(f2 b V).2.2.2.1,(f2 b V).2.1,(f2 b V).2.2.2.2.1,(f2 b V).2.2.2.2.2⟩;have hD0:H D.heap.objs.size=none:=by
     cases P:H D.heap.objs.size with
     |none=>rfl
     |some o=>exact absurd hD (s1.trk _ (by rw[P];exact λw=>nomatch w))
    have hCH:H' A.objs.size=none:=I5.free;obtain⟨mC,hmC,_⟩:=I5.loc;exact fin D.heap.objs.size F' m' H' sy A.objs.size xs Iout (s1.trans st') r' ⟨hD0,nF,nm,hacc,ra⟩ hCH (bh I2.sz E) hCloc hCcell hCpin ⟨mC,hmC⟩
  .exact⟨0,_,B,m1,_,kh y n L,S1,[],ds,[],I3,tn1,λb V=>by rw[aj (bc (hfp b V))];exact(f2 b V).1,(bD hD).stp,r1.grow (bD hD),((l.mono s1).mono (bD hD).stp).up y n,aJ,rfl,b9 _,r1.fresh_F hD,r1.fresh_m hD,⟨rfl,b9 _,by rw[sj];exact e2⟩,rfl⟩
 exact codeAny_compStart_list (loop _ rfl) (t.self X.A 0 _ _ _ tn1 (loop _ rfl))
theorem vw(Q:Stp F m H F' m' H')(r:Rel K F' H' m' S)(f:H p=none/\¬F' p/\p ∉ m'/\H' p=some (.lst xs)/\b7 K F' H' k xs) :
  Stp F m H (λb=>F' b\/b=p) m' H'/\Rel K (λb=>F' b\/b=p) H' m' S/\RP K (λb=>F' b\/b=p) H' (.lst k) (.ref p):=by
 obtain⟨x,e,n,h,a⟩:=f;exact⟨Q.addF x,r.addF n (by rw[h];exact λz=>nomatch z),_,xs,rfl,⟨.inr rfl,h⟩,b7.kp (m:=m') Qj a⟩
theorem Lv(B:BlockOk X G q y n)(c:X.c=true)
  (W:qf X tg iter f y n g fc fe) (hg:∀s H C e,PG (inn X G q s H C e) tg (gT X.K g)) (V:∀s H C e,PIfs (inn X G q s H C e) ifs fc) (Z:∀s H C e,O (inn X G q s H C e) t (tV X.K fe))
  (o:closureFor G X.e=pure (l7 G X.e)) (hs:∀x,foldedSetIterable iter X.e x=pure x:=by intro _;rfl) :
  O X (.ListComp t [⟨tg,iter,ifs,0⟩] G M) (tV X.K f):=by
 intro i s J H h I ⟨F,m,L,S,d,N,r,l,a,k⟩;rw[Bu];obtain⟨wi,hi,W⟩:=W;obtain⟨ok,T,S1,ds,rfl,w,hw,K⟩:=W J H F m L S d N r l a;refine mQ B c hi hg V Z o hs I r l hw w K λp F' m' H' sx C xs v Q r' f R P A D E hz=>?_
 obtain⟨mC,b⟩:=hz;obtain⟨u,j,z⟩:=vw Q r' f;exact⟨mC,b,λh' sb=>⟨.ref p,H',v.letGo sb R P A D E,rfl,k _ _ m' H' u j z⟩⟩
@[simp] def Eg(f:EV)(L:Lc)(S:aL):uL:=bO (f L S) λv h=>match v with
 | .lst d=>some (.ref h.length,h++[.lst (d.map .p)])
 |_=>none
theorem Er(Q:Stp F m H F' m' H')(r:Rel K F' H' m' S)(f:H p=none/\¬F' p/\p ∉ m'/\H' p=some (.lst xs)/\b7 K F' H' C xs) :
  Stp F m H F' (m'++[p]) H'/\Rel K F' H' (m'++[p]) (S++[.lst (C.map .p)]):=by
 obtain⟨q,g,j,c,l⟩:=f;have d:Kp F' m' H' F' (m'++[p]) H':=⟨⟨[p],rfl⟩,λ_ h=>h,λ_ _ _ h=>h,λ_ _ h=>h⟩;have lt:∀{i:Nat}{a:Addr},(m'++[p])[i]? = some a->i < m'.length\/(i=m'.length/\a=p):=λ{i a} e=>by
  rcases hX i m'.length with h|h
  .exact .inl h
  .rw [bU h]at e;have v:i-m'.length=0:=by
    rcases yV (i-m'.length) with z|z
    .exact z
    .rw [cB (by simp;lia)]at e;cases e
   rw[v]at e;exact .inr ⟨by lia,by simpa using e.symm⟩
 refine⟨⟨?_,Q.oth,Q.frz,Q.frk,Q.tup,Q.trk,Q.nf,λb t=>?_⟩,⟨by rw[bK,bK,r.len];rfl,?_,λi a o s x=>?_,λi a o s x w=>?_,λa k=>?_,r.ft⟩⟩
 .obtain⟨n,e⟩:=Q.pre;exact⟨n++[p],by rw[e,fj]⟩
 .rcases fO.mp t with t|t
  .exact Q.nm b t
  .have:b=p:=by simpa using t
   subst this;exact .inr q
 .rw [sC];refine⟨r.nd,by simp,λa k b t e=>?_⟩;have:b=p:=by simpa using t
  subst this;subst e;exact j k
 .rcases lt s with h|⟨h,rfl⟩
  .rw [bw h]at s;rw[bw (by rw[<- r.len];exact h)]at x;exact(r.obj i a o s x).kp d λu z=>z
  .subst h;rw[r.len,bU (ag _)]at x;simp at x;subst x;exact⟨xs,c,cQ.ofP l⟩
 .rcases lt s with h|⟨h,rfl⟩
  .rw [bw h]at s;rw[bw (by rw[<- r.len];exact h)]at x;exact r.sep i a o s x w
  .exact g
 .rcases fO.mp k with k|k
  .exact r.trk a k
  .have:a=p:=by simpa using k
   subst this;rw[c];exact λz=>nomatch z
theorem Iq(B:BlockOk X G q y n)(c:X.c=true)
  (W:qf X tg iter f y n g fc fe) (hg:∀s H C e,PG (inn X G q s H C e) tg (gT X.K g)) (hc:∀s H C e,PIfs (inn X G q s H C e) ifs fc) (he:∀s H C e,O (inn X G q s H C e) t (tV X.K fe))
  (o:closureFor G X.e=pure (l7 G X.e)) (hs:∀x,foldedSetIterable iter X.e x=pure x:=by intro _;rfl) :
  O X (.ListComp t [⟨tg,iter,ifs,0⟩] G M) (tE X.K (Eg f)):=by
 intro i s J H h I ⟨F,m,L,S,d,N,r,l,a,k⟩;rw[Bu];obtain⟨v,z,A,a⟩:=af a;obtain⟨wi,hi,W⟩:=W;obtain⟨ok,T,S3,ds,rfl,w,hw,D⟩:=W J H F m L S v z r l A;cases a;refine mQ B c hi hg hc he o hs I r l hw w D λp F' m' H' sx C xs j Q u f hC E R V Z hz=>?_
 obtain⟨mC,b⟩:=hz;obtain⟨K,P⟩:=Er Q u f;refine⟨mC,b,λh' sb=>⟨.ref p,H',j.letGo sb hC E R V Z,rfl,k _ F' _ H' K P ⟨p,rfl,?_⟩⟩⟩;rw[<- u.len,bU (ag _)];simp
theorem Lk(i:Nat)(hN:X.N.Nodup)(B:BlockOk X G q y n)(c:X.c=true)
  (W:qf X tg iter f y n g fc fe) (hg:∀s H C b,PG (inn X G q s H C b) tg (gT X.K g)) (hc:∀s H C b,PIfs (inn X G q s H C b) ifs fc) (he:∀s H C b,O (inn X G q s H C b) t (tV X.K fe))
  (o:closureFor G X.e=pure (l7 G X.e)) (E:swapsWith (.ListComp t [⟨tg,iter,ifs,0⟩] G M) (some (.Name x px)) spos.line X.e=pure true:=by rfl)
  (hs:∀x,foldedSetIterable iter X.e x=pure x:=by intro _;rfl) (P:X.N[i]? = some x:=by rfl) (hx:Loc X.e.scope x:=by first|exact Or.inl rfl|exact Or.inr rfl)
  (hf:X.fn x=true\/X.e.scope.names.lookup x=some .local:=by first|exact .inl rfl|exact .inr rfl|assumption) :
  PS X (.Assign [.Name x px] (.ListComp t [⟨tg,iter,ifs,0⟩] G M) spos) (k4 X.K (aS i (eV f))):=by
 intro z s J H D I ⟨F,m,L,S,fl,L',N,r,l,h,k⟩;obtain⟨d,S1,e1,h⟩:=af h;cases h;obtain⟨v,S2,e2,e3⟩:=af e1;cases e3;rw[exec_Assign_Name_used _ _ _ _ E];refine ab (vY (ab ?_));show wpAny _ _ (do let _ <- comprehension (.ListComp t [⟨tg,iter,ifs,0⟩] G M) G X.e _ (newList []) false (eval iter X.e) (some (assign (.Name x px) X.e))) _ _ s;obtain⟨wi,hi,W⟩:=W;obtain⟨ok,T,S3,ds,rfl,u,hw,e4⟩:=W J H F m L S v _ r l e2;refine ab (cy (mQ (use:=some (assign (.Name x px) X.e)) (k:=λ_ R=>SP X z D .next R) B c hi hg hc he o hs I r l hw u e4 λp F' m' H' sx C xs I' Z r0 f hC h0 h1 h2 h3 hz=>?_) (λ_ R hq=>ah (ah hq)) λ_ _ e=>e);obtain⟨mC,A⟩:=hz;obtain⟨Q,r',rp⟩:=vw Z r0 f;refine BG (qJ I' hN P hx (v:=.ref p) rfl (λR K j=>?_) hf);refine⟨mC,?_,λh' sb=>⟨_,H',K.letGo sb hC h0 h1 h2 h3,k _ _ m' H' Q r' ((l.mono Q).set (d:=.p (.lst ds)) rp i)⟩⟩;obtain⟨a,V,w⟩:=j;refine A.sameBut V ?_;rcases w with w|w
 .rw [w];exact h1
 .exact aK (h2 x a w)
end
end Ev
namespace Ev
open PySem PySem.Spec PyProof.Rows L2
section
variable{X:Cx}{a b e:Expr}{es:Ab}{t z:EV}{fs:jx}{N p:Pos}
noncomputable def w9:P->Option P
 | .int i=>some (.int (-i))
 |_=>none
theorem Om(f:O X a (tV X.K t)):O X (.UnaryOp .USub a N) (tV X.K (KU w9 t)):=(Mg Iy f).imp' λJ H Q z=>by
 obtain⟨F,m,L,S,d,w,r,l,q,k⟩:=z;obtain⟨x,u,n,q⟩:=af q;cases x with
 |int i=>cases q;exact⟨F,m,L,S,_,_,r,l,n,λv h b e s c p=>⟨i,p,k _ h b e s c rfl⟩⟩
 |_=>cases q
noncomputable def jO:List P->Option P
 | [.int i]=>some (.int i)
 | [.bl b]=>some (.int (if b then 1 else 0))
 |_=>none
theorem OZ{K:FG}{F:Aa}{H:Y}{d h:P}{xs:List V}(r:b7 K F H [d,h] xs):∃x y,xs=[x,y]/\RP K F H d x/\RP K F H h y:=by obtain⟨x,k,rfl,p,e⟩:=r;obtain⟨y,s,rfl,a,n⟩:=e;cases (show s=[] from n);exact⟨x,y,rfl,p,a⟩
theorem uT{K:FG}{F:Aa}{H:Y}{d:P}{xs:List V}(r:b7 K F H [d] xs):∃x,xs=[x]/\RP K F H d x:=by obtain⟨x,h,rfl,p,a⟩:=r;cases (show h=[] from a);exact⟨x,rfl,p⟩
theorem G':dL X (.type "int") (rC X.K jO):=by
 intro B s J H xs u Q I r h;obtain⟨F,e,d,f,a,q,k⟩:=h;unfold jO at q;split at q
 .cases q;obtain⟨x,rfl,p⟩:=uT a;exact ri B s J H _ u Q I r (.inl ⟨_,by rw[show x=_ from p],k _ F H .refl rfl⟩)
 .cases q;obtain⟨x,rfl,p⟩:=uT a;exact ri B s J H _ u Q I r (.inr ⟨_,by rw[show x=_ from p],k _ F H .refl rfl⟩)
 .cases q
noncomputable def Ef:EE:=λ_ S=>some (.ref S.length,S++[.dct [] []])
theorem B5:O X (.Dict [] [] N) (tE X.K Ef):=C4.imp' λJ H Q z=>by obtain⟨F,m,L,S,d,x,r,l,q,k⟩:=z;cases q;intro p h;refine k (.ref p) F (m++[p]) _ (dU h) (r.own h ⟨[],aJ,rfl,rfl⟩) ⟨p,rfl,?_⟩;rw[<- r.len,bU (ag _)];simp
noncomputable def w8(k:dJ)(v:D):List dJ->List D->List dJ×List D
 |h::s,w::x=>if h=k then (h::s,v::x) else (h::(w8 k v s x).1,w::(w8 k v s x).2)
 |_,_=>([k],[v])
noncomputable def uX(d:D)(S:aL):Option (Nat×List dJ×List D):=match d with
 | .ref i=>match S[i]? with
  |some (.dct k T)=>some (i,k,T)
  |_=>none
 |_=>none
theorem tK(h:uX v S=some (i,u,T)):v=.ref i/\S[i]? = some (.dct u T):=by
 unfold uX at h;split at h
 .split at h
  .rename_i e;cases h;exact⟨rfl,e⟩
  .cases h
 .cases h
def IT(o:EE)(k v:EV):ES:=λL S=>bO (v L S) λy x=>bO (o L x) λd a=>bO (k L a) λz h=>match uX d h,gu z with
 |some (i,s,T),some e=>if (s.Nodup/\few s=true) then some (.nx,L,h.set i (.dct (w8 e (.p y) s T).1 (w8 e (.p y) s T).2)) else none
 |_,_=>none
theorem qL{K:FG}{F:Aa}{H:Y}{m:List Addr}{k:dJ}{y:D}{u:V}(t:RD K F H m y u):∀{v:List (dJ×V)}{s:List D},(v.map (·.1)).Nodup->cQ K F H m s (v.map (·.2)) ->
  (putK v k u).map (·.1)=(w8 k y (v.map (·.1)) s).1/\cQ K F H m (w8 k y (v.map (·.1)) s).2 ((putK v k u).map (·.2))
 | [],s,_,r=>by have:s=[]:=hV r.length;subst this;exact⟨rfl,u,[],rfl,t,rfl⟩
 |(h,w)::v,[],_,r=>by have:=r.length;simp at this
 |(h,w)::v,d::s,i,r=>by
  obtain⟨x,G,e,E,j⟩:=r;rw[aF]at e i;injection e with o S;subst o;subst S;obtain⟨p,g⟩:=b8.mp i;simp only[aF,w8];by_cases n:h=k
  .subst n;rw[ai rfl];have f:putK ((h,w)::v) h u=(h,u)::v:=by
    unfold putK;rw[ai (by simp)];rw[aF,ai rfl];congr 1;have:∀l:List (dJ×V),h ∉ l.map (·.1)->l.map (λa=>if a.1=h then (a.1,u) else a)=l:=by
     intro l;induction l with
     |nil=>intro _;rfl
     |cons q l C=>
      intro b;rw[aF]at b;have P:¬q.1=h:=λz=>b (by rw[<- z];exact aO)
      rw[aF,al P,C λz=>b (aR _ z)]
    exact this v p
   rw[f];exact⟨rfl,u,_,rfl,t,j⟩
  .rw [al n];obtain⟨A,B⟩:=qL t g j;have f:putK ((h,w)::v) k u=(h,w)::putK v k u:=by
    unfold putK;rw[fN,cw (show ¬(h,w).1=k from n),lg];by_cases c:(v.any λa=>decide (a.1=k))=true
    .rw [ai c,ai c,aF,al (show ¬(h,w).1=k from n)]
    .rw [al c,al c];rfl
   rw[f,aF,aF,A];exact⟨rfl,w,_,rfl,E,B⟩
theorem N5{o i g:Expr}{h:EE}{r k:EV}{G:Pos}(hu:X.A.units+1 < cLine)(ho:O X o (tE X.K h))(hi:O X i (tV X.K r))(hv:O X g (tV X.K k))(hs:swapsWith g (some (.Subscript o i G)) N.line X.e=pure false:=by rfl) :
  PS X (.Assign [.Subscript o i G] g N) (k4 X.K (IT h r k)):=(zv hu ho hi hv hs).imp' λD J H hz=>by
 obtain⟨F,m,L,S,fl,L',S',e,l,q,s⟩:=hz;obtain⟨y,M,e1,q⟩:=af q;obtain⟨d,Q,e2,q⟩:=af q;obtain⟨z,R,e3,q⟩:=af q;refine⟨F,m,L,S,y,M,e,l,e1,λv I m1 H1 u r1 p1=>?_⟩;refine⟨I,m1,L,M,d,Q,r1,l.mono u,e2,λx F2 m2 H2 K r2 p2=>?_⟩;refine⟨F2,m2,L,Q,z,R,r2,(l.mono u).mono K,e3,λw b p c P E p3=>?_⟩;cases B:uX d R with
 |none=>rw[B]at q;cases q
 |some t=>
  obtain⟨j,ks,T⟩:=t;rw[B]at q;cases A:gu z with
  |none=>rw[A]at q;cases q
  |some f=>
   rw[A]at q;dsimp only at q;split at q
   .rename_i Z;cases q;obtain⟨rfl,es⟩:=tK B;obtain⟨a,rfl,C⟩:=RD.mono P p2;obtain⟨n,W,hk,rs⟩:=E.obj j a _ C es;subst hk;have pv:RD X.K b c p (.p y) v:=RD.mono P (RD.mono K (show RD X.K I H1 m1 (.p y) v from p1));obtain⟨h1,h2⟩:=qL (k:=f) pv Z.1 rs;cases (gS A p3);have nt:∀zs,c a≠some (.tup zs):=λzs z=>by rw[W]at z;cases z
    have st:Stp b p c b p (bN c a (.dK (putK n f v))):=fm E C es trivial nt;have hl:n.length < sizeLine:=by have V:(n.map (·.1)).length≤1000000:=bu Z.2;rw[aU]at V;exact j5 V (by decide)
    refine⟨a,_,rfl,vL.k W hl,?_⟩;exact s J b p _ (u.trans (K.trans (P.trans st))) (E.set C es trivial nt ⟨_,aJ,h1,cQ.mono st h2⟩) (((l.mono u).mono K).mono (P.trans st))
   .cases q
end
section
variable{X:Cx}{a b c e:Expr}{es:Ab}{t z l:EV}{fs:jx}{N p:Pos}
abbrev Ba:P->P->Option P:=Qr
theorem MC(_:X.A.units+1 < cLine):nR X (compareOp .Eq) Ba:=Pf
@[simp] def gv(a:EV)(L:Lc)(S:aL):Aw:=bO (a L S) λv h=>match v with
 | .lst xs=>some (xs,h)
 | .ro xs=>some (xs,h)
 | .tup xs=>some (xs,h)
 |_=>none
theorem iS{M iter:Expr}(h:O X iter (tV X.K t)):PI X M iter (tI X.K (gv t)):=by
 intro B s J H R I ⟨F,m,L,S,T,W,r,l,q,k⟩;obtain⟨v,K,Z,q⟩:=af q;refine cK (h B s J H (λx n=>∃c g,Stp F m H c g n/\Rel X.K c n g K/\RP X.K c n v x) I ⟨F,m,L,S,v,K,r,l,Z,λx c g n f C y=>⟨c,g,f,C,y⟩⟩) λu f A=>?_
 obtain⟨x,n,d,G,c,g,st,C,y⟩:=A;have mk:∀{D:It},H_ X.K D T c g n->K=W->R D n:=λit e=>by subst e;exact k _ c g n st C it
 have i:∀{a:Addr}{xs:List V},x=.ref a->fG X.K n a xs->R (No X.K a) n->wx X (pyIter u) (Nj X B J M R) X.xe f:=λ{a xs} e hq q=>by
  subst e;cases G;obtain⟨j,rv,p,A⟩:=d.list hq;refine rX p.isList ?_;refine⟨f.heap.objs.size,[f.heap.objs.size],_,_,n,rfl,d.kept (t':=f.toks) λb o e=>aV _ e,qI a _,⟨_,bP _ rfl,rfl,rfl⟩,λb P=>?_,q⟩;have e:b=f.heap.objs.size:=by simpa using P
  subst e;exact d.fpOk (ag _) (d.h.fresh (ag _))
 cases v with
 |lst E=>cases q;obtain⟨a,xs,rfl,w,z⟩:=y;exact i rfl w.sq (mk (DN (λN m2 Q s=>(w.kp s.kp).sq) z) rfl)
 |ro E=>cases q;obtain⟨a,xs,rfl,w,z⟩:=y;exact i rfl w.sq (mk (DN (λN m2 Q s=>(w.kp s.kp).sq) z) rfl)
 |tup E=>
  cases q;obtain⟨a,xs,rfl,w,z⟩:=y;cases G;obtain⟨j,rv,pp,A⟩:=d.tuple w.sq;refine rZ (show f.heap.IsTuple a j.toArray from pp) ?_;refine⟨f.heap.objs.size,[f.heap.objs.size],_,_,n,rfl,d.kept (t':=f.toks) λb o e=>aV _ e,wf a _,⟨_,bP _ rfl,rfl,rfl⟩,λb P=>?_,mk (J0 w z) rfl⟩;have e:b=f.heap.objs.size:=by simpa using P
  subst e;exact d.fpOk (ag _) (d.h.fresh (ag _))
 |_=>cases q
end
section
variable{X:Cx}{N p:Pos}
end
noncomputable def di:Nat->P->Bool
 |_,.non=>true
 |_,.bl _=>true
 |_,.int _=>true
 |_,.str x=>aA x
 |n+1,.tup xs=>xs.all (di n)
 |n+1,.lst xs=>xs.all (di n)
 |n+1,.ro xs=>xs.all (di n)
 |_,_=>false
variable{n:Nat}
theorem oO:∀{s:List P},(∀d ∈ s,(pd d).canLay0=true/\(pd d).depth≤n)->k_ (gq s)=true/\jT (gq s)≤n
 | [],_=>⟨rfl,b9 _⟩
 |d::r,h=>by obtain⟨⟨p,a⟩,q⟩:=List.forall_mem_cons.mp h;obtain⟨x,e⟩:=oO q;exact⟨by simp only[gq,k_,p,x,x'],by simp only[gq,jT];lia⟩
theorem fw:∀(n:Nat)(p:P),di n p=true->(pd p).canLay0=true/\(pd p).depth≤n
 |_,.non,_=>⟨rfl,b9 _⟩
 |_,.bl _,_=>⟨rfl,b9 _⟩
 |_,.int _,_=>⟨rfl,b9 _⟩
 |n,.str x,h=>⟨by cases n<;>exact h,b9 _⟩
 |n,.dct _ _,h=>by cases n<;>cases h
 |n,.obj _ _ _,h=>by cases n<;>cases h
 |0,.tup _,h=>by cases h
 |0,.lst _,h=>by cases h
 |0,.ro _,h=>by cases h
 |n+1,.tup s,h=>by obtain⟨a,b⟩:=oO λd hd=>fw n d (be.mp h d hd);exact⟨a,by simp only[pd,k8];lia⟩
 |n+1,.lst s,h=>by obtain⟨a,b⟩:=oO λd hd=>fw n d (be.mp h d hd);exact⟨a,by simp only[pd,k8];lia⟩
 |n+1,.ro s,h=>by obtain⟨a,b⟩:=oO λd hd=>fw n d (be.mp h d hd);exact⟨a,by simp only[pd,k8];lia⟩
theorem i_(h:di 20 p=true):xn (pd p)=true:=by obtain⟨x,a⟩:=fw 20 p h;unfold xn;rw[x,sf];exact jy (by lia)
section
variable{X:Cx}{B:PN}{J:L2.St}{H:Y}{s:Shared}{F:Aa}
theorem h7(o:∀{p:P}{v:V}{u:Value},RP X.K F H p v->RelV v u->di n p=true->∃a,Reads s.heap u (pd p) a) :
  ∀{k:List P}{xs:List V}{f:LV},b7 X.K F H k xs->bb xs f->(∀d ∈ k,di n d=true)->∃a,ReadsAll s.heap f (gq k) a
 | [],xs,f,r,v,_=>by cases (show xs=[] from r);cases v;exact⟨_,.nil⟩
 |d::k,xs,f,r,v,h=>by
  obtain⟨x,g,rfl,p,r⟩:=r;cases v with
  |cons t m=>obtain⟨a,q⟩:=o p t (h d (.head _));obtain⟨w,c⟩:=h7 o r m λe b=>h e (.tail _ b);exact⟨_,.cons q c⟩
theorem gb(I:Inv X B J H s):∀(n:Nat){p:P}{v:V}{u:Value},RP X.K F H p v->RelV v u->di n p=true->∃w,Reads s.heap u (pd p) w:=by
 intro n;induction n with
 |zero=>
  intro p v u r k h;cases p with
  |non=>cases (show v=.non from r);cases k;exact⟨_,.none⟩
  |bl b=>cases (show v=.bl b from r);cases k;exact⟨_,.bool b⟩
  |int i=>cases (show v=.int i from r);obtain⟨t,rfl⟩:=k;exact⟨_,.int i t⟩
  |str x=>cases (show v=.str x from r);obtain⟨t,rfl⟩:=k;exact⟨_,.str x t⟩
  |_=>simp[di]at h
 |succ n y=>
  intro p v u r k h;cases p with
  |non=>cases (show v=.non from r);cases k;exact⟨_,.none⟩
  |bl b=>cases (show v=.bl b from r);cases k;exact⟨_,.bool b⟩
  |int i=>cases (show v=.int i from r);obtain⟨t,rfl⟩:=k;exact⟨_,.int i t⟩
  |str x=>cases (show v=.str x from r);obtain⟨t,rfl⟩:=k;exact⟨_,.str x t⟩
  |dct K T=>simp[di]at h
  |obj c K T=>simp[di]at h
  |tup z=>obtain⟨a,xs,rfl,l,j⟩:=r;cases k;obtain⟨g,f,⟨o,e,c,m,d⟩,S⟩:=I.tuple l.sq;obtain⟨w,q⟩:=h7 y j f (by simpa[di] using h);rw[pd];exact⟨w,reads_tuple_at e c d (by simpa using q)⟩
  |lst z=>obtain⟨a,xs,rfl,l,j⟩:=r;cases k;obtain⟨g,f,⟨o,m,e,c,_,d⟩,S⟩:=I.list l.sq;obtain⟨w,q⟩:=h7 y j f (by simpa[di] using h);rw[pd];exact⟨_,r_ e c d (by simpa using q)⟩
  |ro z=>obtain⟨a,xs,rfl,l,j⟩:=r;cases k;obtain⟨g,f,⟨o,m,e,c,_,d⟩,S⟩:=I.list l.sq;obtain⟨w,q⟩:=h7 y j f (by simpa[di] using h);rw[pd];exact⟨_,r_ e c d (by simpa using q)⟩
end
noncomputable def qo(f:D->Option P):List D->Option (List P)
 | []=>some []
 |d::r=>(f d).bind λv=>(qo f r).map λT=>v::T
def fq(S:aL):Nat->D->Option P
 |_,.p v=>some v
 |0,.ref _=>none
 |n+1,.ref i=>match S[i]? with
  |some (.lst d)=>(qo (fq S n) d).map .lst
  |some (.fz v)=>some v
  |_=>none
@[simp] theorem wv(S:aL)(n:Nat)(v:P):fq S n (.p v)=some v:=by cases n<;>rfl
section
variable{X:Cx}{B:PN}{J:L2.St}{H:Y}{s:Shared}{F:Aa}{m:List Addr}{S:aL}
theorem pK(o:∀{d:D}{v:V}{u:Value}{p:P},RD X.K F H m d v->RelV v u->fq S n d=some p->di a0 p=true->∃b,Reads s.heap u (pd p) b) :
  ∀{f:List D}{xs:List V}{c:LV}{k:List P},cQ X.K F H m f xs->bb xs c->qo (fq S n) f=some k->(∀d ∈ k,di a0 d=true)->∃b,ReadsAll s.heap c (gq k) b
 | [],xs,c,k,r,v,q,_=>by cases (show xs=[] from r);cases v;cases q;exact⟨_,.nil⟩
 |d::f,xs,c,k,r,v,q,h=>by
  obtain⟨x,A,rfl,p,r⟩:=r;obtain⟨y,i,q⟩:∃a,fq S n d=some a/\(qo (fq S n) f).map (λT=>a::T)=some k:=by
   cases e:fq S n d with
   |none=>simp[qo,e]at q
   |some a=>exact⟨a,rfl,by simpa[qo,e] using q⟩
  obtain⟨B,j,rfl⟩:∃a,qo (fq S n) f=some a/\k=y::a:=by
   cases e:qo (fq S n) f with
   |none=>rw[e]at q;cases q
   |some a=>rw[e]at q;cases q;exact⟨a,rfl,rfl⟩
  cases v with
  |cons z l=>obtain⟨b,g⟩:=o p z i (h y (.head _));obtain⟨K,t⟩:=pK o r l j λe w=>h e (.tail _ w);exact⟨_,.cons g t⟩
theorem dP(I:Inv X B J H s)(y:Rel X.K F H m S):∀(n k:Nat){d:D}{v:V}{u:Value}{p:P},RD X.K F H m d v->RelV v u->fq S n d=some p->di k p=true->∃b,Reads s.heap u (pd p) b:=by
 intro n;induction n with
 |zero=>
  intro k d v u p r x q h;cases d with
  |p w=>rw[wv]at q;cases q;exact gb I k r x h
  |ref i=>cases q
 |succ n C=>
  intro k d v u p r x q h;cases d with
  |p w=>rw[wv]at q;cases q;exact gb I k r x h
  |ref i=>
   obtain⟨a,rfl,g⟩:=r;have A:i < S.length:=by rw[<- y.len];exact(aP.mp g).1
   obtain⟨o,j⟩:∃o,S[i]? = some o:=⟨S[i],by simp[A]⟩;have l:=y.obj i a o g j;simp only[fq,j]at q;cases o with
   |fz w=>cases q;exact gb I k l x h
   |dct M t=>cases q
   |ins _ _ _=>cases q
   |dtt _ _=>cases q
   |lst t=>
    dsimp only at q;cases e:qo (fq S n) t with
    |none=>rw[e]at q;cases q
    |some Q=>
     rw[e]at q;cases q;cases k with
     |zero=>simp[di]at h
     |succ k=>obtain⟨xs,K,G⟩:=l;cases x;obtain⟨E,f,⟨o,N,z,c,_,d⟩,L⟩:=I.list (fG.of K);obtain⟨b,q⟩:=pK (a0:=k) (λr x q h=>C k r x q h) G f e (by simpa[di] using h);rw[pd];exact⟨_,r_ z c d (by simpa using q)⟩
theorem lE(l:Rel X.K F H m S)(r:RD X.K F H m u v)(q:fq S n u=some p)(k:∀xs,p≠.lst xs/\p≠.tup xs):RP X.K F H p v:=by
 cases u with
 |p w=>rw[wv]at q;cases q;exact r
 |ref i=>
  cases n with
  |zero=>cases q
  |succ n=>
   obtain⟨a,rfl,h⟩:=r;have s:i < S.length:=by rw[<- l.len];exact(aP.mp h).1
   obtain⟨o,x⟩:∃o,S[i]? = some o:=⟨S[i],by simp[s]⟩;have b:=l.obj i a o h x;simp only[fq,x]at q;cases o with
   |fz w=>cases q;exact b
   |dct c d=>cases q
   |ins _ _ _=>cases q
   |dtt _ _=>cases q
   |lst d=>
    dsimp only at q;cases e:qo (fq S n) d with
    |none=>rw[e]at q;cases q
    |some f=>rw[e]at q;cases q;exact absurd rfl (k f).1
end
inductive rEI(K:FG)(g:D->D->aL->Option P)(x:V)(y:V)(H:Y)(Q:VK):Prop
 |mk (F:Aa) (m:List Addr) (S:aL) (d:D) (e:D) (v:P) (h0_:Rel K F H m S) (h1_:RD K F H m d x) (h2_:RD K F H m e y) (h3_:g d e S=some v) (h4_:∀u F' H',Grow F H F' H'->RP K F' H' v u->Q u H'):rEI K g x y H Q
noncomputable def rE(K:FG)(g:D->D->aL->Option P):R2:=λx y H Q=>rEI K g x y H Q
@[simp] def gY(g:D->D->aL->Option P)(a b:EE)(L:Lc)(S:aL):tyV:=bO (a L S) λx e=>bO (b L e) λy h=>(g x y h).map λv=>(v,h)
section
variable{X:Cx}{a b:Expr}{t z:EE}{N:Pos}
theorem zl(h:tV X.K (gY a0 t z) J H Q):IG (rE X.K a0) (tE X.K t) (tE X.K z) J H Q:=by
 obtain⟨F,m,L,S,d,P,r,l,q,k⟩:=h;obtain⟨x,s,A,q⟩:=af q;obtain⟨y,n,B,q⟩:=af q;refine⟨F,m,L,S,x,s,r,l,A,λv i C M c I D=>?_⟩;refine⟨i,C,L,s,y,n,I,l.mono c,B,λu j f N p b E=>?_⟩;cases e:a0 x y n with
 |none=>rw[e]at q;cases q
 |some a=>rw[e]at q;cases q;exact⟨j,f,P,x,y,_,b,RD.mono p D,E,e,λw o K g G=>k w o f K (c.trans (p.trans g.stp)) (b.grow g) G⟩
theorem Lw(o:iB X (compareOp u) (rE X.K v))(x:O X a (tE X.K t))(e:O X b (tE X.K z))(m:behindInMarks u b=false):O X (.Compare a [u] [b] N) (tV X.K (gY v t z)):=
 (zx o x e m).imp' λ_ _ _ h=>zl h
theorem Ll(o:iB X (compareOp op) (rE X.K u))(c:O X a (tE X.K t))(w:O X b (tE X.K z))(g:behindInMarks op b=false):PT X (.Compare a [op] [b] N) (tQ X.K (bV (gY u t z))):=
 (zu o c w g).imp' λJ H Q h=>by
  refine zl ?_;obtain⟨F,m,L,S,d,y,r,l,q,k⟩:=h;obtain⟨x,K,f,q⟩:=af q;cases x with
  |bl b=>cases q;exact⟨F,m,L,S,_,_,r,l,f,λv e i n s j p=>⟨_,p,k e i n s j⟩⟩
  |_=>cases q
end
def Ec(x y:P):Option Bool:=match Ba x y with
 |some (.bl b)=>some b
 |_=>if (di 20 x && di 20 y)=true then some (bB (pd x) (pd y)) else none
def A1(d e:D)(S:aL):Option P:=(fq S 9 d).bind λx=>(fq S 9 e).bind λy=>(Ec x y).map .bl
def Bo(x y:P):Option Bool:=match Kq x y with
 |some (.bl b)=>some b
 |_=>if (di 20 x && di 20 y)=true then some (!PyData.eqv (pd x) (pd y)) else none
def D8(d e:D)(S:aL):Option P:=(fq S 9 d).bind λx=>(fq S 9 e).bind λy=>(Bo x y).map .bl
noncomputable def rg(c:D)(S:aL):Option (List dJ):=match c with
 | .p (.dct k _)=>some k
 | .ref i=>match S[i]? with
  |some (.dct k _)=>some k
  |some (.fz (.dct k _))=>some k
  |_=>none
 |_=>none
noncomputable def Kc(k:dJ)(s:List dJ):Bool:=s.any λh=>decide (h=k)
def Ql(d c:D)(S:aL):Option Bool:=match rg c S with
 |some s=>(fq S 9 d).bind λx=>(gu x).map λk=>Kc k s
 |none=>none
def PC(d c:D)(S:aL):Option P:=(Ql d c S).map .bl
noncomputable def zR:D->Bool
 | .p .non=>true
 |_=>false
def PB(d e:D)(_:aL):Option P:=match e with
 | .p .non=>some (.bl (zR d))
 |_=>none
def wY(d e:D)(_:aL):Option P:=match e with
 | .p .non=>some (.bl (!zR d))
 |_=>none
theorem xa(h:Ba x v=some b):(∀xs,x≠.lst xs/\x≠.tup xs)/\∀xs,v≠.lst xs/\v≠.tup xs:=by
 refine⟨λxs=>⟨λe=>?_,λe=>?_⟩,λxs=>⟨λe=>?_,λe=>?_⟩⟩
 .subst e;cases v<;>cases h
 .subst e;cases v<;>cases h
 .subst e;cases x<;>cases h
 .subst e;cases x<;>cases h
section
variable{X:Cx}
theorem MB(o:X.A.units+64 < cLine):iB X (compareOp .Eq) (rE X.K A1):=by
 intro B s J H x y v u Q I j z h;obtain⟨F,m,S,d,e,r,l,g,i,q,k⟩:=h;unfold A1 at q;cases t:fq S 9 d with
 |none=>rw[t]at q;cases q
 |some a=>
  rw[t]at q;cases p:fq S 9 e with
  |none=>rw[p]at q;cases q
  |some b=>
   rw[p]at q;simp only[li]at q;cases n:Ec a b with
   |none=>rw[n]at q;cases q
   |some c=>
    rw[n]at q;cases q;unfold Ec at n;split at n
    .rename_i G w;cases n;obtain⟨K,P⟩:=xa w;exact MC (by lia) B s J H x y v u Q I j z ⟨F,a,b,.bl c,l.ft,lE l g t K,lE l i p P,w,k⟩
    .split at n
     .rename_i f;rw[av]at f;cases n;obtain⟨D,A⟩:=dP I l 9 20 g j t f.1;obtain⟨E,C⟩:=dP I l 9 20 i z p f.2;exact eq_dataH A C (i_ f.1) (i_ f.2) o ⟨.bl _,H,I,rfl,k _ F H .refl rfl⟩
     .cases n
theorem A'(h:Kq x v=some b):(∀xs,x≠.lst xs/\x≠.tup xs)/\∀xs,v≠.lst xs/\v≠.tup xs:=by
 refine⟨λxs=>⟨λe=>?_,λe=>?_⟩,λxs=>⟨λe=>?_,λe=>?_⟩⟩
 .subst e;cases v<;>cases h
 .subst e;cases v<;>cases h
 .subst e;cases x<;>cases h
 .subst e;cases x<;>cases h
theorem Ms(o:X.A.units+64 < cLine):iB X (compareOp .NotEq) (rE X.K D8):=by
 intro B s J H x y v u Q I j z h;obtain⟨F,m,S,d,e,r,l,g,i,q,k⟩:=h;unfold D8 at q;cases t:fq S 9 d with
 |none=>rw[t]at q;cases q
 |some a=>
  rw[t]at q;cases p:fq S 9 e with
  |none=>rw[p]at q;cases q
  |some b=>
   rw[p]at q;simp only[li]at q;cases n:Bo a b with
   |none=>rw[n]at q;cases q
   |some c=>
    rw[n]at q;cases q;unfold Bo at n;split at n
    .rename_i G w;cases n;obtain⟨K,P⟩:=A' w;exact Pa B s J H x y v u Q I j z ⟨F,a,b,.bl c,l.ft,lE l g t K,lE l i p P,w,k⟩
    .split at n
     .rename_i f;rw[av]at f;cases n;obtain⟨D,A⟩:=dP I l 9 20 g j t f.1;obtain⟨E,C⟩:=dP I l 9 20 i z p f.2;exact ne_dataH A C (i_ f.1) (i_ f.2) o ⟨.bl _,H,I,rfl,k _ F H .refl rfl⟩
     .cases n
theorem lI(x:P):∀xs:List P,(gq xs).any (λy=>bB y (pd x))=xs.any λy=>bB (pd y) (pd x)
 | []=>rfl
 |y::r=>by rw[gq,fN,fN,lI x r]
theorem Dj(h:xs.all (di 19)=true):k_ (gq xs)=true/\jT (gq xs)≤20:=by have l:=fw 20 (.lst xs) h;simp only[pd,rM,k8]at l;have x:=l.2;exact⟨l.1,by lia⟩
theorem Au:(f_ u v).isSome=Kc v (u.map (·.1)):=by
 induction u with
 |nil=>rfl
 |cons p r i=>
  unfold Kc at i ⊢;by_cases h:p.1=v
  .rw [gN h,aF,fN,jy h];rfl
  .rw [f8 h,i,aF,fN,cw h];rfl
theorem Eo{K:FG}{F:Aa}{H:Y}{m:List Addr}{S:aL}{c:D}{y:V}{n:List dJ}(r:Rel K F H m S)(p:RD K F H m c y)(q:rg c S=some n):∃a k,y=.ref a/\H a=some (.dK k)/\k.map (·.1)=n:=by
 unfold rg at q;split at q
 .cases q;obtain⟨a,k,e,_,x,h,_⟩:=p;exact⟨a,k,e,x,h⟩
 .rename_i i;obtain⟨a,rfl,s⟩:=p;split at q
  .rename_i o;cases q;obtain⟨k,x,h,_⟩:=r.obj i a _ s o;exact⟨a,k,rfl,x,h⟩
  .rename_i o;cases q;obtain⟨b,k,e,_,x,h,_⟩:=r.obj i a _ s o;cases e;exact⟨a,k,rfl,x,h⟩
  .cases q
 .cases q
theorem Mx(C:X.A.units+64 < cLine):iB X (compareOp .In) (rE X.K PC):=by
 intro B s J H x y v u Q I P A h;obtain⟨F,m,S,d,e,r,l,o,K,q,k⟩:=h;unfold PC Ql at q;cases c:rg e S with
 |some D=>
  rw[c]at q;dsimp only at q;cases f:fq S 9 d with
  |none=>rw[f]at q;cases q
  |some a=>
   rw[f]at q;simp only[li]at q;cases n:gu a with
   |none=>rw[n]at q;cases q
   |some g=>rw[n]at q;cases q;obtain⟨b,i,rfl,w,p⟩:=Eo l K c;have j:RP X.K F H a x:=lE l o f λxs=>⟨λz=>(by subst z;cases n),λz=>(by subst z;cases n)⟩;cases A;cases gS n j;exact PF (by lia) I (jj.k w) P λE t=>⟨.bl _,H,t,rfl,by rw[Au,p];exact k _ F H .refl rfl⟩
 |none=>rw[c]at q;cases q
theorem Mw:iB X (compareOp .Is) (rE X.K PB):=by
 intro B s J H x y v u Q I g j h;obtain⟨F,m,S,d,e,r,o,n,t,q,k⟩:=h;unfold PB at q;split at q
 .cases q;cases (show y=.non from t);refine Jv B s J H x _ v u Q I g j ⟨rfl,?_⟩;have:decide (x=.non)=zR d:=by
   cases d with
   |ref i=>obtain⟨a,rfl,_⟩:=n;rfl
   |p w=>
    cases w with
    |non=>cases (show x=.non from n);rfl
    |bl b=>cases (show x=.bl b from n);rfl
    |int b=>cases (show x=.int b from n);rfl
    |str b=>cases (show x=.str b from n);rfl
    |obj c z T=>(obtain⟨a,C,l,f,rfl,_⟩:=n;rfl)
    |_=>(obtain⟨a,xs,rfl,_⟩:=n;rfl)
  rw[this];exact k _ F H .refl rfl
 .cases q
theorem Dh:iB X (compareOp .IsNot) (rE X.K wY):=by
 intro B s J H x y v u Q I g j h;obtain⟨F,m,S,d,e,r,o,n,t,q,k⟩:=h;unfold wY at q;split at q
 .cases q;cases (show y=.non from t);refine GB B s J H x _ v u Q I g j ⟨rfl,?_⟩;have:decide (x=.non)=zR d:=by
   cases d with
   |ref i=>obtain⟨a,rfl,_⟩:=n;rfl
   |p w=>
    cases w with
    |non=>cases (show x=.non from n);rfl
    |bl b=>cases (show x=.bl b from n);rfl
    |int b=>cases (show x=.int b from n);rfl
    |str b=>cases (show x=.str b from n);rfl
    |obj c z T=>(obtain⟨a,C,l,f,rfl,_⟩:=n;rfl)
    |_=>(obtain⟨a,xs,rfl,_⟩:=n;rfl)
  rw[this];exact k _ F H .refl rfl
 .cases q
end
noncomputable def pR:List jS->List P->Lc->Option Lc
 | [],[],L=>some L
 |g::s,v::T,L=>match g v L with
  |some h=>pR s T h
  |none=>none
 |_,_,_=>none
def bZ(g:List jS):jS:=λv L=>match v with
 | .tup T=>pR g T L
 |_=>none
theorem vh:∀{s:List jS}{T:List P}{L x:Lc},pR s T L=some x->T.length=s.length
 | [],[],_,_,_=>rfl
 | [],_::_,_,_,h=>by cases h
 |_::_,[],_,_,h=>by cases h
 |g::s,v::T,L,x,h=>by
  unfold pR at h;split at h
  .rw [aX,aX,vh h]
  .cases h
inductive gTsI(K:FG)(gs:List jS)(xs:List V)(J:L2.St)(H:Y)(Q:L2.St->Y->Prop):Prop
 |mk (F:Aa) (m:List Addr) (L:Lc) (vs:List P) (L':Lc) (h0_:RL K F H m J L) (h1_:b7 K F H vs xs) (h2_:pR gs vs L=some L') (h3_:∀J',RL K F H m J' L'->Q J' H):gTsI K gs xs J H Q
noncomputable def Q5(K:FG)(g:List jS):KL:=λxs J H Q=>gTsI K g xs J H Q
inductive GsOk(X:Cx):Ab->List jS->Prop where
 |nil:GsOk X [] []
 |cons {x:Str}{p:Pos}{es:Ab}{g:jS}{gs:List jS}:PG X (.Name x p) (gT X.K g)->GsOk X es gs->GsOk X (.Name x p::es) (g::gs)
section
variable{X:Cx}{N:Pos}
theorem qC:assignEach (.Name x p::es) v=(false,assign (.Name x p) v)::assignEach es v:=rfl
theorem GsOk.len(h:GsOk X es v)(e:Env):(assignEach es e).length=v.length/\(assignEach es e).findIdx? (·.1)=none:=by
 induction h with
 |nil=>exact⟨rfl,rfl⟩
 |cons _ _ i=>rw[qC];refine⟨by rw[aX,aX,i.1],?_⟩;simp only[sE,i.2];rfl
theorem GsOk.pgs(h:GsOk X es gs):Nk X es (Q5 X.K gs):=by
 induction h with
 |nil=>
  intro B s J H xs u Q I a ⟨F,m,L,T,e,l,r,q,k⟩;cases T with
  |nil=>cases q;cases (show xs=[] from r);exact Gw B s J H [] u Q I a ⟨rfl,k J l⟩
  |cons _ _=>cases q
 |cons g _ i=>
  intro B s J H xs u Q I a ⟨F,m,L,T,e,l,r,q,k⟩;cases T with
  |nil=>cases q
  |cons v T=>
   unfold pR at q;split at q
   .rename_i n f;obtain⟨x,c,rfl,p,r⟩:=r;refine CY g i rfl B s J H _ u Q I a ⟨x,c,rfl,F,m,L,v,n,l,p,f,λt b=>?_⟩;exact⟨F,m,n,T,e,b,r,q,k⟩
   .cases q
theorem Ke(c:X.c=true)(h:GsOk X es u):PG X (.Tuple es n N) (gT X.K (bZ u)):=
 PG.imp' (Jg c h.pgs (h.len _).1 (h.len _).2) λv J H Q z=>by
  obtain⟨F,m,L,d,x,l,p,q,k⟩:=z;cases d with
  |tup T=>obtain⟨a,xs,rfl,t,r⟩:=p;have e:=vh (show pR u T L=some x from q);exact⟨a,xs,rfl,t.sq,by rw[<- r.length];exact e,F,m,L,T,x,l,r,q,k⟩
  |_=>cases q
def Ho(K:FG)(a:Addr):It:=
 ⟨λi H=>∃xs x,fG K H a xs/\xs[i]? = some x,λi H x h=>∃p y,x=.ref p/\H p=none/\h=bN H p (.tup [.int i,y])/\∀xs,fG K H a xs->xs[i]? = some y,λi H=>∃xs,fG K H a xs/\xs.length≤i⟩
theorem Ax{P:Program}{w:World}{K:FG}{es:Ab}{n:Nat}(a e t:Addr)(C:e≠t):Turn P w K (.Tuple es n N) (Ho K a) [e,t] e (λi h=>(∃l,IsEnum h e t i l)/\h.IsListIter t a i) where
 mem:=by simp
 obj:=λi h st b p=>by
  obtain⟨⟨l,A⟩,⟨o,ho,c,d⟩⟩:=st;have:b=e\/b=t:=by simpa using p
  rcases this with rfl|rfl
  .exact⟨_,A,λv z=>by have z':Data.fields _=Data.cell v:=z;cases z'⟩
  .exact⟨o,ho,λv z=>by rw[d]at z;cases z⟩
 keep:=λi h h' st k=>by obtain⟨⟨l,A⟩,y⟩:=st;exact⟨⟨l,k e (by simp) _ A⟩,y.at λo q=>k t (by simp) o q⟩
 item:=by
  intro X hP hw hK f i B s J H E I T st hg;subst hP hw hK;obtain⟨xs,x,V,hx⟩:=hg;obtain⟨its,rv,pl,hz⟩:=I.list V;obtain⟨u,hu,ru⟩:=rv.get hx;obtain⟨⟨l,A⟩,y⟩:=st;obtain⟨f0,f1,f2,f3,f4,f5⟩:=T e (by simp);obtain⟨M,Q,g2,Z,g4,g5⟩:=T t (by simp);refine wpAny_pyNext_enum_item A y pl.isList (x:=u) (by simpa using hu) C λh1 ho1 G ht1 hz1 hk1=>?_
  refine⟨_,rfl,BU (s:={ s with heap:=h1,toks:=s.toks+1 }) ho1 λR he2 F=>?_⟩;replace F:eW e h1 R:=F;have D:e < s.heap.objs.size:=aI A;have S:∀b o,b≠e->b≠t->s.heap.get? b=some o->R.get? b=some o:=λb o b1 b2 q=>(F.2 b b1).trans (hk1 b o b1 b2 q);have L:R.get? s.heap.objs.size=some { cls:=.type "tuple",data:=.seq #[.int i s.toks,u] }:=(F.2 _ (bL D)).trans ht1;have j:H s.heap.objs.size=none:=I.h.fresh (ag _);have W:∀{b:Addr}{o:HO},H b=some o->b≠e/\b≠t:=λ{b o} q=>⟨λz=>(by rw[z,f0]at q;cases q),λz=>(by rw[z,M]at q;cases q)⟩;have g:∀b,b ∉ [e,t]->b≠e/\b≠t:=λb p=>⟨λz=>p (by simp[z]),λz=>p (by simp[z])⟩;have I':Inv X B J (bN H s.heap.objs.size (.tup [.int i,x])) { s with heap:=R,gens:=s.gens,drawn:=s.drawn,toks:=s.toks+1 }:=by
   refine I.step (ch:=[e,t]) (λb p=>?_) (λb o _ _ f q _=>S b o (g b f).1 (g b f).2 q) (λb o _ _ f q _=>⟨o.slots,S b o (g b f).1 (g b f).2 q⟩) (λb o _ q n=>?_) (λb o f q=>⟨o,S b o (g b f).1 (g b f).2 q⟩)
    (λb ys q=>?_) (λb o ys q=>?_) (λb q=>?_) (λm hm=>?_) (λb u' q=>?_) I.bare
   .have:b=e\/b=t:=by simpa using p
    rcases this with rfl|rfl
    .exact⟨f3,f1,f4,f5⟩
    .exact⟨Z,Q,g4,g5⟩
   .rw [aj (bc (aI q))];exact n
   .rw [aj (a6 q j)];exact q
   .rw [aj (a6 q j)];exact q
   .rw [aj (a6 q j)];exact q
   .obtain⟨o,es,ep,ho,r⟩:=hm;exact⟨o,es,ep,S _ o (aK f1) (aK Q) ho,r⟩
   .by_cases p:b=s.heap.objs.size
    .subst p;rw[aJ]at q;cases q;exact⟨by show 2≤sizeLine;decide,[.int i s.toks,u],.cons ⟨_,rfl⟩ (.cons ru .nil),⟨_,L,⟨rfl,_,rfl⟩,rfl⟩⟩
    .rw [aj p]at q;refine(I.h b u' q).stay (λc v f z=>S c v ?_ ?_ z) (λc z=>by rw[aj (a6 z j)];exact z) λc ys z=>by rw[aj (a6 z j)];exact z
     .rcases f with rfl|f
      .exact (W q).1
      .exact (W f).1
     .rcases f with rfl|f
      .exact (W q).2
      .exact (W f).2
  refine⟨.ref s.heap.objs.size,_,I',rfl,⟨s.heap.objs.size,x,rfl,j,rfl,λys hy=>by rw[I.list_inj hy V];exact hx⟩,⟨⟨u,by simpa using he2⟩,G.at λo q=>(F.2 t (aK C)).trans q⟩,λb p=>?_⟩;have hb':b=e\/b=t:=by simpa using p
  obtain⟨oi,hoi,_⟩:=id y;rcases hb' with rfl|rfl
  .rw [aj (bc D)];exact f0
  .rw [aj (bc (aI hoi))];exact M
 done:=by intro X hP hw hK f i B s J H E I T st hg;subst hP hw hK;obtain⟨xs,V,hx⟩:=hg;obtain⟨its,rv,pl,hz⟩:=I.list V;obtain⟨⟨l,A⟩,y⟩:=st;obtain⟨M,Q,g2,Z,g4,g5⟩:=T t (by simp);have hl:=rv.length;exact wpAny_pyNext_enum_end (I.o.hd f) A y pl.isList (by simp;lia) λh' eb=>⟨rfl,I.turned (t':=s.toks) (λb o p e=>eb b o p e) M Q Z g4 g5⟩
 self:=λ_ _ _ _ _ st h=>by obtain⟨⟨l,A⟩,_⟩:=st;exact rO A h
noncomputable def bG(k:Int):List P->List P
 | []=>[]
 |x::r=>.tup [.int k,x]::bG (k+1) r
theorem j':∀{T:List P}{k:Int}{i:Nat}{v:P},(bG k T)[i]? = some v->∃x,T[i]? = some x/\v=.tup [.int (k+i),x]
 | [],_,_,_,h=>by simp[bG]at h
 |x::r,k,0,v,h=>⟨x,rfl,by simpa[bG] using h.symm⟩
 |x::r,k,i+1,v,h=>by obtain⟨y,a,e⟩:=j' (T:=r) (k:=k+1) (i:=i) (by simpa[bG] using h);refine⟨y,by simpa using a,?_⟩;rw[e];congr 3;lia
theorem cH:∀(T:List P)(k:Int),(bG k T).length=T.length
 | [],_=>rfl
 |_::r,k=>by rw[bG,aX,aX,cH r]
@[simp] def Pr(a:EV)(L:Lc)(S:aL):Aw:=bO (a L S) λv h=>match v with
 | .lst xs=>some (bG 0 xs,h)
 | .ro xs=>some (bG 0 xs,h)
 |_=>none
theorem DO{K:FG}{F:Aa}{m:List Addr}{H:Y}{a:Addr}{T:List P}{xs:List V}(c:∀h n s,Stp F m H h n s->fG K s a xs)(r:b7 K F H T xs):H_ K (Ho K a) (bG 0 T) F m H:=by
 intro h n s st;have q:=c h n s st;have l:=r.length;refine⟨λi v e=>?_,⟨xs,q,by rw[cH,l];exact ag _⟩⟩;obtain⟨d,b,rfl⟩:=j' e;obtain⟨x,k,p⟩:=r.get b;refine⟨⟨xs,x,q,k⟩,λz w y=>?_⟩;obtain⟨u,y,rfl,f,rfl,t⟩:=y;have:y=x:=by have:=t xs q;rw[k]at this;cases this;rfl
 subst this;refine⟨h,bD f,RP.newTup f ⟨_,_,rfl,?_,_,_,rfl,RP.mono st p,rfl⟩⟩;show V.int (i:Int)=V.int (0+(i:Int));rw[cI]
theorem iE{es:Ab}{n:Nat}{a:Expr}{t:EV}{p C:Pos}(hg:Gl X "enumerate")(hm:X.g "enumerate"=none)(ha:O X a (tV X.K t))(E:starEach [a] X.e=[(false,eval a X.e)]):PI X (.Tuple es n N) (.Call (.Name "enumerate" p) [a] [] C) (tI X.K (Pr t)):=by
 intro B s J H R I ⟨F,m,L,S,T,S',r,l,q,k⟩;obtain⟨v,P,e1,q⟩:=af q;have hA:PA X [a] (pj X.K (ae t aE)):=EM ha Hl (by rw[E];rfl);refine Call_ (iu I hg hm xW (iU (cK (hA C B s J H (λxs x=>∃f c,Stp F m H f c x/\Rel X.K f x c P/\b7 X.K f x [v] xs) I ⟨F,m,L,S,[v],P,r,l,?_,λxs f c x h i o=>⟨f,c,h,i,o⟩⟩) λus h ⟨xs,x,d,M,f,c,st,i,o⟩=>?_) (by rw[E];rfl) rfl))
 .simp only[ae,aE,e1,aB]
 obtain⟨x1,rfl,G⟩:=uT o;obtain⟨u,rfl,ru⟩:=vals1 M;have A:∀{a:Addr}{xs:List V},x1=.ref a->fG X.K x a xs->R (Ho X.K a) x->wx X (call (.type "enumerate") [u]) (λv h=>wx X (pyIter v) (Nj X B J (.Tuple es n N) R) X.xe h) X.xe h:=λ{a xs} e hq q=>by
  subst e;cases ru;obtain⟨its,M,pl,hz⟩:=d.list hq;refine call_enumerate_list pl.isList λh' D z hsz hk=>?_
  refine rO D ?_;have w:∀b,h.heap.objs.size≤b->x b=none:=λb j=>d.h.fresh j;refine⟨h.heap.objs.size+1,[h.heap.objs.size+1,h.heap.objs.size],_,_,x,rfl,d.kept (t':=h.toks) hk,Ax a _ _ (bL (fU _)),⟨⟨_,D⟩,z⟩,λb j=>?_,q⟩;have y:b=h.heap.objs.size+1\/b=h.heap.objs.size:=by simpa using j
  rcases y with rfl|rfl
  .exact d.fpOk (hW _) (w _ (hW _))
  .exact d.fpOk (ag _) (w _ (ag _))
 cases v with
 |lst Z=>cases q;obtain⟨a,xs,rfl,g,K⟩:=G;exact A rfl g.sq (k _ f c x st i (DO (λQ m2 W s=>(g.kp s.kp).sq) K))
 |ro Z=>cases q;obtain⟨a,xs,rfl,g,K⟩:=G;exact A rfl g.sq (k _ f c x st i (DO (λQ m2 W s=>(g.kp s.kp).sq) K))
 |_=>cases q
end
open PySem.AutoSeq1 (wpAny_loadPart')
theorem Eu(n:Nat):(g6 n=true)=(n≤1000000):=by unfold g6;simp
variable{d:Type}{Q:d->Shared->Prop}
theorem NL(h:c=false)(k:wpAny M A b Q E s):wpAny M A (if c=true then a else b) Q E s:=by rw[h,al a8];exact k
theorem Q2(h:c=true)(k:wpAny M A a Q E s):wpAny M A (if c=true then a else b) Q E s:=by rw[h,ai rfl];exact k
theorem vn(a:Array Value)(n:Nat):∀b:Array Value,((List.replicate n a).foldl (·++·) b).size=b.size+n * a.size:=by
 induction n with
 |zero=>intro b;simp
 |succ n i=>intro b;rw[cA,ff,i,yg,sL];lia
theorem FS(l:Addr)(i:Array Value)(n:Nat)(e:Option Addr)(k:Array (OV))(x:Int)(u:Tok)(c:-1000000 < x/\x < 1000000)(m:(i.isEmpty ||x == 1)=true) :
  Meets (Builtin.«tuple.__mul__» ⟨[.ref l,.int x u],[]⟩) (λ_ R s=>s.heap.get? l=some { cls:=.type "tuple",dict:=e,data:=.seq i n,slots:=k }/\R (.ok (.ret (Value.ref l))) s):=
 .of_wp λI w A R s h=>by
  obtain⟨p,g,d,t,os⟩:=s;obtain⟨a,h⟩:=h;have f:=xm;have b:=rK
  wp_walk using iW a
  refine NL (by rw[cw (by lia),cw (by lia)];rfl) ?_
  wp_walk using iW a
  exact⟨_,rfl,h⟩
theorem FR(l:Addr)(i:Array Value)(n:Nat)(c:Option Addr)(q:Array (OV))(x:Int)(u:Tok)(H:-1000000 < x/\x < 1000000)(f:¬(i.isEmpty ||x == 1)=true)(z:i.size * x.toNat≤1000000) :
  Meets (Builtin.«tuple.__mul__» ⟨[.ref l,.int x u],[]⟩) (fun _ R s=>s.heap.get? l=some { cls:=.type "tuple",dict:=c,data:=.seq i n,slots:=q } /\
   R (.ok (.ret (Value.ref s.heap.objs.size))) { s with heap:=s.heap.push { cls:=Value.type "tuple",data:=Data.seq ((List.replicate x.toNat i).foldl (·++·) #[]) } }):=
 .of_wp λI w A R s h=>by
  obtain⟨S,g,d,K,os⟩:=s;obtain⟨a,h⟩:=h;have y:=xm;have o:=rK
  wp_walk using iW a
  refine NL (by rw[cw (by lia),cw (by lia)];rfl) ?_
  wp_walk using iW a
  have k:i.isEmpty=false:=by
   cases e:i.isEmpty with
   |false=>rfl
   |true=>rw[e]at f;simp at f
  by_cases b:x≤0
  .refine Q2 (by rw[jy b];rfl) ?_;have m:x.toNat=0:=by lia
   rw[m]at h
   wp_walk using iW a
   exact⟨_,rfl,h⟩
  .refine NL (by rw[cw b,k];rfl) ?_;have p:(i.size:Int) * x≤1000000:=by
    have:((i.size * x.toNat:Nat):Int)≤1000000:=by lia
    rw[xq,xr (by lia)]at this;exact this
   have r:¬(i.size:Int) * x > (2 ^ 63-1) / 8:=by lia
   dsimp only;rw[al r];have F:(1000000:Int)≤(sizeLine:Int):=by decide
   refine NL (show E6 _=false from cw (by lia)) ?_;have t:¬(on (λv j=>v++j) #[] (List.replicate x.toNat i)).size > sizeLine:=by
    have e:=vn i x.toNat #[];rw[e];have:x.toNat * i.size≤1000000:=by rw[oC];exact z
    have:(1000000:Nat)≤sizeLine:=by decide
    simp only[ba,ll];lia
   wp_walk using iW a
   exact⟨_,rfl,h⟩
theorem Ge(a:Int)(t:Tok)(l:Addr)(i:Array Value)(n:Nat)(x:Option Addr)(e:Array (OV)) :
  Meets (Builtin.«int.__rmul__» ⟨[.int a t,.ref l],[]⟩) (λ_ R s=>s.heap.get? l=some { cls:=.type "tuple",dict:=x,data:=.seq i n,slots:=e }/\R (.ok (.ret Value.notImplemented)) s):=
 .of_wp λI w A R s h=>by
  obtain⟨p,g,d,f,os⟩:=s;obtain⟨k,h⟩:=h
  wp_walk
  exact⟨_,rfl,h⟩
theorem AM:fillsNumberSlot (.type "tuple") "mul"=pure false:=
 PySem.fillsNumberSlot_seq (id:="tuple.__mul__") (r:=some (.builtin "tuple.__rmul__")) nZ.lookup (by decide +kernel) xP.lookup (by decide +kernel)
theorem IW:seqRepeat? (.type "tuple")=pure (some (.builtin "tuple.__mul__")):=by unfold seqRepeat?;rw[BQ (T:="tuple") (name:="__mul__") (id:="tuple.__mul__") nZ.lookup (by decide +kernel)];first|rfl|(rw[BQ (T:="tuple") (name:="__rmul__") (id:="tuple.__rmul__") xP.lookup (by decide +kernel)];rfl)
section
variable{X:Cx}
theorem w1(i:LV)(k:Nat):(List.replicate k i.toArray).foldl (·++·) #[]=(List.replicate k i).flatten.toArray:=by
 have:∀(m:Nat)(b:LV),(List.replicate m i.toArray).foldl (·++·) b.toArray=(b++(List.replicate m i).flatten).toArray:=by
  intro m;induction m with
  |zero=>intro b;simp
  |succ m x=>intro b;rw[cA,ff,List.append_toArray,x,cA,fR,fj]
 have h:=this k [];rw[fh]at h;exact h
theorem zc(r:bb xs v):∀k:Nat,bb (List.replicate k xs).flatten (List.replicate k v).flatten
 |0=>.nil
 |k+1=>by rw[cA,cA,fR,fR];exact r.append (zc r k)
theorem JS(xs:List d)(k:Nat):(List.replicate k xs).flatten.length=xs.length * k:=by
 induction k with
 |zero=>rfl
 |succ k i=>rw[cA,fR,bK,i,Nat.mul_succ];lia
def nz:P->P->Option P
 | .tup xs,.int n=>if (g6 (xs.length * n.toNat) && decide (n.natAbs < 1000000))=true then some (.tup (List.replicate n.toNat xs).flatten) else none
 |x,y=>ug x y
theorem Jy:nR X (binaryOp .Mult) nz:=by
 intro B s J H x y v u Q I L M h;obtain⟨F,z,S,d,V,E,G,q,k⟩:=h;have f:ug z S=some d->wx X (binaryOp .Mult v u) (EP X B J Q) X.xe s:=λq=>Mu B s J H x y v u Q I L M ⟨F,z,S,d,V,E,G,q,k⟩
 cases z with
 |tup j=>
  cases S with
  |int n=>
   simp only[nz]at q;split at q
   .rename_i g;rw[av,Eu]at g;have Z:=bu g.2;cases q;obtain⟨a,xs,rfl,N,C⟩:=E;cases (show y=.int n from G);cases L;obtain⟨t,rfl⟩:=M;have K:=C.length;obtain⟨i,r,⟨o,e,c,m,D⟩,hz⟩:=I.tuple N.sq;have l:=r.length;obtain⟨oc,A,ot,os⟩:=o;dsimp only at c D;subst c D;refine BS (T:="tuple") (U:="int") (by decide) ⟨_,e,rfl⟩ (λW=>oX W n t) AM xA nX IW xD.lookup
     (gL nX (oX s n t) xB (xE _ _) (Ge n t a i.toArray m A os) ⟨e,rfl,⟨_,e,rfl⟩,?_⟩)
    by_cases p:(i.toArray.isEmpty ||n == 1)=true
    .refine gL nZ ⟨_,e,rfl⟩ xN (xQ _ _) (FS a i.toArray m A os n t (by lia) p) ⟨e,⟨.ref a,H,I,rfl,k _ F H .refl ?_⟩⟩;have R:(List.replicate n.toNat j).flatten=j:=by
      rw[yd]at p;rcases p with p|p
      .have:i=[]:=by simpa using p
       have:j=[]:=hV (by rw[K,l,this];rfl);subst this;simp
      .have:n=1:=by simpa using p
       subst this;simp
     rw[R];exact⟨a,xs,rfl,N,C⟩
    .refine gL nZ ⟨_,e,rfl⟩ xN (xQ _ _) (FR a i.toArray m A os n t (by lia) p (by rw[ba,<- l,<- K];exact g.1)) ⟨e,?_⟩;rw[w1];have w:H s.heap.objs.size=none:=I.h.fresh (ag _);have P:(List.replicate n.toNat xs).flatten.length≤sizeLine:=by
      rw[JS,<- K];exact bh g.1 (by decide)
     refine⟨.ref s.heap.objs.size,_,I.laid (t':=s.toks) (o:=.tup (List.replicate n.toNat xs).flatten) (λb ob q=>aV _ q) (ag _) ⟨P,_,zc r n.toNat,mX.new _ _⟩,rfl,k _ F _ (bD w) (.newTup w (C.rep n.toNat))⟩
   .cases q
  |_=>exact f q
 |_=>exact f q
noncomputable def mU:List P->Option P
 | [.lst xs]=>some (.lst xs)
 | [.ro xs]=>some (.lst xs)
 | [.tup xs]=>some (.lst xs)
 |_=>none
noncomputable def bC:List P->Option P
 | [.lst xs]=>some (.tup xs)
 | [.ro xs]=>some (.tup xs)
 | [.tup xs]=>some (.tup xs)
 |_=>none
theorem Ey:dL X (.type "list") (rC X.K mU):=by
  intro B s J H xs u Q I r h;obtain⟨F,b,d,c,f,q,k⟩:=h;unfold mU at q;split at q;all_goals first
    |(cases q;done)
    | (cases q
       obtain⟨x,rfl,p⟩:=uT f;obtain⟨a,y,rfl,t,n⟩:=p;first
         |exact jd B s J H _ u Q I r ⟨a,y,rfl,.inl t.sq,λl e=>k _ _ _ (bE e) (.newLst e n)⟩
         |exact jd B s J H _ u Q I r ⟨a,y,rfl,.inr t.sq,λl e=>k _ _ _ (bE e) (.newLst e n)⟩)
theorem Bi:dL X (.type "tuple") (rC X.K bC):=by
  intro B s J H xs u Q I r h;obtain⟨F,b,d,c,f,q,k⟩:=h;unfold bC at q;split at q;all_goals first
    |(cases q;done)
    | (cases q
       obtain⟨x,rfl,p⟩:=uT f;obtain⟨a,y,rfl,t,n⟩:=p;first
         |exact kA B s J H _ u Q I r ⟨a,y,rfl,.inl ⟨t.sq,λl e=>k _ F _ (bD e) (.newTup e n)⟩⟩
         |exact kA B s J H _ u Q I r ⟨a,y,rfl,.inr ⟨t.sq,k _ F H .refl ⟨a,y,rfl,t,n⟩⟩⟩)
noncomputable def Ai:List P->Option P
 | [.int i]=>some (.int (if i < 0 then -i else i))
 |_=>none
theorem Ha:dL X (.builtin "abs") (rC X.K Ai):=by
 intro B s J H xs u Q I r h;obtain⟨F,e,d,f,a,q,k⟩:=h;unfold Ai at q;split at q
 .cases q;obtain⟨x,rfl,p⟩:=uT a;exact Ew B s J H _ u Q I r ⟨_,by rw[show x=_ from p],k _ F H .refl rfl⟩
 .cases q
variable{e:Expr}{es:Ab}{fs:jx}{p N:Pos}
theorem Ih(g:Gl X "list")(m:X.g "list"=none)(a:PA X (e::es) (pj X.K fs))(x:starEach (e::es) X.e=(false,eval e X.e)::starEach es X.e)(h:(backTo N (starEach es X.e)).any (·.1)=false) :
  O X (.Call (.Name "list" p) (e::es) [] N) (tV X.K (aN mU fs)):=wd Ey g m og a (by decide) (by decide) x h
theorem FJ(g:Gl X "tuple")(m:X.g "tuple"=none)(a:PA X (e::es) (pj X.K fs))(x:starEach (e::es) X.e=(false,eval e X.e)::starEach es X.e)(h:(backTo N (starEach es X.e)).any (·.1)=false) :
  O X (.Call (.Name "tuple" p) (e::es) [] N) (tV X.K (aN bC fs)):=wd Bi g m x8 a (by decide) (by decide) x h
theorem Lo(g:Gl X "abs")(m:X.g "abs"=none)(a:PA X (e::es) (pj X.K fs))(x:starEach (e::es) X.e=(false,eval e X.e)::starEach es X.e)(h:(backTo N (starEach es X.e)).any (·.1)=false) :
  O X (.Call (.Name "abs" p) (e::es) [] N) (tV X.K (aN Ai fs)):=B6 Ha g m Fy a (by decide) (by decide) x h
@[simp] def lU(r:EE)(a:EV)(L:Lc)(S:aL):uL:=bO (r L S) λd h=>match d4 d h with
 |none=>none
 |some _=>bO (a L h) λx e=>match d4 d e,x with
  |some (i,s),.lst y=>if g6 (s.length+y.length)=true then some (.p .non,e.set i (.lst (s++y.map .p))) else none
  |_,_=>none
def Eh(r:EE):EE:=λL S=>bO (r L S) λd h=>match d4 d h with
 |some (i,_)=>some (.p .non,h.set i (.lst []))
 |none=>none
end
section
variable{X:Cx}{o e:Expr}{h q:EE}{t:EV}{j C N:Pos}
theorem FO(ho:O X o (tE X.K h))(he:O X e (tV X.K t))(G:starEach [e] X.e=[(false,eval e X.e)])
  (f:attributeBase o "extend" X.e (eval o X.e)=eval o X.e) (c:(j.endLine == C.line)=true):O X (.Call (.Attribute o "extend" j) [e] [] C) (tE X.K (lU h t)):=
 (HB n_ xH PySem.F.type_list_extend AN ho (dI he fH (by rw[G];rfl)) f (by rw[G];rfl) c (by rw[G];rfl) rfl).imp' λJ H Q hz=>by
  obtain⟨F,m,L,S,d,S',r,l,q,k⟩:=hz;obtain⟨x,D,e1,q⟩:=af q;refine⟨F,m,L,S,x,D,r,l,e1,λv F1 m1 H1 Z V T=>?_⟩;cases E:d4 x D with
  |none=>rw[E]at q;cases q
  |some z=>
   obtain⟨i,ds⟩:=z;rw[E]at q;dsimp only at q;obtain⟨rfl,es⟩:=h_ E;obtain⟨a,rfl,hm⟩:=id T;obtain⟨xs,hH,rs⟩:=V.obj i a _ hm es;refine⟨.inl ⟨rfl,xs,fG.of hH⟩,?_⟩;obtain⟨y,N,e2,q⟩:=af q;refine⟨F1,m1,L,D,y,N,V,l.mono Z,e2,λu A I B s2 M p2=>?_⟩;cases s:d4 (.ref i) N with
   |none=>rw[s]at q;cases q
   |some z=>
    obtain⟨i2,ds2⟩:=z;rw[s]at q;obtain⟨e3,n⟩:=h_ s;cases e3;cases y with
    |lst ys=>
     dsimp only at q;split at q
     .rename_i hf;cases q;obtain⟨a2,e4,p⟩:=RD.mono s2 T;cases e4;obtain⟨K,w,g⟩:=M.obj i a _ p n;obtain⟨b,P,rfl,tb,W⟩:=p2;have R:∀P,B a≠some (.tup P):=λP z=>by rw[w]at z;cases z
      have st:Stp A I B A I (bN B a (.lst (K++P))):=fm M p n trivial R;refine⟨a,b,K,P,rfl,rfl,w,tb.2,by rw[<- g.length,<- W.length];exact ip hf,?_⟩;exact k .non A I _ (Z.trans (s2.trans st)) (M.set p n trivial R ⟨_,aJ,cQ.mono st (g.append (cQ.ofP W))⟩) rfl
     .cases q
    |_=>cases q
theorem Ir(P:O X o (tE X.K h))(b:attributeBase o "clear" X.e (eval o X.e)=eval o X.e)(n:(j.endLine == C.line)=true):O X (.Call (.Attribute o "clear" j) [] [] C) (tE X.K (Eh h)):=
 (Jp n_ xF PySem.F.type_list_clear Do P b n).imp' λJ H Q A=>by
  obtain⟨F,m,L,S,d,E,r,l,q,k⟩:=A;obtain⟨x,u,K,q⟩:=af q;refine⟨F,m,L,S,x,u,r,l,K,λv e p s D w B=>?_⟩;cases f:d4 x u with
  |none=>rw[f]at q;cases q
  |some z=>
   obtain⟨i,G⟩:=z;rw[f]at q;cases q;obtain⟨rfl,es⟩:=h_ f;obtain⟨a,rfl,t⟩:=id B;obtain⟨xs,c,I⟩:=w.obj i a _ t es;have g:∀y,s a≠some (.tup y):=λy z=>by rw[c]at z;cases z
   have st:Stp e p s e p (bN s a (.lst [])):=fm w t es trivial g;refine⟨.inl ⟨rfl,xs,fG.of c⟩,a,xs,rfl,rfl,c,?_⟩;exact k .non e p _ (D.trans st) (w.set t es trivial g ⟨_,aJ,rfl⟩) rfl
noncomputable abbrev vK:=Lc->aL->Option (List D×aL)
noncomputable abbrev LC:=Option (List D×aL)
inductive tDsI(K:FG)(f:vK)(J:L2.St)(H:Y)(Q:List V->Y->Prop):Prop
 |mk (F:Aa) (m:List Addr) (L:Lc) (S:aL) (ds:List D) (S':aL) (h0_:Rel K F H m S) (h1_:RL K F H m J L) (h2_:f L S=some (ds,S')) (h3_:∀xs F' m' H',Stp F m H F' m' H'->Rel K F' H' m' S'->cQ K F' H' m' ds xs->Q xs H'):tDsI K f J H Q
noncomputable def vN(K:FG)(f:vK):TA:=λJ H Q=>tDsI K f J H Q
@[simp] def dq(_L:Lc)(S:aL):LC:=some ([],S)
@[simp] def bj(a:EE)(r:vK)(L:Lc)(S:aL):LC:=bO (a L S) λx h=>bO (r L h) λxs e=>some (x::xs,e)
variable{es:Ab}{fs:vK}
theorem HW:PA X [] (vN X.K dq):=fH.imp' λJ H Q h=>by obtain⟨F,m,L,S,d,x,r,l,q,k⟩:=h;cases q;exact k [] F m H .refl r rfl
theorem Em(u:O X e (tE X.K q))(g:PA X es (vN X.K fs))(i:starEach (e::es) X.e=(false,eval e X.e)::starEach es X.e):PA X (e::es) (vN X.K (bj q fs)):=
 (dI u g i).imp' λJ H Q z=>by obtain⟨F,m,L,S,d,t,r,l,h,k⟩:=z;obtain⟨x,a,p,h⟩:=af h;obtain⟨xs,C,w,h⟩:=af h;cases h;refine⟨F,m,L,S,x,a,r,l,p,λv f j B s P o=>?_⟩;refine⟨f,j,L,a,xs,t,P,l.mono s,w,λT b y c n A K=>?_⟩;exact k (v::T) b y c (s.trans n) A ⟨v,T,rfl,RD.mono n o,K⟩
def HQ(a:vK):EE:=λL S=>bO (a L S) λxs h=>if few xs=true then some (.ref h.length,h++[.lst xs]) else none
theorem Lr(h:PA X es (vN X.K fs)):O X (.List es N) (tE X.K (HQ fs)):=(wF h).imp' λJ H Q z=>by
 obtain⟨F,m,L,S,d,u,r,l,q,k⟩:=z;obtain⟨xs,c,t,q⟩:=af q;split at q
 .rename_i v;cases q;refine⟨F,m,L,S,xs,c,r,l,t,λT x a e w f n=>⟨by rw[<- n.length];exact jL v,λp s=>?_⟩⟩;have b:Stp x a e x (a++[p]) (bN e p (.lst T)):=dU s;refine k (.ref p) x (a++[p]) _ (w.trans b) (f.own s ⟨T,aJ,cQ.mono b n⟩) ⟨p,rfl,?_⟩;rw[<- f.len,bU (ag _)];simp
 .cases q
noncomputable abbrev GF:=List D->aL->Option (D×aL)
inductive spRI(K:FG)(g:GF)(vs:List V)(H:Y)(Q:VK):Prop
 |mk (F:Aa) (m:List Addr) (ds:List D) (S:aL) (d:D) (S':aL) (h0_:Rel K F H m S) (h1_:cQ K F H m ds vs) (h2_:g ds S=some (d,S')) (h3_:∀v F' m' H',Stp F m H F' m' H'->Rel K F' H' m' S'->RD K F' H' m' d v->Q v H'):spRI K g vs H Q
noncomputable def oJ(K:FG)(g:GF):Sp:=λT H Q _=>spRI K g T H Q
@[simp] def w4(g:GF)(a:vK)(L:Lc)(S:aL):uL:=bO (a L S) λd h=>g d h
theorem Iv(G:FnOk X.p X.w X.K X.g X.b qh u f fd ps (oJ X.K a0))(A:Room u X.A)(o:Gl X x)(P:X.g x=some (.ref f))(K:em X.K (.ref f)=true)(y:Binds X.K fd ps [])
  (j:PA X (e::es) (vN X.K fs)) (h:(x == ("__debug__":Str))=false) (z:starEach (e::es) X.e=(false,eval e X.e)::starEach es X.e) (a:(backTo N (starEach es X.e)).any (·.1)=false) :
  O X (.Call (.Name x p) (e::es) [] N) (tE X.K (w4 a0 fs)):=
 (tJ G A o P K y .nil pD j h z a).imp' λJ H Q B=>by obtain⟨F,m,L,S,d,g,r,l,q,u⟩:=B;obtain⟨k,n,i,q⟩:=af q;refine⟨F,m,L,S,k,n,r,l,i,λxs b C t s I p=>?_⟩;show oJ X.K a0 (xs++[]) t Q E0;rw[dR];exact⟨b,C,k,n,d,g,I,p,q,λv c D w R M E=>u v c D w (s.trans R) M E⟩
noncomputable def AO(n:Nat):D->Bool
 | .p _=>true
 | .ref i=>decide (i < n)
def JR(n:Nat):SO->Bool
 | .lst d=>d.all (AO n)
 | .dct _ d=>d.all (AO n)
 | .fz _=>true
 | .ins _ _ d=>d.all (AO n)
 | .dtt _ d=>d.all (AO n)
def trunc(n:Nat)(S:aL):aL:=if (S.take n).all (JR n)=true then S.take n else S
@[simp] def we(g:GF)(a:vK)(L:Lc)(S:aL):tyV:=bO (a L S) λs h=>bO (g s h) λd x=>bO (jk 9 d x) λv e=>some (v,trunc h.length e)
end
section
variable{K:FG}{F:Aa}{H:Y}{m:List Addr}{S:aL}
theorem RD.low(h:RD K F H m u v)(l:AO n u=true):RD K F H (m.take n) u v:=by
 cases u with
 |p w=>exact h
 |ref i=>obtain⟨a,e,x⟩:=h;exact⟨a,e,by rw[j3 (bu l)];exact x⟩
theorem cQ.low:∀{s:List D}{xs:List V},cQ K F H m s xs->s.all (AO n)=true->cQ K F H (m.take n) s xs
 | [],_,h,_=>h
 |d::s,_,h,l=>by obtain⟨x,r,e,a,k⟩:=h;rw[oo,av]at l;exact⟨x,r,e,a.low l.1,cQ.low k l.2⟩
theorem Rel.trunc(r:Rel K F H m S)(l:n≤m.length)(h:(S.take n).all (JR n)=true):Rel K F H (m.take n) (S.take n) where
 len:=by rw[fQ,fQ,r.len]
 nd:=r.nd.sublist (yB _ _)
 obj:=λi a o x t=>by
  have q:i < n:=by have:=(aP.mp x).1;rw[fQ]at this;lia
  rw[j3 q]at x;have lo:=be.mp h o (aM t);rw[j3 q]at t;have p:=r.obj i a o x t;cases o with
  |lst d=>obtain⟨xs,s,b⟩:=p;exact⟨xs,s,b.low lo⟩
  |dct u d=>obtain⟨k,s,e,b⟩:=p;exact⟨k,s,e,b.low lo⟩
  |fz v=>exact p
  |ins c u d=>obtain⟨C,g,k,j,s,e,b⟩:=p;exact⟨C,g,k,j,s,e,b.low lo⟩
  |dtt u d=>obtain⟨k,s,e,b⟩:=p;exact⟨k,s,e,b.low lo⟩
 sep:=λi a o x t w f=>by
  have q:i < n:=by have:=(aP.mp x).1;rw[fQ]at this;lia
  rw[j3 q]at x t;exact r.sep i a o x t w f
 trk:=λa h=>r.trk a (sH h)
 ft:=r.ft
theorem Stp.trunc(s:Stp F m H u v H'):Stp F m H u (v.take m.length) H':=by
 obtain⟨n,e⟩:=s.pre;have x:v.take m.length=m:=by rw[e];simp
 rw[x];exact⟨⟨[],by simp⟩,s.oth,s.frz,s.frk,s.tup,s.trk,s.nf,λ_ h=>.inl h⟩
end
section
variable{X:Cx}{e:Expr}{es:Ab}{fs:vK}{N:Pos}
theorem FM(G:FnOk X.p X.w X.K X.g X.b qh u f fd ps (oJ X.K a0))(hr:Room u X.A)(Z:Gl X x)(hm:X.g x=some (.ref f))(hk:em X.K (.ref f)=true)(V:Binds X.K fd ps [])
  (T:PA X (e::es) (vN X.K fs)) (b:(x == ("__debug__":Str))=false) (W:starEach (e::es) X.e=(false,eval e X.e)::starEach es X.e) (w:(backTo N (starEach es X.e)).any (·.1)=false) :
  O X (.Call (.Name x p) (e::es) [] N) (tV X.K (we a0 fs)):=
 (tJ G hr Z hm hk V .nil pD T b W w).imp' λJ H Q hz=>by
  obtain⟨F,m,L,S,d,S',r,l,q,u⟩:=hz;obtain⟨z,h,I,q⟩:=af q;obtain⟨E,D,M,q⟩:=af q;obtain⟨v1,a,R,q⟩:=af q;cases q;refine⟨F,m,L,S,z,h,r,l,I,λxs B g C A K p1=>?_⟩;show oJ X.K a0 (xs++[]) C Q E0;rw[dR];refine⟨B,g,z,h,E,D,K,p1,M,λv F2 i y s2 r2 p2=>?_⟩;obtain⟨j,s3,P,l3,o⟩:=my 9 R r2 p2;have st:=s2.trans s3;have s:=K.len;by_cases c:(a.take h.length).all (JR h.length)=true
  .have t:Ev.trunc h.length a=a.take h.length:=ai c;rw[t]at u;have k:g.length≤i.length:=by
    obtain⟨nn,e⟩:=st.pre;rw[e,bK];lia
   have rt:=P.trunc (n:=h.length) (by rw[<- s];exact k) c;refine u v j (i.take g.length) y (A.trans st.trunc) ?_ o;rw[s];exact rt
  .have t:Ev.trunc h.length a=a:=al c;rw[t]at u;exact u v j i y (A.trans st) P o
end
section
variable{X:Cx}{a b c e o i g:Expr}{t z l r k:EV}{h q:EE}{N G:Pos}
def qd (i:Expr):Prop:=∀(o:Expr) (N:Pos) (e:Env) (v:Value),assign (.Subscript o i N) e v=(do
 let h <- holding [v] (eval o e)
 let iv <- holding [v,h] (eval i e)
 standAt N
 holding [v,h,iv] (setItem h iv v)
 release [v,h,iv] [])
def CB(o:EE)(k v:EV):ES:=λL S=>bO (v L S) λy x=>bO (o L x) λd a=>bO (k L a) λz h=>match d4 d h,z with
 |some (i,s),.int n=>match AU s.length n with
  |some j=>some (.nx,L,h.set i (.lst (s.set j (.p y))))
  |none=>none
 |_,_=>none
theorem cQ.setAt{K:FG}{F:Aa}{H:Y}{m:List Addr}{d:D}{v:V}(h:RD K F H m d v):∀{s:List D}{xs:List V}(j:Nat),cQ K F H m s xs->cQ K F H m (s.set j d) (xs.set j v)
 | [],_,_,r=>by cases (show _=([]:List V) from r);exact rfl
 |_::_,_,0,r=>by obtain⟨x,a,rfl,p,r⟩:=r;exact⟨v,a,rfl,h,r⟩
 |_::_,_,j+1,r=>by obtain⟨x,a,rfl,p,r⟩:=r;exact⟨x,_,rfl,p,cQ.setAt h j r⟩
theorem Lf(ho:O X o (tE X.K h))(hi:O X i (tV X.K r))(hv:O X g (tV X.K k))(hs:swapsWith g (some (.Subscript o i G)) N.line X.e=pure false)(hw:swappedStores [.Subscript o i G] g X.e=pure none)(B:qd i) :
  PS X (.Assign [.Subscript o i G] g N) (k4 X.K (CB h r k)):=(CU hv (Jh ho hi Cr (B o G X.e)) hs hw).imp' λD J H hz=>by
 obtain⟨F,m,L,S,fl,L',S',e,l,q,s⟩:=hz;obtain⟨y,Q,e1,q⟩:=af q;obtain⟨d,R,e2,q⟩:=af q;obtain⟨z,T,e3,q⟩:=af q;refine⟨F,m,L,S,y,Q,e,l,e1,λv M W H1 p r1 p1=>?_⟩;refine⟨M,W,L,Q,d,R,r1,l.mono p,e2,λx F2 m2 H2 u r2 p2=>?_⟩;refine⟨F2,m2,L,R,z,T,r2,(l.mono p).mono u,e3,λw f c b K I p3=>?_⟩;cases A:d4 d T with
 |none=>rw[A]at q;cases q
 |some t=>
  obtain⟨j,ds⟩:=t;rw[A]at q;cases z with
  |int n=>
   dsimp only at q;cases P:AU ds.length n with
   |none=>rw[P]at q;cases q
   |some E=>
    rw[P]at q;cases q;obtain⟨rfl,es⟩:=h_ A;obtain⟨a,rfl,C⟩:=RD.mono K p2;obtain⟨xs,V,rs⟩:=I.obj j a _ C es;have pv:RD X.K f b c (.p y) v:=RD.mono K (RD.mono u (show RD X.K M H1 W (.p y) v from p1));cases (show w=.int n from p3);have Z:∀zs,b a≠some (.tup zs):=λzs z=>by rw[V]at z;cases z
    have st:Stp f c b f c (bN b a (.lst (xs.set E v))):=fm I C es trivial Z;refine⟨a,xs,n,E,rfl,rfl,V,by rw[<- rs.length];exact P,?_⟩;exact s J f c _ (p.trans (u.trans (K.trans st))) (I.set C es trivial Z ⟨_,aJ,cQ.mono st (cQ.setAt pv E rs)⟩) (((l.mono p).mono u).mono (K.trans st))
  |_=>cases q
def zq(o:EE)(k v:EV):ES:=λL S=>match IT o k v L S with
 |some r=>some r
 |none=>CB o k v L S
theorem Lg(j:X.A.units+1 < cLine)(d:O X o (tE X.K h))(v:O X i (tV X.K r))(u:O X g (tV X.K k))(w:swapsWith g (some (.Subscript o i G)) N.line X.e=pure false)(hw:swappedStores [.Subscript o i G] g X.e=pure none)(t:qd i) :
  PS X (.Assign [.Subscript o i G] g N) (k4 X.K (zq h r k)):=λB s J H D I x=>by
 obtain⟨F,m,L,S,b,n,f,a,l,q,e⟩:=x;cases c:IT h r k L S with
 |some z=>
  have p:some z=some (b,n,f):=by have:=q;unfold zq at this;rw[c]at this;exact this
  cases p;exact N5 j d v u w B s J H D I ⟨F,m,L,S,b,n,f,a,l,c,e⟩
 |none=>
  have p:CB h r k L S=some (b,n,f):=by have:=q;unfold zq at this;rw[c]at this;exact this
  exact Lf d v u w hw t B s J H D I ⟨F,m,L,S,b,n,f,a,l,p,e⟩
@[simp] def pc(g n:P->P->Option P)(a b c:EV)(L:Lc)(S:aL):tyV:=bO (a L S) λx e=>bO (b L e) λy h=>match g x y with
 |some (.bl true)=>bO (c L h) λz s=>(n y z).map λv=>(v,s)
 |some (.bl false)=>some (.bl false,h)
 |_=>none
theorem vA{g i:P->P->Option P}{J:L2.St}{H:Y}{Q:VK}(h:tV X.K (pc g i t z l) J H Q):wo (rP X.K g) (rP X.K i) (tV X.K t) (tV X.K z) (tV X.K l) J H Q:=by
 obtain⟨F,m,L,S,d,S',r,a,q,k⟩:=h;obtain⟨x,A,e1,q⟩:=af q;obtain⟨y,B,e2,q⟩:=af q;refine⟨F,m,L,S,x,A,r,a,e1,λv R m1 H1 I r1 p1=>?_⟩;refine⟨R,m1,L,A,y,B,r1,a.mono I,e2,λu T o H2 M D C=>?_⟩;cases p:g x y with
 |none=>rw[p]at q;cases q
 |some e=>
  rw[p]at q;cases e with
  |bl s=>
   refine⟨T,x,y,_,D.ft,RP.mono M p1,C,p,λw c K j p3=>⟨s,p3,?_⟩⟩;have f:Stp F m H c o K:=I.trans (M.trans j.stp);have E:=D.grow j;cases s with
   |false=>rw[al a8];cases q;exact k _ c o K f E rfl
   |true=>
    rw[ai rfl];dsimp only at q;obtain⟨e,S3,e3,q⟩:=af q;refine⟨c,o,L,B,e,S3,E,a.mono f,e3,λw' V m4 H4 N G p4=>?_⟩;cases n:i y e with
    |none=>rw[n]at q;cases q
    |some z2=>rw[n]at q;cases q;exact⟨V,y,e,_,G.ft,RP.mono N (RP.grow j C),p4,n,λw2 W Z b p5=>k w2 W m4 Z (f.trans (N.trans b.stp)) (G.grow b) p5⟩
  |_=>cases q
theorem Iu(n:nR X (compareOp op) v)(o:nR X (compareOp u) g')(x:O X a (tV X.K t))(e:O X b (tV X.K z))(s:O X c (tV X.K l))(m:lastMarks [op,u] [b,c]=false) :
  O X (.Compare a [op,u] [b,c] N) (tV X.K (pc v g' t z l)):=(C7 n o x e s m).imp' λ_ _ _ h=>vA h
theorem Ie(K:nR X (compareOp op) u)(o:nR X (compareOp op') g')(g:O X a (tV X.K t))(i:O X b (tV X.K z))(j:O X c (tV X.K l))(y:lastMarks [op,op'] [b,c]=false) :
  PT X (.Compare a [op,op'] [b,c] N) (tQ X.K (bV (pc u g' t z l))):=(CQ K o g i j y).imp' λJ H Q h=>by
 refine vA ?_;obtain⟨F,m,L,S,d,B,r,e,q,k⟩:=h;obtain⟨x,C,w,q⟩:=af q;cases x with
 |bl b=>cases q;exact⟨F,m,L,S,_,_,r,e,w,λv n P f s A p=>⟨_,p,k n P f s A⟩⟩
 |_=>cases q
def wm:P->Option Bool
 | .non=>some false
 | .bl b=>some b
 | .int i=>some (i != 0)
 | .str x=>if g6 x.length=true then some ((x.length:Int) != 0) else none
 | .tup xs=>some (!xs.isEmpty)
 | .lst xs=>some (!xs.isEmpty)
 | .ro xs=>some (!xs.isEmpty)
 | .dct k _=>some (!k.isEmpty)
 | .obj _ _ _=>none
def FT:D->aL->Option Bool
 | .p v,_=>wm v
 | .ref i,S=>match S[i]? with
  |some (.lst d)=>some (!d.isEmpty)
  |some (.dct k _)=>some (!k.isEmpty)
  |some (.fz v)=>wm v
  |_=>none
@[simp] def bT(f:EE)(L:Lc)(S:aL):KW:=bO (f L S) λd h=>(FT d h).map λb=>(b,h)
theorem ig{xs:List d}{y:List L}(h:xs.length=y.length):xs.isEmpty=y.isEmpty:=by cases xs<;>cases y<;>first|rfl|simp at h
theorem zj(p:RP X.K F H w v)(h:wm w=some u):KI X.K v H u:=by
 cases w with
 |non=>cases (show v=.non from p);cases h;rfl
 |bl b=>cases (show v=.bl b from p);cases h;rfl
 |int b=>cases (show v=.int b from p);cases h;rfl
 |str x=>
  cases (show v=.str x from p);simp only[wm]at h;split at h
  .rename_i s;cases h;exact⟨ip s,rfl⟩
  .cases h
 |tup d=>obtain⟨a,xs,rfl,t,r⟩:=p;cases h;exact .inr (.inl ⟨xs,t.sq,by rw[ig r.length]⟩)
 |lst d=>obtain⟨a,xs,rfl,t,r⟩:=p;cases h;exact .inl ⟨xs,t.sq,by rw[ig r.length]⟩
 |ro d=>obtain⟨a,xs,rfl,t,r⟩:=p;cases h;exact .inl ⟨xs,t.sq,by rw[ig r.length]⟩
 |dct f d=>obtain⟨a,k,rfl,_,n,e,r⟩:=p;cases h;exact .inr (.inr ⟨k,n,by rw[<- e];cases k<;>rfl⟩)
 |obj c f d=>cases h
theorem yT(h:O X e (tE X.K q))(D:∀o,isTrue e X.e o=(do let v <- o;standAt e.pos;holding [v] (truthy v))):PT X e (tQ X.K (bT q)):=
 (CP h D).imp' λJ H Q E=>by
  obtain⟨F,m,L,S,d,M,r,l,s,k⟩:=E;obtain⟨x,P,B,s⟩:=af s;cases n:FT x P with
  |none=>rw[n]at s;cases s
  |some t=>
   rw[n]at s;cases s;refine⟨F,m,L,S,x,_,r,l,B,λv z G K I c i=>⟨_,?_,k z G K I c⟩⟩;cases x with
   |p w=>exact zj i n
   |ref j=>
    obtain⟨a,rfl,g⟩:=i;simp only[FT]at n;split at n
    .rename_i A f;cases n;obtain⟨xs,u,y⟩:=c.obj j a _ g f;exact .inl ⟨xs,fG.of u,by rw[ig y.length]⟩
    .rename_i N A f;cases n;obtain⟨b,u,C,y⟩:=c.obj j a _ g f;exact .inr (.inr ⟨b,u,by rw[<- C];cases b<;>rfl⟩)
    .rename_i w f;exact zj (c.obj j a _ g f) n
    .cases n
@[simp] def IS(g:jS)(f:EV)(L:Lc)(S:aL):zi:=bO (f L S) λv x=>match g v L with
 |some h=>some (.nx,h,x)
 |none=>none
theorem N4(d:O X e (tV X.K t))(w:PG X tg (gT X.K u))(i:swapsWithSole [tg] e N.line X.e=pure false)(hw:swappedStores [tg] e X.e=pure none)(p:(assignEach [tg] X.e).map (·.2)=[assign tg X.e]) :
  PS X (.Assign [tg] e N) (k4 X.K (IS u t)):=(CU d w i hw p).imp' λD J H z=>by
 obtain⟨F,m,L,S,A,K,P,r,l,q,k⟩:=z;obtain⟨v,b,c,q⟩:=af q;refine⟨F,m,L,S,v,b,r,l,c,λx h a n s o y=>?_⟩;cases g:u v L with
 |none=>rw[g]at q;cases q
 |some L2=>rw[g]at q;cases q;exact⟨h,a,L,v,_,l.mono s,y,g,λf j=>k f h a n s o j⟩
def ky:P->P->Option P
 | .tup [],.tup s=>some (.tup s)
 |x,y=>p0 x y
theorem Ku{M:Program}{w:World}{A:Around}{E:VP}{s:Shared}{t b:Addr}{a:LV}{Q:VP}(n:IsTup s.heap t #[])(e:IsTup s.heap b a.toArray)(h:Q (.ref b) s):wpAny (model M w) A (binaryOp .Add (.ref t) (.ref b)) Q E s:=by obtain⟨o,g,k,m,l⟩:=id n;obtain⟨p,x,f,r,c⟩:=id e;cases o;cases p;cases k;cases l;cases f;cases c;exact vT ⟨_,g,rfl⟩ ⟨_,x,rfl⟩ v9 vV rS rT (rW _ _) (tuple_addW0 t b #[] a.toArray m r _ _ _ _ rfl) ⟨g,x,h⟩
theorem Jz:nR X (binaryOp .Add) ky:=by
 intro B s J H x y v u Q I r m h;obtain⟨F,e,n,d,t,c,p,q,k⟩:=h;have o:p0 e n=some d->wx X (binaryOp .Add v u) (EP X B J Q) X.xe s:=λq=>MD B s J H x y v u Q I r m ⟨F,e,n,d,t,c,p,q,k⟩
 cases e with
 |tup f=>
  cases n with
  |tup es=>
   cases f with
   |nil=>cases q;obtain⟨a,xs,rfl,S,z⟩:=c;obtain⟨b,C,rfl,K,A⟩:=id p;cases (show xs=[] from z);cases r;cases m;obtain⟨w,l,g,_⟩:=I.tuple S.sq;obtain⟨i,P,j,_⟩:=I.tuple K.sq;cases l;exact Ku g j ⟨.ref b,H,I,rfl,k _ F H .refl p⟩
   |cons _ _=>exact o q
  |_=>cases f<;>exact o q
 |_=>exact o q
def xk(K:FG)(m:SV)(x:Str)(v:P):Prop:=∃u w,m x=some u/\RelV w u/\∀F H,RP K F H v w
theorem Ls(g:Gl X x)(h:xk X.K X.g x v)(hd:(x == ("__debug__":Str))=false):O X (.Name x N) (tV X.K (vC v)):=by obtain⟨u,w,m,r,p⟩:=h;exact xC (Gz g m r hd) p
end
section
variable{X:Cx}{a:Expr}{t:EE}{p N:Pos}
end
noncomputable def lQ(f:Str):LS->List D->Option D
 |k::h,d::s=>if k=f then some d else lQ f h s
 |_,_=>none
noncomputable def putK(f:Str):LS->LS
 | []=>[f]
 |k::s=>if k=f then k::s else k::putK f s
noncomputable def tB(f:Str)(y:D):LS->List D->List D
 | [],_=>[y]
 |k::h,d::s=>if k=f then y::s else d::tB f y h s
 |_::_,[]=>[]
def gX(K:FG)(c:Str)(C:Addr):Prop:=j6 K mainGlobals c=some (some (.ref C))
variable{K:FG}
theorem gX.inj(h:gX K c v)(x:gX K c u):v=u:=by have:=h.symm.trans x;cases this;rfl
def N3(K:FG)(A:Str->Str->Bool):Prop:=∀c f,A c f=true->∃C,gX K c C/\Cls K C/\kY K C f
section
variable{K:FG}{F:Aa}{H:Y}{m:List Addr}
theorem tP:∀{a:List (Str×V)}{s:List D}{d:D},cQ K F H m s (a.map (·.2))->lQ f (a.map (·.1)) s=some d->∃v,a.lookup f=some v/\RD K F H m d v
 | [],s,d,_,h=>by cases s<;>cases h
 |(k,x)::r,s,d,q,h=>by
  cases s with
  |nil=>cases h
  |cons w s=>
   obtain⟨y,u,e,t,p⟩:=q;simp only[aF,eZ]at e;obtain⟨rfl,rfl⟩:=e;simp only[aF,lQ]at h;split at h
   .rename_i n;cases h;subst n;exact⟨x,by simp[e_],t⟩
   .rename_i n;obtain⟨v,b,c⟩:=tP p h;exact⟨v,by rw[oz,show(f == k)=false by simpa using λz=>n z.symm];exact b,c⟩
theorem tN:∀{v:List (Str×V)},(v.map (·.1)).contains f=false->v.lookup f=none
 | [],_=>rfl
 |(k,x)::r,h=>by simp only[aF,List.contains_cons,Bool.or_eq_false_iff]at h;rw[oz,h.1];exact tN h.2
theorem CO(h:RD K F H m u v):∀{s:List (Str×V)}{d:List D},cQ K F H m d (s.map (·.2))->(iq f v s).map (·.1)=putK f (s.map (·.1))/\cQ K F H m (tB f u (s.map (·.1)) d) ((iq f v s).map (·.2))
 | [],d,n=>⟨rfl,v,[],rfl,h,rfl⟩
 |(k,x)::r,d,n=>by
  cases d with
  |nil=>cases (show _=([]:List V) from n)
  |cons p d=>
   obtain⟨z,q,e,c,a⟩:=n;simp only[aF,eZ]at e;obtain⟨rfl,rfl⟩:=e;by_cases b:k=f
   .simp only[iq,b,eL,aF,putK,tB];first|exact⟨rfl,v,_,rfl,h,a⟩|exact⟨trivial,v,_,rfl,h,a⟩
   .obtain⟨i,t⟩:=CO h a;simp only[iq,b,g7,aF,putK,tB];exact⟨by rw[i],x,_,rfl,c,t⟩
end
section
variable{X:Cx}{o e g:Expr}{f:Str}{N G j:Pos}{h k:EE}{A:Str->Str->Bool}{es:Ab}{fs:vK}
@[simp] def dW(A:Str->Str->Bool)(o:EE)(f:Str)(L:Lc)(S:aL):uL:=bO (o L S) λd h=>match d with
 | .ref i=>match h[i]? with
  |some (.ins c k s)=>if A c f=true then (lQ f k s).map λz=>(z,h) else none
  |_=>none
 | .p (.obj c k T)=>if A c f=true then (lQ f k (T.map .p)).map λz=>(z,h) else none
 |_=>none
theorem CM:∀{T:List P}{xs:List V},b7 K F H T xs->cQ K F H m (T.map .p) xs
 | [],_,h=>h
 |_::_,_,h=>by obtain⟨x,r,e,a,s⟩:=h;exact⟨x,r,e,a,CM s⟩
theorem Ov(V:N3 X.K A)(ho:O X o (tE X.K h))(hb:attributeBase o f X.e (eval o X.e)=eval o X.e):O X (.Attribute o f N) (tE X.K (dW A h f)):=(Jo ho hb).imp' λJ H Q hz=>by
 obtain⟨F,m,L,S,d,S',r,l,q,k⟩:=hz;obtain⟨x,S1,e1,q⟩:=af q;refine⟨F,m,L,S,x,S1,r,l,e1,λv b G u Z M W=>?_⟩;cases x with
 |p w=>
  cases w with
  |obj c E T=>
   obtain⟨a,C,g,s,rfl,t,y,K,rfl,R⟩:=(show RP X.K b u (.obj c E T) v from W);dsimp only at q;split at q
   .rename_i P;cases n:lQ f (s.map (·.1)) (T.map .p) with
    |none=>rw[n]at q;cases q
    |some z=>rw[n]at q;cases q;obtain⟨C',e,B,D⟩:=V c f P;cases gX.inj y e;obtain⟨v,j,I⟩:=tP (CM (m:=G) R) n;exact⟨a,C,g,s,v,rfl,K,B,D,j,k v b G u Z M I⟩
   .cases q
  |_=>cases q
 |ref i=>
  obtain⟨a,rfl,hm⟩:=W;dsimp only at q;split at q
  .rename_i c E ds hs;split at q
   .rename_i P;cases n:lQ f E ds with
    |none=>rw[n]at q;cases q
    |some z=>rw[n]at q;cases q;obtain⟨C,g,s,y,K,rfl,R⟩:=M.obj i a _ hm hs;obtain⟨C',e,B,D⟩:=V c f P;cases gX.inj y e;obtain⟨v,j,I⟩:=tP R n;exact⟨a,C,g,s,v,rfl,K,B,D,j,k v b G u Z M I⟩
   .cases q
  .cases q
@[simp] def lF(A:Str->Str->Bool)(o:EE)(f:Str)(v:EE)(L:Lc)(S:aL):zi:=bO (v L S) λy x=>bO (o L x) λd h=>match d with
 | .ref i=>match h[i]? with
  |some (.ins c k s)=>if (A c f && decide (k.length < 900))=true then some (.nx,L,h.set i (.ins c (putK f k) (tB f y k s))) else none
  |_=>none
 |_=>none
theorem Lh(hA:N3 X.K A)(ho:O X o (tE X.K h))(hv:O X g (tE X.K k))(n:swapsWith g (some (.Attribute o f G)) N.line X.e=pure false):PS X (.Assign [.Attribute o f G] g N) (k4 X.K (lF A h f k)):=(Jd ho hv n).imp' λD J H hz=>by
 obtain⟨F,m,L,S,fl,L',S',r,l,q,e⟩:=hz;obtain⟨y,Q,e1,q⟩:=af q;obtain⟨d,S2,e2,q⟩:=af q;refine⟨F,m,L,S,y,Q,r,l,e1,λv Z m1 H1 I r1 p1=>?_⟩;refine⟨Z,m1,L,Q,d,S2,r1,l.mono I,e2,λx b B t M E p2=>?_⟩;cases d with
 |p w=>cases q
 |ref i=>
  obtain⟨a,rfl,P⟩:=p2;dsimp only at q;split at q
  .rename_i c ks ds n;split at q
   .rename_i K;rw[av]at K;cases q;obtain⟨C,u,s,R,T,rfl,rs⟩:=E.obj i a _ P n;obtain⟨C',j,hc,hn⟩:=hA c f K.1;cases gX.inj R j;have hl:s.length < 1000:=by have:=bu K.2;rw[aU]at this;lia
    have V:∀W,t a≠some (.tup W):=λW z=>by rw[T]at z;cases z
    have st:Stp b B t b B (bN t a (.ins C u (iq f v s))):=fm E P n trivial V;obtain⟨i1,i2⟩:=CO (f:=f) (RD.mono st (RD.mono M p1)) (cQ.mono st rs);exact⟨a,C,u,s,rfl,T,hc,hn,hl,e J b B _ (I.trans (M.trans st)) (E.set P n trivial V ⟨C,u,_,R,aJ,i1,i2⟩) ((l.mono I).mono (M.trans st))⟩
   .cases q
  .cases q
@[simp] def fC(M:Str->Str->Option GF)(o:EE)(y:Str)(a:vK)(L:Lc)(S:aL):uL:=bO (o L S) λd h=>match d with
 | .ref i=>match h[i]? with
  |some (.ins c k _)=>match M c y with
   |some g=>if k.contains y=true then none else bO (a L h) λT x=>g (.ref i::T) x
   |none=>none
  |_=>none
 | .p (.obj c k T)=>match M c y with
  |some g=>if k.contains y=true then none else bO (a L h) λw x=>g (.p (.obj c k T)::w) x
  |none=>none
 |_=>none
def N0(X:Cx)(M:Str->Str->Option GF):Prop:=∀c y g,M c y=some g->∃C k f d p,gX X.K c C/\Cls X.K C/\Meth X.K C y f/\FnOk X.p X.w X.K X.g X.b qh k f d p (oJ X.K g)/\Room k X.A/\Binds X.K d p []
variable{M:Str->Str->Option GF}{y:Str}
theorem qP(hM:N0 X M){t:TE}{ta:TA}(b:∀C k f z o g,Cls X.K C->Meth X.K C y f->FnOk X.p X.w X.K X.g X.b qh k f z o (oJ X.K g)->Room k X.A->Binds X.K z o []->O X e (Cj C y (oJ X.K g) [] E0 (tE X.K h) (vN X.K fs))):O X e (tE X.K (fC M h y fs)):=by
 intro B s J H Q I n;obtain⟨F,m,L,S,d,S',r,l,q,k⟩:=n;obtain⟨x,G,e1,q⟩:=af q;cases x with
 |p w=>
  cases w with
  |obj c ks ws=>
   dsimp only at q;split at q
   .rename_i g hg;split at q
    .cases q
    .rename_i hk;obtain⟨T,K,e2,q⟩:=af q;obtain⟨C,kk,f,z,o,ec,hc,hm,hF,hr,hb⟩:=hM c y g hg;refine b C kk f z o g hc hm hF hr hb B s J H Q I ⟨F,m,L,S,.p (.obj c ks ws),G,r,l,e1,λv E m1 H1 A N P=>?_⟩;obtain⟨a,C',dx,j,rfl,_,u,hH,rfl,rs⟩:=(show RP X.K E H1 (.obj c ks ws) v from P);cases gX.inj ec u;refine⟨a,dx,j,rfl,hH,tN (by simpa using hk),E,m1,L,G,T,K,N,l.mono A,e2,λxs R m2 Z D r2 p2=>?_⟩;show oJ X.K g (V.ref a::(xs++[])) Z Q E0;rw[dR];exact⟨R,m2,.p (.obj c _ ws)::T,K,d,S',r2,⟨_,_,rfl,RD.mono D P,p2⟩,q,λv W m3 H3 s3 r3 p3=>k v W m3 H3 (A.trans (D.trans s3)) r3 p3⟩
   .cases q
  |_=>cases q
 |ref i=>
  dsimp only at q;split at q
  .rename_i c ks ds hs;split at q
   .rename_i g hg;split at q
    .cases q
    .rename_i hk;obtain⟨T,K,e2,q⟩:=af q;obtain⟨C,kk,f,z,o,ec,hc,hm,hF,hr,hb⟩:=hM c y g hg;refine b C kk f z o g hc hm hF hr hb B s J H Q I ⟨F,m,L,S,.ref i,G,r,l,e1,λv E m1 H1 A N P=>?_⟩;obtain⟨a,rfl,hmi⟩:=id P;obtain⟨C',dx,j,u,hH,rfl,rs⟩:=N.obj i a _ hmi hs;cases gX.inj ec u;refine⟨a,dx,j,rfl,hH,tN (by simpa using hk),E,m1,L,G,T,K,N,l.mono A,e2,λxs R m2 Z D r2 p2=>?_⟩;show oJ X.K g (V.ref a::(xs++[])) Z Q E0;rw[dR];exact⟨R,m2,.ref i::T,K,d,S',r2,⟨_,_,rfl,RD.mono D P,p2⟩,q,λv W m3 H3 s3 r3 p3=>k v W m3 H3 (A.trans (D.trans s3)) r3 p3⟩
   .cases q
  .cases q
theorem Lp(x:N0 X M)(n:O X o (tE X.K h))(a:PA X (e::es) (vN X.K fs))(s:starEach (e::es) X.e=(false,eval e X.e)::starEach es X.e)(p:(backTo N (starEach es X.e)).any (·.1)=false)
  (q:eval (.Call (.Attribute o y j) (e::es) [] N) X.e=(do
   let v <- eval o X.e
   standAt j.atName
   let (f,first) <- holding [v] (getMethod v y u)
   callWith N f first (backTo N (starEach (e::es) X.e)) (backToKw N (keywordEach [] X.e)))) :
  O X (.Call (.Attribute o y j) (e::es) [] N) (tE X.K (fC M h y fs)):=
 qP (t:=tE X.K h) (ta:=vN X.K fs) x λC k f d w g c m F r b=>Gy n c m F r b .nil pD a s p q
theorem Il(z:N0 X M)(D:O X o (tE X.K h))
  (G:eval (.Call (.Attribute o y j) [] [] N) X.e=(do
   let u <- eval o X.e
   standAt j.atName
   let (f,first) <- holding [u] (getMethod u y pl)
   callWith N f first (backTo N (starEach [] X.e)) (backToKw N (keywordEach [] X.e)))) :
  O X (.Call (.Attribute o y j) [] [] N) (tE X.K (fC M h y dq)):=
 qP (t:=tE X.K h) (ta:=vN X.K dq) z λC k f fd ps g P B w E K=>(C0 D P B w E K .nil pD G).imp' λJ H Q x=>by obtain⟨F,m,L,S,d,b,r,l,q,k⟩:=x;refine⟨F,m,L,S,d,b,r,l,q,λv s R e s' Z V=>?_⟩;obtain⟨a,p,fs,rfl,i,A,n,T,L2,S2,ds,c,r2,l2,W,I⟩:=k v s R e s' Z V;cases W;exact⟨a,p,fs,rfl,i,A,I [] n T e .refl r2 rfl⟩
@[simp] def il(g:GF)(c:Str)(a:vK)(L:Lc)(S:aL):uL:=bO (a L S) λT h=>match g (.ref h.length::T) (h++[.ins c [] []]) with
 |some (.p .non,x)=>some (.ref h.length,x)
 |_=>none
theorem Lq{C f:Addr}{o:FuncData}{K:LS}{k:Nat}{x:Str}{p:Pos}{g:GF}(M:Mk X.K C f)(G:FnOk X.p X.w X.K X.g X.b qh k f o K (oJ X.K g))(hr:Room (k+1) X.A)(hg:Gl X x)(hm:X.g x=some (.ref C))(Z:gX X.K x C)(hb:Binds X.K o K [])
  (ha:PA X (e::es) (vN X.K fs)) (i:(x == ("__debug__":Str))=false) (he:starEach (e::es) X.e=(false,eval e X.e)::starEach es X.e) (z:(backTo N (starEach es X.e)).any (·.1)=false) :
  O X (.Call (.Name x p) (e::es) [] N) (tE X.K (il g x fs)):=
 (zw M G hr hg hm hb .nil pD ha i he z).imp' λJ H Q hz=>by
  obtain⟨F,m,L,S,d,S',r,l,q,k⟩:=hz;obtain⟨T,t,R,q⟩:=af q;refine⟨F,m,L,S,T,t,r,l,R,λxs s a b s1 P p1=>λy h hy w j=>?_⟩;split at q
  .rename_i _ S2 V;cases q;have A:Stp s a b s a (bN b h (.own y)):=hZ w;have r2:Rel X.K s (bN b h (.own y)) a t:=P.new w;have u:bN b h (.own y) y=none:=by rw[aj (aK j)];exact hy
   have B:Stp s a (bN b h (.own y)) s (a++[y]) (bN (bN b h (.own y)) y (.ins C h [])):=dU u;have r3:Rel X.K s (bN (bN b h (.own y)) y (.ins C h [])) (a++[y]) (t++[.ins x [] []]):=r2.own u ⟨C,h,[],Z,aJ,rfl,rfl⟩;rw[dR];have c:(a++[y])[t.length]? = some y:=by rw[<- P.len,bU (ag _)];simp
   refine⟨s,a++[y],.ref t.length::T,_,.p .non,_,r3,⟨_,_,rfl,⟨y,rfl,c⟩,cQ.mono B (cQ.mono A p1)⟩,V,λv E m4 I D r4 p4=>⟨p4,?_⟩⟩;refine k (.ref y) E m4 I (s1.trans (A.trans (B.trans D))) r4 ⟨y,rfl,?_⟩;obtain⟨n,W⟩:=D.pre;rw[W,bw (aP.mp c).1];exact c
  .cases q
end
theorem JK(h:attributeBase o y v (eval o v)=eval o v)(e:methodCallForm (u.length+([]:List Keyword).length) (backTo N (starEach u v)) (backToKw N (keywordEach [] v))=true)(l:(j.endLine == N.line)=true) :
  eval (.Call (.Attribute o y j) u [] N) v=(do
   let ov <- eval o v
   standAt j.atName
   let (f,first) <- holding [ov] (getMethod ov y (do return (<- importBound o v).getD true))
   callWith N f first (backTo N (starEach u v)) (backToKw N (keywordEach [] v))):=by
 have x:methodCallPos true o v j N=pure N:=by unfold methodCallPos;rw[l];rfl
 have a:∀ov,methodCall o y j N v ov (u.length+([]:List Keyword).length) (backTo N (starEach u v)) (backToKw N (keywordEach [] v))=(do
   let (f,first) <- holding [ov] (getMethod ov y (do return (<- importBound o v).getD true))
   callWith N f first (backTo N (starEach u v)) (backToKw N (keywordEach [] v))):=λov=>by
  unfold methodCall;rw[e,x];rfl
 have s:eval (.Call (.Attribute o y j) u [] N) v=(do
  let ov <- attributeBase o y v (eval o v)
  standAt j.atName
  methodCall o y j N v ov (u.length+([]:List Keyword).length) (backTo N (starEach u v)) (backToKw N (keywordEach [] v))):=by rfl
 rw[s,h];simp only[a]
open PySem.W (KasT kas_sort kas_ask kas_item kat_run kat_snds kat_lt kat_kind KatTups KatLex kat_nil kat_cons kat_yes kat_no kat_one)
noncomputable def G5{d:Type}(lt:Nat->Nat->Option Bool):KasT d->Option d
 | .ret a=>some a
 | .ask i j k=>match lt i j with
  |some b=>G5 lt (k b)
  |none=>none
theorem Eb{d:Type}{lt:Nat->Nat->Option Bool}{c:Nat->Nat->(Bool->Shared->Prop)->Shared->Prop}{Q:d->Shared->Prop}{s:Shared}(x:∀i j b C,lt i j=some b->C b s->c i j C s){a:d}(q:Q a s) :
  ∀(t:KasT d),G5 lt t=some a->t.kasWp c Q s
 | .ret _,h=>by cases h;exact q
 | .ask i j k,h=>by
  simp only[G5]at h;split at h
  .rename_i b e;exact x i j b _ e (Eb x q (k b) h)
  .cases h
section
variable{I:Program}{w:World}{A:Around}{E:VP}{s:Shared}{D:Addr}{T:LV}
theorem vo(few:T.length < 2):((arrOf (SortSt.mk' general' (T.toArray.zip T.toArray) #[] 7 none)).map (·.2))=T.toArray:=by
 have same:(T.toArray.zip T.toArray).map (·.2)=T.toArray:=by
  rcases T with _|⟨v,_|⟨u,r⟩⟩
  .simp
  .simp
  .exact absurd few (by simp)
 exact same
theorem Ea(few:T.length < 2)(a:s.heap.get? D=some (seqObj "list" T.toArray v))
  (g:∀x c,(∀b o,b≠D->s.heap.get? b=some o->x.get? b=some o)->x.get? D=some (seqObj "list" T.toArray c)->u (.done (.ret .none)) { s with heap:=x }) :
  wpAny (model I w) A (Builtin.«list.sort» ⟨[.ref D],[]⟩) u E s:=by
 have m:T.length+1≤sizeLine:=by rw[jz];lia
 have cond:T.toArray.size < 2:=by simpa using few
 have h:=x2 a λ_=>(#[]:Array Value);rw[list_sort_plain];refine ab <|listItems_at a rfl <|ab <|xU a rfl (ab <|seqEpoch_at h rfl <|ab <|vZ (ab <|vW (eK ?_) (b9 _)) (by simpa using sN m)) (by simpa using sN m) (b9 _);simp only[cond,eL];have k:∀b o,(s.heap.update D (gw λ_=>(#[]:Array Value))).get? b=some o->((((s.heap.update D (gw λ_=>(#[]:Array Value))).push { cls:=.type "tuple",data:=.seq T.toArray }).push { cls:=.type "list",data:=.seq ([]:LV).toArray })).get? b=some o:=
  λ_ _ q=>aV _ (aV _ q)
 have t:=k D _ h;refine ab <|ah <|ab <|ah ?_;refine ab <|seqEpoch_at t rfl <|ab <|xU t rfl ?_ (b9 _) (by rw[vo few];simpa using yU (sN m));rw[vo few];have NZ:=x2 t λ_=>T.toArray;simp only[bne_self_eq_false,fM,g7,failedOf];refine ah (g _ _ (λb o n e=>?_) NZ);exact((k6 _ D _).2 b n).trans (k b o (((k6 s.heap D _).2 b n).trans e))
theorem vI(q:∀a u,Q a u->v a u):∀(t:KasT d)(u:Shared),t.kasWp (kas_ask I w A κ T) Q u->t.kasWp (kas_ask I w A κ T) v u
 | .ret a,u,h=>q a u h
 | .ask _ _ k,_,h=>cy h (λb u e=>vI q (k b) u e) λ_ _ x=>x
theorem F5{f:Heap}{L l:Addr}{m:SV}{d:PN}{a:String}{o:Obj}{n:Nat}{G:VP}(F:Fr f L s.heap m)(N:News f L s.heap d)(hT:a="list"\/a="tuple")(ho:s.heap.get? l=some o)(hc:o.cls=.type a)(hd:o.data=.seq T.toArray n)(C:T.length < 64)
  (h1:T.length < 2->∀D g c,s.heap.get? D=none->Fr f L g m->News f L g ((D,seqObj "list" T.toArray c)::d)->G (.ref D) { s with heap:=g })
  (h2:2≤T.length->∀D e g,s.heap.get? D=none->(∀q ∈ d,q.1≠D)->Fr f L g m->News f L g ((D,seqObj "list" #[] e)::d) ->
   wpAny (model I w) A.in1.in1 (keyKind' T.toArray) (λV u=>(kas_sort T.length).kasWp (kas_ask I w A.in1.in1 V T) (λp u=>yX f L m D e (p.toList.map λi=>T.getD i Value.none) (λu=>G (.ref D) u) u) u) (λ_ _=>False) { s with heap:=g }) :
  wpAny (model I w) A (call (.builtin "sorted") [.ref l]) G E s:=by
 have y:T.length≤sizeLine:=by rw[jz];lia
 refine Calls.call_function_entry (b:=Builtin.«sorted») kind_sorted plain_sorted entry_sorted (args_sorted1 (.ref l)) (ab (m:=checkCount "sorted" 1 1 1) <|ah <|ab <|wpAny_collect_seq l hT ho hc hd (λh k=>ab <|vW ?_ y) y);have t:∀b,b=h.objs.size->s.heap.get? b=none:=λb hb=>by
  cases q:s.heap.get? b with
  |none=>rfl
  |some u=>exact absurd (aI (k b u q)) (by rw[hb];exact gC _)
 have R:∀b u,s.heap.get? b=some u->(h.push { cls:=.type "list",data:=.seq T.toArray }).get? b=some u:=λb u e=>aV _ (k b u e);have H:(h.push { cls:=.type "list",data:=.seq T.toArray }).get? h.objs.size=some (seqObj "list" T.toArray 0):=bP _ rfl;have S:h.objs.size≠L:=λz=>by obtain⟨u,_,_,e,_⟩:=F.ns;rw[t L z.symm]at e;cases e
 have K:f.get? h.objs.size=none:=by
  rcases q:f.get? h.objs.size with _|u
  .rfl
  .have:=F.keep _ _ q;rw[t _ rfl]at this;cases this
 have neN:∀q ∈ d,q.1≠h.objs.size:=λq hq z=>by have:=(N q hq).1;rw[t _ z]at this;cases this
 have P:=F.keeps R;have B:=N.keeps R;refine ab (eK (mn (b:=Builtin.«list.sort») xY ⟨_,H,rfl⟩ xZ ?_ (args_list_sort _)));by_cases few:T.length < 2
 .refine Ea (s:={ s with heap:=h.push { cls:=.type "list",data:=.seq T.toArray } }) few H λg c Q e=>⟨_,rfl,ah ⟨_,rfl,h1 few _ g c (t _ rfl) ⟨?_,λb u q=>?_,F.above⟩ λq j=>?_⟩⟩
  .obtain⟨u,es,ep,Z,r⟩:=P.ns;exact⟨u,es,ep,Q L u S.symm Z,r⟩
  .exact Q b u (λz=>by rw[z,K]at q;cases q) (P.keep b u q)
  .rcases aW.mp j with rfl|j
   .exact⟨e,S,K⟩
   .exact⟨Q _ _ (neN q j) (B q j).1,(B q j).2⟩
 .refine PySem.W.kat_list_sort (s:={ s with heap:=h.push { cls:=.type "list",data:=.seq T.toArray } }) P B H S K neN (by lia) C λe g W X=>?_;refine cy (h2 (by lia) _ e g (t _ rfl) neN W X) (λV u hu=>?_) λ_ _ x=>x;exact vI (λp v M=>M.mono λv M=>⟨_,rfl,ah ⟨_,rfl,M⟩⟩) _ _ hu
end
noncomputable def Pm:P->P->Option Bool
 | .tup [.str a,.int i],.tup [.str b,.int j]=>some (if a=b then decide (i < j) else decide (a.cps.toList < b.cps.toList))
 |_,_=>none
noncomputable def G0:P->Bool
 | .tup [.str _,.int _]=>true
 |_=>false
theorem GZ(h:G0 v=true):∃a i,v=.tup [.str a,.int i]:=by
 unfold G0 at h;split at h
 .exact⟨_,_,rfl⟩
 .cases h
def lP(d:List P)(i j:Nat):Option Bool:=match d[i]?,d[j]? with
 |some x,some y=>Pm x y
 |_,_=>none
def m9(d:List P):Option (List P):=if d.length < 2 then some d else if d.length < 64 then (G5 (lP d) (kas_sort d.length)).bind λp=>if p.size < 64 then some (p.toList.map λi=>d.getD i .non) else none else none
def sortable(d:List P):Bool:=d.all G0
def l8(d:List P):Option P:=if sortable d=true then (m9 d).map .lst else none
def KV(h:Heap)(d:P)(v:Value):Prop:=∃x i a o n t u,d=.tup [.str x,.int i]/\v=.ref a/\h.get? a=some o/\o.cls=.type "tuple"/\o.data=.seq #[.str x t,.int i u] n
variable{L:Type}
theorem i9:∀{xs:List d}{s:List L}{i:Nat}{x:d},Paired R xs s->xs[i]? = some x->∃y,s[i]? = some y/\R x y
 |_,_,_,_,.nil,h=>by simp at h
 |_,_,0,x,.cons (b:=b) r _,h=>⟨b,rfl,by simp at h;subst h;exact r⟩
 |_,_,i+1,x,.cons _ a,h=>by obtain⟨y,e,r⟩:=i9 (i:=i) a (by simpa using h);exact⟨y,by simpa using e,r⟩
theorem gP{d L:Type}{R:d->L->Prop}:∀{xs:List d}{y:List L},Paired R xs y->xs.length=y.length
 |_,_,.nil=>rfl
 |_,_,.cons _ r=>by rw[aX,aX,gP r]
section
variable{I:Program}{w:World}{A:Around}{E:VP}{s:Shared}
theorem Hk{d:List P}{T:LV}{i j:Nat}{b:Bool}{C:Bool->Shared->Prop}(r:Paired (KV s.heap) d T)(h:lP d i j=some b)(c:C b s):kas_ask I w A (tuples' true) T i j C s:=by
 unfold lP at h;split at h
 .rename_i x y m t;obtain⟨_,u,l,p,o,D,K,G,M,rfl,rfl,g,S,n⟩:=i9 r m;obtain⟨_,v,z,q,H,E,B,L,N,rfl,rfl,f,F,k⟩:=i9 r t;cases h;unfold kas_ask;rw[bH,bH,u,v];refine kat_lt g n f k (kat_cons (BA ?_));by_cases e:l=z
  .rw [ai e]at c;rw[jy e];refine kat_yes (kat_cons (Bz ?_));by_cases a:(p == q)=true
   .rw [a];rw[cw (by rw[eq_of_beq a];exact xp _)]at c;exact kat_yes (kat_nil c)
   .rw [ye]at a;rw[a];exact kat_no (kat_one _ _ (se (show PySem.W.BoolBack C (.bool _) s from c)))
  .rw [al e]at c;rw[cw e];exact kat_no (oneLt_str c)
 .cases h
theorem vd:∀{s:List P}{T:LV},Paired (KV a0) s T->∃fs,KatTups a0 T fs/\fs.length=s.length/\∀v ∈ fs,∃x t,v=Value.str x t
 |_,_,.nil=>⟨[],.nil,rfl,λ_ z=>nomatch z⟩
 |d::s,_,.cons k r=>by
  obtain⟨fs,f,h,e⟩:=vd r;obtain⟨x,i,a,o,n,t,u,rfl,rfl,b,c,hd⟩:=k;refine⟨.str x t::fs,.cons (xs:=#[.str x t,.int i u]) b c hd rfl f,by rw[aX,aX,h],λv m=>?_⟩;rcases aW.mp m with rfl|m
  .exact⟨x,t,rfl⟩
  .exact e v m
theorem GV{d:List P}{T:LV}(r:Paired (KV s.heap) d T)(m:2≤T.length) :
  wpAny (model I w) A (keyKind' T.toArray) (λk h=>h=s/\∀i j b C,lP d i j=some b->C b h->kas_ask I w A k T i j C h) (λ_ _=>False) s:=by
 obtain⟨fs,f,x,a⟩:=vd r;refine kat_kind (T:=.type "str") f (by rw[x,gP r];lia) (λv n=>?_) rfl ⟨rfl,λi j b C e c=>Hk r e c⟩;obtain⟨i,t,rfl⟩:=a v n;exact PySem.W.Looks.of_peek (K:=[]) (λ_ _ z=>nomatch z) rfl
end
section
variable{X:Cx}
theorem DJ{B:PN}{J:L2.St}{H:Y}{s:Shared}(I:Inv X B J H s){F:Aa}:∀{e:List P}{xs:List V}{k:LV},b7 X.K F H e xs->bb xs k->sortable e=true->Paired (KV s.heap) e k
 | [],_,_,h,r,_=>by cases (show _=([]:List V) from h);cases r;exact .nil
 |d::e,_,_,h,r,q=>by
  obtain⟨x,C,rfl,v,w⟩:=h;obtain⟨g,l⟩:=Bool.and_eq_true_iff.mp (show(G0 d && sortable e)=true from q);cases r with
  |cons z S=>refine .cons ?_ (DJ I w S l);obtain⟨y,i,rfl⟩:=GZ g;obtain⟨a,D,rfl,A,_,_,rfl,f,_,_,rfl,b,c⟩:=v;cases z;cases f;cases b;cases c;obtain⟨j,K,⟨o,p,m,n,hd⟩,_⟩:=I.tuple A.sq;obtain⟨_,_,rfl,⟨t,rfl⟩,u,rfl⟩:=vals2 K;exact⟨y,i,a,o,n,t,u,rfl,rfl,p,m,hd⟩
theorem Lz(r:bb xs v)(i:Nat):RelV (xs.getD i .non) (v.getD i Value.none):=by
 rw[bH,bH];cases e:xs[i]? with
 |none=>
  have l:=gP r;have:v[i]? = none:=by rw[yK]at e ⊢;lia
  rw[this];rfl
 |some x=>obtain⟨y,h,a⟩:=i9 r e;rw[h];exact a
theorem zd{xs:List V}{t:LV}(r:bb xs t):∀p:List Nat,bb (p.map λi=>xs.getD i .non) (p.map λi=>t.getD i Value.none)
 | []=>.nil
 |i::p=>.cons (Lz r i) (zd r p)
theorem CD{K:FG}{F:Aa}{H:Y}{s:List P}{xs:List V}(r:b7 K F H s xs):∀p:List Nat,b7 K F H (p.map λi=>s.getD i .non) (p.map λi=>xs.getD i .non)
 | []=>rfl
 |i::p=>by
  refine⟨_,_,rfl,?_,CD r p⟩;show RP K F H (s.getD i P.non) (xs.getD i V.non);rw[bH,bH];cases e:s[i]? with
  |none=>
   have l:=r.length;have:xs[i]? = none:=by rw[yK]at e ⊢;lia
   rw[this];rfl
  |some d=>obtain⟨x,h,a⟩:=r.get e;rw[h];exact a
theorem qX{B:PN}{J:L2.St}{H:Y}{s:Shared}{r:Heap}{A:Nat}{m:SV}(I:Inv X B J H s)(y:s.heap.Ns X.e.locals m)(a:r.Ns X.e.locals m)(k:∀b o,b≠X.e.locals->s.heap.get? b=some o->r.get? b=some o):Inv X B J H { s with heap:=r,toks:=A }:=by
 have L:∀b u,H b=some u->b≠X.e.locals:=λb u e z=>by rw[z,I.free]at e;cases e
 refine I.step (g':=s.gens) (d':=s.drawn) (ch:=[]) (λ_ z=>nomatch z) (λb o h _ _ e _=>k b o h e) (λb o h _ _ e _=>⟨o.slots,k b o h e⟩) (λ_ _ _ _ n=>n) (λb o _ e=>?_) (λ_ _ e=>e) (λ_ _ _ e=>e) (λ_ e=>e) (λK l=>?_) (λb u e=>?_) I.bare
 .by_cases h:b=X.e.locals
  .subst h;obtain⟨P,_,_,w,_⟩:=a;exact⟨P,w⟩
  .exact⟨o,k b o h e⟩
 .obtain⟨o,es,C,S,hd,D,t⟩:=y;obtain⟨E,i,g,f,d,F,p⟩:=l;rw[S]at f;cases f;rw[hd]at d;cases d;have:m=K:=funext λx=>(t x).symm.trans (p x);rw[<- this];exact a
 .refine (I.h b u e).stay (λc v j q=>k c v ?_ q) (λ_ q=>q) λ_ _ q=>q;rcases j with z|z
  .rw [z];exact L b u e
  .exact L c _ z
theorem lR{g h x:Heap}{L:Addr}{m:SV}(k:∀b o,g.get? b=some o->h.get? b=some o)(F:Fr g L x m)(N:News g L x (mh g h L)):∀b o,b≠L->h.get? b=some o->x.get? b=some o:=λb o a e=>by
 cases q:g.get? b with
 |some u=>have:=k b u q;rw[e]at this;cases this;exact F.keep b _ q
 |none=>exact(N (b,o) (u_ a q e)).1
theorem JE{P:Program}{w:World}{H:Y}{h:Heap}{a:Addr}{o:HO}(x:cT P w H h a o):∃u,h.get? a=some u:=by
 cases o with
 |lst xs=>obtain⟨_,_,_,_,e⟩:=x;exact⟨_,e⟩
 |tup xs=>obtain⟨_,_,_,_,e,_⟩:=x;exact⟨_,e⟩
 |dK k=>obtain⟨_,_,_,_,_,_,_,e,_⟩:=x;exact⟨_,e⟩
 |dT k=>obtain⟨_,_,_,_,_,_,_,e,_⟩:=x;exact⟨_,e⟩
 |set S n=>obtain⟨_,_,_,_,e,_⟩:=x;exact⟨_,e⟩
 |ins C d fs=>obtain⟨_,_,_,e,_⟩:=x;exact⟨_,e⟩
 |own y=>exact x
 |xd fs=>obtain⟨_,⟨_,_,_,e,_⟩,_⟩:=x;exact⟨_,e⟩
 |rng lo i=>obtain⟨_,_,_,e⟩:=x;exact⟨_,e⟩
 |frz b u=>exact⟨_,x.1⟩
 |tbl=>obtain⟨_,e,_⟩:=(show qc H h a from x);exact⟨_,e⟩
 |met f y=>exact⟨_,(show h.get? a=some _ from x)⟩
 |ext s=>exact x.2.1
theorem wU{B:PN}{J:L2.St}{H:Y}{s:Shared}{D:Addr}(I:Inv X B J H s)(h:s.heap.get? D=none):H D=none:=by
 cases q:H D with
 |none=>rfl
 |some v=>obtain⟨u,e⟩:=JE (I.h D v q);rw[h]at e;cases e
theorem qW{B:PN}{J:L2.St}{H:Y}{s:Shared}{t:Heap}{S:Nat}{m:SV}{D:Addr}{u:HO}(I:Inv X B J H s)(y:s.heap.Ns X.e.locals m)(h:t.Ns X.e.locals m)(k:∀b o,b≠X.e.locals->s.heap.get? b=some o->t.get? b=some o)(j:s.heap.get? D=none)(i:cT X.p X.w (bN H D u) t D u):Inv X B J (bN H D u) { s with heap:=t,toks:=S }:=by
 have f:=wU I j;have M:∀b o,s.heap.get? b=some o->b≠D:=λb o e z=>by rw[z,j]at e;cases e
 have r:∀b v,H b=some v->b≠D:=λb v e z=>by rw[z,f]at e;cases e
 have F:=qX (A:=S) I y h k;refine I.step (g':=s.gens) (d':=s.drawn) (ch:=[]) (λ_ z=>nomatch z) (λb o L _ _ e _=>k b o L e) (λb o L _ _ e _=>⟨o.slots,k b o L e⟩) (λb o _ e n=>(aj (M b o e)).trans n) (λb o _ e=>?_) (λb xs e=>(aj (r b _ e)).trans e) (λb o v e=>(aj (r b _ e)).trans e) (λb e=>(aj (r b _ e)).trans e) (λG A=>?_) (λb v e=>?_) I.bare
 .by_cases L:b=X.e.locals
  .subst L;obtain⟨N,_,_,g,_⟩:=h;exact⟨N,g⟩
  .exact⟨o,k b o L e⟩
 .obtain⟨o,es,Q,C,hd,R,p⟩:=y;obtain⟨T,P,K,a,d,E,w⟩:=A;rw[C]at a;cases a;rw[hd]at d;cases d;have:m=G:=funext λx=>(p x).symm.trans (w x);rw[<- this];exact h
 .by_cases l:b=D
  .subst l;rw[aJ]at e;cases e;exact i
  .rw [aj l]at e;exact(F.h b v e).stay (λ_ _ _ q=>q) (λc q=>(aj (r c _ q)).trans q) λc xs q=>(aj (r c _ q)).trans q
theorem uj:dL X (.builtin "sorted") (λxs H Q=>∃F a P S b,xs=[.ref a]/\(fG X.K H a P\/jw X.K H a P)/\b7 X.K F H S P/\sortable S=true/\m9 S=some b/\∀l z,H l=none->b7 X.K F H b z->Q (.ref l) (bN H l (.lst z))):=by
 intro B s J H xs us Q I r h;obtain⟨F,a,P,S,b,rfl,G,L,hs,k,q⟩:=h;obtain⟨u,rfl,rx⟩:=vals1 r;cases rx;obtain⟨m,R⟩:=I.fr;have w:∀(T:String)(hT:T="list"\/T="tuple")(t:LV)(o:Obj)(n:Nat),bb P t->s.heap.get? a=some o->o.cls=.type T->o.data=.seq t.toArray n->wx X (call (.builtin "sorted") [.ref a]) (EP X B J Q) X.xe s:=by
  intro T hT t o n M E C hd;have hl1:=L.length;have hl2:=gP M;have y:S.length < 64:=by
   unfold m9 at k;split at k
   .lia
   .split at k
    .lia
    .cases k
  have A:∀(z:List V)(j:LV)(D:Addr)(f:Heap)(c:Nat),bb z j->b7 X.K F H b z->j.length≤64->s.heap.get? D=none->Fr X.b X.e.locals f m->News X.b X.e.locals f ((D,seqObj "list" j.toArray c)::mh X.b s.heap X.e.locals)->EP X B J Q (.ref D) { s with heap:=f }:=
   λz j D f c vz rz hz K d N=>⟨.ref D,_,qW (S:=s.toks) I R.ns d.ns (lR I.bk d λp hp=>N p (.tail _ hp)) K (show cT X.p X.w _ f _ (.lst z) from ⟨by rw[gP vz,jz];lia,j,c,vz,(N _ (.head _)).1⟩),rfl,q _ z (wU I K) rz⟩
  refine F5 R (u4 (g:=X.b)) hT E C hd (by lia) (λfew D f c K d N=>?_) λtwo D e f K ne d N=>?_
  .unfold m9 at k;rw[ai (by lia)]at k;cases k;exact A P t D f c M L (by lia) K d N
  .unfold m9 at k;rw[al (by lia),ai y]at k;obtain⟨p,ep,k⟩:=iV.mp k;split at k;case isFalse=>cases k
   rename_i ps;cases k;have I1:Inv X B J H { s with heap:=f }:=qX (A:=s.toks) I R.ns d.ns (lR I.bk d λp hp=>N p (.tail _ hp));have Z:G5 (lP S) (kas_sort t.length)=some p:=by rw[<- hl2,<- hl1];exact ep
   refine cy (GV (s:={ s with heap:=f }) (DJ I1 L M hs) two) (λκ v hv=>?_) λ_ _ x=>x;obtain⟨rfl,W⟩:=hv;exact Eb (a:=p) (Q:=λp u=>yX X.b X.e.locals m D e (p.toList.map λi=>t.getD i Value.none) (λu=>EP X B J Q (.ref D) u) u) W (PySem.W.KasFin.intro d N (.head ne) λh2 c F2 N2=>A _ _ D h2 c (zd M p.toList) (CD L p.toList) (by rw[aU,jV];lia) K F2 N2) _ Z
 rcases G with G|G
 .obtain⟨t,r',pl,hz⟩:=I.list G;obtain⟨o,E,C,n,hd⟩:=pl.isList;exact w "list" (.inl rfl) t o n r' E C hd
 .obtain⟨t,r',⟨o,E,C,n,hd⟩,hz⟩:=I.tuple G;exact w "tuple" (.inr rfl) t o n r' E C hd
noncomputable def Ht:List D->Option (List P)
 | []=>some []
 | .p v::r=>(Ht r).map (v::·)
 | .ref _::_=>none
theorem B9:∀{d:List D}{T:List P},Ht d=some T->d=T.map .p
 | [],T,h=>by cases h;rfl
 | .p v::r,T,h=>by
  cases e:Ht r with
  |none=>simp only[Ht,e]at h;cases h
  |some w=>simp only[Ht,e]at h;cases h;rw[B9 e];rfl
 | .ref _::_,T,h=>by cases h
theorem Hz:∀{T:List P}{xs:List V},cQ K F H m (T.map .p) xs->b7 K F H T xs
 | [],_,h=>h
 |_::_,_,h=>by obtain⟨x,r,e,a,s⟩:=h;exact⟨x,r,e,a,Hz s⟩
noncomputable def IP:P->Option (List P)
 | .lst xs=>some xs
 | .ro xs=>some xs
 | .tup xs=>some xs
 |_=>none
def F9:D->aL->Option (List P)
 | .p v,_=>IP v
 | .ref i,S=>match S[i]? with
  |some (.lst d)=>Ht d
  |some (.fz v)=>IP v
  |_=>none
@[simp] def ze(r:EE)(L:Lc)(S:aL):tyV:=bO (r L S) λd h=>match F9 d h with
 |some xs=>(l8 xs).map λv=>(v,h)
 |none=>none
theorem zp(p:RP K F H w v)(h:IP w=some xs):∃a y,v=.ref a/\(fG K H a y\/jw K H a y)/\b7 K F H xs y:=by
 cases w with
 |tup d=>obtain⟨a,y,rfl,t,r⟩:=p;cases h;exact⟨a,y,rfl,.inr t.sq,r⟩
 |lst d=>obtain⟨a,y,rfl,t,r⟩:=p;cases h;exact⟨a,y,rfl,.inl t.sq,r⟩
 |ro d=>obtain⟨a,y,rfl,t,r⟩:=p;cases h;exact⟨a,y,rfl,.inl t.sq,r⟩
 |_=>cases h
theorem F7(r:Rel K F H m S)(p:RD K F H m u v)(h:F9 u S=some xs):∃a y,v=.ref a/\(fG K H a y\/jw K H a y)/\b7 K F H xs y:=by
 cases u with
 |p w=>exact zp p h
 |ref i=>
  obtain⟨a,rfl,x⟩:=p;simp only[F9]at h;split at h
  .rename_i d es;obtain⟨y,e,s⟩:=r.obj i a _ x es;rw[B9 h]at s;exact⟨a,y,rfl,.inl (fG.of e),Hz s⟩
  .rename_i w es;exact zp (r.obj i a _ x es) h
  .cases h
theorem B3(i:Gl X "sorted")(j:X.g "sorted"=none)(g:O X e (tE X.K q))(n:starEach [e] X.e=[(false,eval e X.e)]:=by rfl):O X (.Call (.Name "sorted" p) [e] [] N) (tV X.K (ze q)):=
 (lH uj i j x9 (dI g fH (by rw[n];rfl)) (by decide) (by decide) (by rw[n];rfl) rfl).imp' λJ H Q s=>by
  obtain⟨F,m,L,S,d,G,r,l,h,k⟩:=s;obtain⟨x,c,t,h⟩:=af h;refine⟨F,m,L,S,x,c,r,l,t,λv b K E C f P=>?_⟩;split at h
  .rename_i xs w;unfold l8 at h;split at h
   .rename_i n;cases o:m9 xs with
    |none=>rw[o]at h;cases h
    |some u=>rw[o]at h;cases h;obtain⟨a,D,rfl,y,A⟩:=F7 f P w;exact⟨b,a,D,xs,u,rfl,y,A,n,o,λz I s B=>k _ _ K _ (C.trans (bE s).stp) (f.grow (bE s)) (.newLst s B)⟩
   .cases h
  .cases h
end
noncomputable def NJ(K:FG)(e:Bool)(a:Addr):It:=if e=true then Ho K a else No K a
inductive tIOI(K:FG)(en:Bool)(fe:EE)(J:L2.St)(H:Y)(R:It->Y->Prop):Prop
 |mk (F:Aa) (m:List Addr) (L:Lc) (S:aL) (j:Nat) (S':aL) (ds:List D) (h0_:Rel K F H m S) (h1_:RL K F H m J L) (h2_:fe L S=some (.ref j,S')) (h3_:S'[j]? = some (.lst ds)) (h4_:∀a F' m' H',Stp F m H F' m' H'->Rel K F' H' m' S'->m'[j]? = some a->R (NJ K en a) H'):tIOI K en fe J H R
noncomputable def QR(K:FG)(e:Bool)(q:EE):TI:=λJ H R=>tIOI K e q J H R
theorem J2{K:FG}{F:Aa}{H:Y}{e:Bool}{a:Addr}{xs:List V}{x:V}{i:Nat}{v:P}(q:fG K H a xs)(s:xs[i]? = some x)(p:RP K F H v x) :
  (NJ K e a).go i H/\∀y h,(NJ K e a).yld i H y h->∃n,Grow F H n h/\RP K n h (if e=true then .tup [.int (i:Int),v] else v) y:=by
 cases e with
 |true=>
  refine⟨⟨xs,x,q,s⟩,λz h y=>?_⟩;obtain⟨b,y,rfl,k,rfl,f⟩:=y;have:y=x:=by have:=f xs q;rw[s]at this;cases this;rfl
  subst this;exact⟨F,bD k,RP.newTup k ⟨_,_,rfl,rfl,_,_,rfl,p,rfl⟩⟩
 |false=>
  refine⟨⟨xs,x,q,s⟩,λy h z=>?_⟩;obtain⟨rfl,z⟩:=z;have:=z xs q
  rw[s]at this;cases this;exact⟨F,.refl,p⟩
variable{H:Y}{xs:List V}
theorem DP(q:fG K H a xs)(h:xs.length≤i):(NJ K v a).stop i H:=by
 cases v with
 |true=>exact⟨xs,q,h⟩
 |false=>exact⟨xs,q,h⟩
section
variable{X:Cx}{N:Pos}
theorem iO(h:O X iter (tE X.K q)):PI X tg iter (QR X.K false q):=(Gu h).imp' λJ H R z=>by obtain⟨F,m,L,S,j,d,w,r,l,b,es,k⟩:=z;refine⟨F,m,L,S,_,_,r,l,b,λx n t f v s p=>?_⟩;obtain⟨a,rfl,e⟩:=p;obtain⟨xs,c,u⟩:=s.obj j a _ e es;exact⟨a,rfl,⟨xs,fG.of c⟩,k a n t f v s e⟩
theorem p9:dL X (.type "range") (λxs H Q=>∃j:Int,xs=[.int j]/\∀r,H r=none->Q (.ref r) (bN H r (.rng 0 j))):=by intro B s J H xs a Q I r h;obtain⟨j,rfl,q⟩:=h;obtain⟨u,rfl,x⟩:=vals1 r;obtain⟨t,rfl⟩:=x;refine call_range_1 ?_;exact⟨.ref s.heap.objs.size,_,I.laid (o:=.rng 0 j) (λb o e=>aV _ e) (ag _) ⟨_,_,_,bP _ rfl⟩,rfl,q _ (I.h.fresh (ag _))⟩
theorem mG:∀{xs:List d}{s:List L},xs.length=s.length->(∀(i:Nat) x y,xs[i]? = some x->s[i]? = some y->R x y)->Paired R xs s
 | [],[],_,_=>.nil
 | [],_::_,h,_=>by simp at h
 |_::_,[],h,_=>by simp at h
 |x::xs,y::s,h,k=>.cons (k 0 x y rfl rfl) (mG (by simpa using h) λi a b e n=>k (i+1) a b (by simpa using e) (by simpa using n))
theorem wP(h:ItemsOf (λi v=>∃t,v=Value.int (0+i * 1) t) u n):bb ((List.range n).map λ(i:Nat)=>V.int (i:Int)) u.toList:=by
 obtain⟨z,f⟩:=h;refine mG (by simp[z]) λi x y a c=>?_;rw[aZ]at a;cases e:(List.range n)[i]? with
 |none=>rw[e]at a;cases a
 |some k=>
  rw[e]at a;cases a;have b:k=i:=by have:=aP.mp e;obtain⟨m,s⟩:=this;simpa using s.symm
  subst b;obtain⟨t,rfl⟩:=f k y (by simpa using c);exact⟨t,by simp⟩
theorem vH(a:X.c=true):dL X (.type "list") (λxs H Q=>∃r j,xs=[.ref r]/\H r=some (.rng 0 j)/\j.natAbs < 1000000/\∀l,H l=none->Q (.ref l) (bN H l (.lst ((List.range j.toNat).map λ(i:Nat)=>V.int (i:Int))))):=by
 intro B s J H xs y Q I r h;obtain⟨p,j,rfl,m,g,q⟩:=h;obtain⟨u,rfl,d⟩:=vals1 r;cases d;obtain⟨t,u,v,o⟩:=I.h p _ m;refine call_list_range (n:=j.toNat) (I.o.hd a) o (vR (by lia) (by lia) (by lia) (by lia)) (by rw[Bv];split<;>lia) (by lia) λk w x c b e f=>?_
 exact⟨.ref s.heap.objs.size,_,I.laid (t':=w) b (ag _) (show cT X.p X.w _ k _ (.lst _) from ⟨by rw[aU,sB];exact bh (by lia:j.toNat≤1000000) (by decide),x.toList,c,wP f,by simpa using e⟩),rfl,q _ (I.h.fresh (ag _))⟩
@[simp] def P6(a:EV)(L:Lc)(S:aL):tyV:=bO (a L S) λv h=>match v with
 | .int j=>if decide (j.natAbs < 1000000)=true then some (.lst (intsFrom 0 j.toNat),h) else none
 |_=>none
theorem uS:∀s:List Nat,b7 K F H (s.map λ(i:Nat)=>P.int (0+(i:Int))) (s.map λ(i:Nat)=>V.int (i:Int))
 | []=>rfl
 |i::s=>⟨_,_,rfl,by show V.int _=V.int _;rw[cI],uS s⟩
theorem FL{a:Expr}{t:EV}{p G y o:Pos}(h:X.c=true)(B:Gl X "list")(D:X.g "list"=none)(g:Gl X "range")(s:X.g "range"=none)(P:O X a (tV X.K t))(w:starEach [a] X.e=[(false,eval a X.e)])
  : O X (.Call (.Name "list" p) [.Call (.Name "range" G) [a] [] o] [] y) (tV X.K (P6 t)):=
 (iF (vH h) B D og (dI (iF p9 g s r9 (dI P fH (by rw[w];rfl)) (by decide) (by decide) (by rw[w];rfl) rfl) fH rfl) (by decide) (by decide) rfl rfl).imp' λJ H Q e=>by
  obtain⟨F,m,L,S,d,N,r,l,q,k⟩:=e;obtain⟨x,i,K,q⟩:=af q;refine⟨F,m,L,S,x,i,r,l,K,λv f E b M I p=>?_⟩;cases x with
  |int j=>
   dsimp only at q;split at q
   .rename_i A;have C:j.natAbs < 1000000:=bu A;cases q;cases (show v=.int j from p);refine⟨j,rfl,λu n=>⟨u,j,rfl,aJ,C,λz e=>?_⟩⟩;have c:Grow f b f (bN b u (.rng 0 j)):=bD n;exact k _ _ E _ (M.trans (c.stp.trans (bE e).stp)) ((I.grow c).grow (bE e)) (.newLst e (uS _))
   .cases q
  |_=>cases q
end
section
variable{X:Cx}{N:Pos}
theorem Ay{I:Program}{w:World}{A:Around}{E:VP}{s:Shared}{t l:Addr}{i:Array Value}{v u:Value}{lo x:Option Int}{Q:VP}(h:IsTup s.heap t i)(a:s.heap.IsSliceOf l v u .none)(p:IsPart v lo)(b:IsPart u x)
  (k:HT.eP i.size 0 lo=0) (f:HT.eP i.size i.size x=i.size) (q:Q (.ref t) s):wpAny (model I w) A (getItem (.ref t) (.ref l)) Q E s:=by
 have T:s.TypeIs (.ref l) "slice":=by obtain⟨o,e,n,_⟩:=a;exact⟨o,e,n⟩
 unfold getItem;try with_reducible refine eK ?_
 first|refine ab (ah ?_)|skip
 refine ab (BI h.typeIs (by decide) ?_);refine ab (o9 (name:=Str.ofString "__getitem__") h.typeIs g8 (mn g8 h.typeIs x4 ?_ (x3 _ _)));show wpAny _ _ (xw (.ref t) >>= _) _ _ s;refine ab (xV h (ab (o3 T ?_)));rw[ai (by decide)];refine ab (HT.iD a p b ?_);rw[k,f];have y:((((0:Nat):Int) == 0 && (1:Int) == 1 && (i.size-0) == i.size)=true):=by simp
 show wpAny _ _ (if ((((0:Nat):Int) == 0 && (1:Int) == 1 && (i.size-0) == i.size)=true) then _ else _) _ _ s;rw[ai y];refine ab (ab (o3 h.typeIs ?_));refine ah ?_;rw[ai (by rfl)];first
  |exact ab (ah (ah ⟨_,rfl,ah q⟩))
  |exact ab (oZ (ah ⟨_,rfl,ah q⟩))
  |exact ah ⟨_,rfl,ah q⟩
theorem Cq:HY X (λx lo e H Q=>∃a xs,x=.ref a/\jw X.K H a xs/\HT.eP xs.length 0 lo=0/\HT.eP xs.length xs.length e=xs.length/\Q (.ref a) H):=by
 intro B s J H x v d w lo e m Q I c f p u h;obtain⟨a,xs,rfl,b,n,k,q⟩:=h;cases c;obtain⟨i,r,t,_⟩:=I.tuple b;have l:i.toArray.size=xs.length:=by rw[ba];exact r.length.symm
 exact⟨"tuple",_,g8.lookup,t.typeIs,Ay t f p u (by rw[l];exact n) (by rw[l];exact k) ⟨.ref a,H,I,rfl,q⟩⟩
def Kn:P->Option Int->Option Int->Option P
 | .tup xs,lo,h=>some (.tup (cut xs lo h))
 |x,lo,h=>Rh x lo h
@[simp] def Av(a:EV)(lo n:EO)(L:Lc)(S:aL):tyV:=bO (a L S) λx h=>bO (lo L h) λi e=>bO (n L e) λj s=>(Kn x i j).map λv=>(v,s)
theorem Oi{e:Expr}{lo A:Option Expr}{t:EV}{P K:EO}{N p2:Pos}(W:O X e (tV X.K t))(hl:PO X lo (tO X.K P))(Z:PO X A (tO X.K K)):O X (.Subscript e (.Slice lo A none p2) N) (tV X.K (Av t P K)):=
 (uW (zo.or (IM.or Cq)) W hl Z).imp' λJ H Q hz=>by
  obtain⟨F,m,L,S,d,S',r,l,q,k⟩:=hz;obtain⟨x,z,M,q⟩:=af q;obtain⟨i,o,R,q⟩:=af q;obtain⟨j,I,T,q⟩:=af q;refine⟨F,m,L,S,x,z,r,l,M,λv C m1 H1 g r1 p1=>?_⟩;refine⟨C,m1,L,z,i,o,r1,l.mono g,R,λD m2 H2 y r2=>?_⟩;refine⟨D,m2,L,o,j,I,r2,(l.mono g).mono y,T,λE b G B c=>?_⟩;have u:=RP.mono B (RP.mono y p1);have w:=g.trans (y.trans B);cases x with
  |lst f=>cases q;obtain⟨a,xs,rfl,n,s⟩:=u;exact .inl ⟨a,xs,rfl,n.sq,λp h=>k _ _ b _ (w.trans (bE h).stp) (c.grow (bE h)) (.newLst h (s.cut i j))⟩
  |ro f=>cases q;obtain⟨a,xs,rfl,n,s⟩:=u;exact .inl ⟨a,xs,rfl,n.sq,λp h=>k _ _ b _ (w.trans (bE h).stp) (c.grow (bE h)) (.newLst h (s.cut i j))⟩
  |tup f=>
   obtain⟨a,xs,rfl,n,s⟩:=u;cases q;by_cases hw:HT.eP xs.length 0 i=0/\HT.eP xs.length xs.length j=xs.length
   .have V:cut f i j=f:=by
     unfold cut;rw[s.length,hw.1,hw.2,sj,Nat.sub_zero,<- s.length,yA]
    rw[V]at k;exact .inr (.inr ⟨a,xs,rfl,n.sq,hw.1,hw.2,k _ E b G w c ⟨a,xs,rfl,n,s⟩⟩)
   .exact .inr (.inl ⟨a,xs,rfl,n.sq,hw,λp h=>k _ _ b _ (w.trans (bD h).stp) (c.grow (bD h)) (.newTup h (s.cut i j))⟩)
  |_=>cases q
abbrev cn:List P->Option P:=jO
variable{e:Expr}{es:Ab}{fs:jx}{p:Pos}
theorem Ii(g:Gl X "int")(m:X.g "int"=none)(a:PA X (e::es) (pj X.K fs))(x:starEach (e::es) X.e=(false,eval e X.e)::starEach es X.e)(h:(backTo N (starEach es X.e)).any (·.1)=false) :
  O X (.Call (.Name "int" p) (e::es) [] N) (tV X.K (aN cn fs)):=wd G' g m FC a (by decide) (by decide) x h
inductive PEs(X:Cx):Ab->List EV->Prop
 |nil:PEs X [] []
 |cons {e es f fs}:O X e (tV X.K f)->PEs X es fs->PEs X (e::es) (f::fs)
@[simp] def Hs(a b c:EV)(L:Lc)(S:aL):tyV:=bO (a L S) λd h=>bO (b L h) λy x=>bO (c L x) λz e=>match d with
 | .dct s T=>match gu y with
  |some k=>some ((iJ k s T).getD z,e)
  |none=>none
 |_=>none
theorem qH:∀{k:List (dJ×V)}{d:List P},b7 K F H d (k.map (·.2))->iJ u (k.map (·.1)) d=none->f_ k u=none
 | [],d,r,h=>rfl
 |(s,v)::k,[],r,h=>by have:=r.length;simp at this
 |(s,v)::k,b::d,r,h=>by
  obtain⟨x,m,e,p,n⟩:=r;rw[aF]at e;injection e with c f;simp only[aF,iJ]at h;by_cases a:s=u
  .rw [ai a]at h;cases h
  .rw [al a]at h;rw[<- f]at n;rw[f8 (p:=(s,v)) a];exact qH n h
theorem Ij{o a b:Expr}{h t z:EV}{E G:Pos}(hu:X.A.units+1 < cLine)(ho:O X o (tV X.K h))(ha:O X a (tV X.K t))(hb:O X b (tV X.K z))(m:M2 X o "get" E a b G):O X (.Call (.Attribute o "get" E) [a,b] [] G) (tV X.K (Hs h t z)):=
 (C5 hu ho ha hb m).imp' λJ H Q hz=>by
  obtain⟨F,m,L,S,d,S',r,l,q,k⟩:=hz;obtain⟨x,C,e1,q⟩:=af q;obtain⟨y,D,e2,q⟩:=af q;obtain⟨e,W,e3,q⟩:=af q;refine⟨F,m,L,S,x,C,r,l,e1,λv T m1 H1 A r1 p1=>?_⟩;cases x with
  |dct ks Z=>
   obtain⟨a,s,rfl,K,I,ek,ra⟩:=id p1;refine⟨a,rfl,.inl ⟨s,.inl I⟩,?_⟩;refine⟨T,m1,L,C,y,D,r1,l.mono A,e2,λvy V m2 H2 p r2 p2=>?_⟩;refine⟨V,m2,L,D,e,W,r2,(l.mono A).mono p,e3,λvz B M g u N p3=>?_⟩;have n:g a=some (.dK s):=(p.trans u).frk _ _ K I;have f:=b7.mono u (b7.mono p ra);have py:=RP.mono u p2;dsimp only at q;split at q
   .rename_i P i;cases q;have j:=gS i py;subst j ek;have R:=A.trans (p.trans u);cases c:iJ P (s.map (·.1)) Z with
    |none=>have hm:=qH f c;refine⟨none,by rw[<- hm];exact jj.k n,?_⟩;rw[c]at k;exact k vz B M g R N p3
    |some w=>obtain⟨v,h1,h2⟩:=mx f c;refine⟨some v,by rw[<- h1];exact jj.k n,?_⟩;rw[c]at k;exact k v B M g R N h2
   .cases q
  |_=>cases q
def Nq(w:World):List DictEntry->List (Str×P)->Prop
 | [],[]=>True
 |e::es,(k,p)::r=>(∃t,e.key=.str k t)/\e.hash=hashStr w k/\(∃v,RelV v e.val/\∀K F H,RP K F H p v)/\Nq w es r
 |_,_=>False
def P4(w:World)(K:FG)(m:SV)(x:Str)(k:List (Str×P)):Prop:=
 ∃a o es e,m x=some (.ref a)/\K.lookup a=some o/\o.ExactDict/\o.data=.dict es e/\Nq w es.toList k/\(k.map (·.1)).Nodup
end
noncomputable def LH:List dJ->List P->Option (List (Str×P))
 | [],[]=>some []
 | .inr k::s,v::T=>(LH s T).map λr=>(k,v)::r
 |_,_=>none
noncomputable def DV:P->Bool
 | .dct _ _=>true
 |_=>false
def ml(w:World)(K:FG)(m:SV)(x:Str)(v:P):Prop:=(DV v=false->xk K m x v)/\∀s T,v=.dct s T->∃k,LH s T=some k/\P4 w K m x k
variable{x:Str}
theorem ml.plain(h:xk K u x v)(a:DV v=false):ml w K u x v:=⟨λ_=>h,λk T e=>by subst e;cases a⟩
end Ev
namespace Ev
open PySem PySem.Spec PyProof.Rows L2
theorem vm(f:Nat->β->Sem (ForInStep β))(I:Nat->β->Shared->Prop)(Q:β->Shared->Prop)(k:Nat)
  (turn:∀i b s,i < k->I i b s->wpAny M A (f i b) (λr s'=>match r with | .yield b'=>I (i+1) b' s' | .done b'=>Q b' s') E s)
  (fin:∀b s,I k b s->Q b s) (b:β) (h:I 0 b s):wpAny M A (forIn [0:k] b f) Q E s:=by
 rw[Std.Legacy.Range.forIn_eq_forIn_range'];refine BC f (λrest b s=>∃i,rest=yp i (k-i)/\i≤k/\I i b s) Q (λx rest b s ⟨i,e,hi,hI⟩=>?_) (λb s ⟨i,e,hi,hI⟩=>?_) _ b ⟨0,by simp[Std.Legacy.Range.size],b9 _,h⟩
 .obtain⟨m,hm⟩:∃m,k-i=m+1:=by
   cases q:k-i with
   |zero=>rw[q]at e;simp at e
   |succ m=>exact⟨m,rfl⟩
  rw[hm,sv]at e;injection e with e1 e2;subst e1;refine cy (turn x b s (by lia) hI) (λr s' hr=>?_) λ_ _ z=>z;cases r with
  |done b'=>exact hr
  |yield b'=>exact⟨x+1,by rw[e2];congr 1;lia,by lia,hr⟩
 .have:k-i=0:=by
   cases q:k-i with
   |zero=>rfl
   |succ m=>rw[q,sv]at e;cases e
  have:i=k:=by lia
  subst this;exact fin b s hI
section
open PySem.SeqAt PySem.MeetsSeq
open PySem.AutoSeq1 (wpAny_loadPart')
theorem Az(l:Addr)(items:Array Value)(n:Nat)(dd:Option Addr)(sl:Array (OV))(x:Value)(e:Value->Bool)(j:Nat)(hj:j < items.size)
  (hit:e items[j]=true) (hno:∀m (hm:m < items.size),m < j->e items[m]=false) :
  Meets (Builtin.«tuple.index» ⟨[.ref l,x],[]⟩)
   (λA R s=>s.heap.get? l=some { cls:=.type "tuple",dict:=dd,data:=.seq items n,slots:=sl }/\(∀y,y ∈ items->EqAt A.in1 s y x (e y))/\R (.ok (.ret (.int j s.toks))) { s with toks:=s.toks+1 }):=
 .of_wp λprog w A R s h=>by
  obtain⟨hp,g,d,tk,os⟩:=s;obtain⟨hl,he,h⟩:=h
  wp_walk using iW hl,vm _ (λi b s'=>i≤j/\b.1=none/\s'=⟨hp,g,d,tk,os⟩) _
  case turn=>
   rintro i b s' hi ⟨hij,hb,rfl⟩;have hi':i < items.size:=by lia
   rw[yi hi'];refine ab (he _ (Array.getElem_mem hi') prog w _ _ ?_);by_cases hc:i=j
   .subst hc;rw[hit]
    wp_walk
    exact⟨_,rfl,h⟩
   .rw [hno i hi' (by lia)]
    wp_walk
    exact⟨by lia,rfl,rfl⟩
  case fin=>rintro b s' ⟨hij,_,_⟩;exact absurd hij (by lia)
  case h=>exact⟨b9 _,rfl,rfl⟩
end
def nN(ps:List P)(y:P):Option Nat:=if (ps.all (di 19) && di 19 y)=true then (gq ps).findIdx? λz=>bB z (pd y) else none
@[simp] def Ix(fa fb:EV)(L:Lc)(S:aL):tyV:=bO (fa L S) λv x=>match v with
 | .lst ps=>bO (fb L x) λy h=>(nN ps y).map λ(i:Nat)=>(.int (i:Int),h)
 | .tup ps=>bO (fb L x) λy h=>(nN ps y).map λ(i:Nat)=>(.int (i:Int),h)
 |_=>none
section
variable{X:Cx}{pins:PN}{J:L2.St}{H:Y}{s:Shared}{F:Aa}{ps:List P}{y:P}{vy:V}{u:Value}{i:Nat}{Q:VK}{a:Addr}
theorem zz:∀qs:List P,(gq qs).length=qs.length
 | []=>rfl
 |q::qs=>by simp[gq,zz qs]
theorem D1(o:X.A.units+64 < cLine)(I:Inv X pins J H s)(d:RP X.K F H y vy)(g:RelV vy u)(e:nN ps y=some i){v:Array Value}{f:List Addr}(k:ReadsAll s.heap v.toList (gq ps) f) :
  ∃t:i < v.size,bB (k7 s.heap v[i]) (pd y)=true/\(∀m (x:m < v.size),m < i->bB (k7 s.heap v[m]) (pd y)=false)/\v.size=ps.length /\
   ∀z,z ∈ v->SeqAt.EqAt X.A.in1 s z u (bB (k7 s.heap z) (pd y)):=by
 unfold nN at e;split at e;case isFalse=>cases e
 rename_i c;rw[av]at c;obtain⟨j,w⟩:=gb I 19 d g c.2;have l:=Dj c.1;have q:=fw 19 _ c.2;obtain⟨t,b,r⟩:=List.findIdx?_eq_some_iff_getElem.mp e;have n:=SeqAt.readsAll_map _ _ _ l.1 k;have h:v.size=(gq ps).length:=by rw[<- n];simp
 have a:∀(m:Nat)(x:m < v.size),k7 s.heap v[m]=(gq ps)[m]'(h ▸ x):=λm x=>by
  have:(v.toList.map (k7 s.heap))[m]? = (gq ps)[m]?:=by rw[n]
  rw[aZ,Array.getElem?_toList,yi x,bq (h ▸ x)]at this;simpa using this
 refine⟨by lia,?_,λm x p=>?_,by rw[h,zz],SeqAt.items_eqAt k w l.1 q.1 (by lia)⟩
 .rw [a];exact b
 .rw [a];simpa using r m p
theorem D0(e:nN ps y=some i):ps.all (di 19)=true:=by
 unfold nN at e;split at e
 .rename_i h;rw[av]at h;exact h.1
 .cases e
theorem xc(P:X.A.units+64 < cLine)(I:Inv X pins J H s)(p:RP X.K F H (.lst ps) (.ref a))(D:RP X.K F H y vy)(G:RelV vy u)(e:nN ps y=some i)(q:Q (.int i) H) :
  wx X (call (.builtin "list.index") [.ref a,u]) (EP X pins J Q) X.xe s:=by
 have S:=D0 e;obtain⟨N,b⟩:=gb I 20 p (show RelV (.ref a) (.ref a) from rfl) (by simpa[di] using S);rw[pd]at b;cases b with
 | @list l o L n _ c x k f w=>
  obtain⟨j,t,v,V,d⟩:=D1 P I D G e w;obtain⟨oc,B,C,h⟩:=o;dsimp only at k f;subst k f;have T:ps.length≤sizeLine:=by obtain⟨M,xs,m,K,E⟩:=p;cases m;obtain⟨z,A,Z,r,R,_⟩:=I.lstM K.2;have W:=E.length;lia
  have g:sizeLine < 2 ^ 63:=by decide
  exact gL xO ⟨_,x,rfl⟩ PySem.F.entry_list_index (PySem.F.args_list_index_2 _ _) (SeqAt.list_indexAt a L n B h u _ i j (by lia) t v) ⟨x,d,⟨.int i,H,I.tok _,⟨_,rfl⟩,q⟩⟩
theorem vF(hu:X.A.units+64 < cLine)(I:Inv X pins J H s)(px:RP X.K F H (.tup ps) (.ref a))(py:RP X.K F H y vy)(ru:RelV vy u)(e:nN ps y=some i)(q:Q (.int i) H) :
  wx X (call (.builtin "tuple.index") [.ref a,u]) (EP X pins J Q) X.xe s:=by
 have ho:=D0 e;obtain⟨as,ra⟩:=gb I 20 px (show RelV (.ref a) (.ref a) from rfl) (by simpa[di] using ho);rw[pd]at ra;cases ra with
 | @tuple l o vs n _ as' h1 h2 h3 h4=>obtain⟨hi,e1,e2,hz,eq⟩:=D1 hu I py ru e h4;obtain⟨oc,od,odt,osl⟩:=o;dsimp only at h2 h3;subst h2 h3;exact gL xR ⟨_,h1,rfl⟩ PySem.F.entry_tuple_index (PySem.F.args_tuple_index_2 _ _) (Az a vs n od osl u _ i hi e1 e2) ⟨h1,eq,⟨.int i,H,I.tok _,⟨_,rfl⟩,q⟩⟩
theorem Io(hu:X.A.units+64 < cLine)(ho:O X o (tV X.K fo))(he:O X e (tV X.K fe))(hs:starEach [e] X.e=[(false,eval e X.e)])
  (w:attributeBase o "index" X.e (eval o X.e)=eval o X.e) (j:(M.endLine == g.line)=true):O X (.Call (.Attribute o "index" M) [e] [] g) (tV X.K (Ix fo fe)):=by
 intro pins s J H Q I ⟨F,m,L,S,d,S',r,l,q,k⟩;obtain⟨x,Z,e1,q⟩:=af q;refine BR w (by rw[hs];rfl) j rfl (cK (ho pins s J H (λv c=>∃f K,Stp F m H f K c/\Rel X.K f c K Z/\RP X.K f c x v) I ⟨F,m,L,S,x,Z,r,l,e1,λv f K c s1 r1 B=>⟨f,K,s1,r1,B⟩⟩) λu s1 hz=>?_);obtain⟨v,c,I1,ru,f,K,T,r1,B⟩:=hz;have t:∀(id:String)(ps:List P),bO (fe L Z) (λy S2=>(nN ps y).map λ(i:Nat)=>((.int (i:Int):P),S2))=some (d,S') ->
   (∀(s:Shared)(h:Y)(n:Aa)(y:P)(vy:V)(C:Value)(i:Nat),Inv X pins J h s->(∀p,RP X.K f c p v->RP X.K n h p v)->RP X.K n h y vy->RelV vy C->nN ps y=some i->Q (.int i) h->wx X (call (.builtin id) [u,C]) (EP X pins J Q) X.xe s) ->
   wx X (callWith g (.builtin id) [u] (backTo g (starEach [e] X.e)) []) (EP X pins J Q) X.xe s1:=by
  intro id ps q hc;obtain⟨y,S2,e2,q⟩:=af q;obtain⟨i,E,q⟩:=cV.mp q;cases q;rw[hs];refine jW rfl (lh (ei (cK (he pins s1 J c (λvy h=>∃n A,Stp f K c n A h/\Rel X.K n h A S'/\RP X.K n h y vy) I1 ⟨f,K,L,Z,y,S',r1,l.mono T,e2,λv n A h s2 r2 G=>⟨n,A,s2,r2,G⟩⟩) λC s2 ⟨vy,h,D,ruy,n,A,W,r2,G⟩=>g9 ?_)));exact hc s2 h n y vy C i D (λp R=>RP.mono W R) G ruy E (k _ n A h (T.trans W) r2 rfl)
 cases x with
 |lst ps=>obtain⟨a,xs,rfl,hq,rp⟩:=id B;cases (show u=Value.ref a from ru);obtain⟨z,its,n',rr,hl,N⟩:=I1.lstM hq.2;exact⟨"list","list.index",n_,xO,PySem.F.type_list_index,⟨_,N,rfl⟩,λb eb=>by cases eb;exact⟨_,N,rfl⟩,t _ ps q λs h n y vy C i D R py ry E q=>xc hu D (R _ B) py ry E q⟩
 |tup ps=>obtain⟨a,xs,rfl,hq,rp⟩:=id B;cases (show u=Value.ref a from ru);obtain⟨its,rr,o,N,⟨ec,n',ed⟩,en⟩:=I1.tupleN hq.sq;exact⟨"tuple","tuple.index",PySem.F.plainAttrs_tuple,xR,PySem.F.type_tuple_index,⟨_,N,ec⟩,λb eb=>by cases eb;exact⟨_,N,en⟩,t _ ps q λs h n y vy C i D R py ry E q=>vF hu D (R _ B) py ry E q⟩
 |_=>cases q
end
variable{L:Type}
noncomputable def df[DecidableEq L](k:L):List L->List D->Option D
 |h::s,v::x=>if h=k then some v else df k s x
 |_,_=>none
noncomputable def d_[DecidableEq L](k:L)(v:D):List L->List D->List L×List D
 |h::s,w::x=>if h=k then (h::s,v::x) else (h::(d_ k v s x).1,w::(d_ k v s x).2)
 |_,_=>([k],[v])
def fA:List P->Option (List dJ)
 | []=>some []
 |p::r=>(gu p).bind λk=>(fA r).map λs=>k::s
noncomputable def nJ(d:D)(S:aL):Option (Nat×List (List dJ)×List D):=match d with
 | .ref i=>match S[i]? with
  |some (.dtt k v)=>some (i,k,v)
  |_=>none
 |_=>none
theorem oK(h:nJ d S=some (i,k,n)):d=.ref i/\S[i]? = some (.dtt k n):=by
 unfold nJ at h;split at h
 .split at h
  .rename_i e;cases h;exact⟨rfl,e⟩
  .cases h
 .cases h
section
variable{K:FG}{F:Aa}{H:Y}{m:List Addr}
theorem iG:∀{ps:List P}{s:List dJ}{a:List V},fA ps=some s->b7 K F H ps a->a=s.map kV
 | [],s,a,h,r=>by cases h;exact r
 |p::ps,s,a,h,r=>by
  obtain⟨x,m,rfl,b,c⟩:=r;unfold fA at h;cases e:gu p with
  |none=>rw[e]at h;cases h
  |some k=>
   rw[e]at h;cases n:fA ps with
   |none=>rw[n]at h;cases h
   |some f=>rw[n]at h;cases h;rw[aF,gS e b,iG n c]
theorem i5[DecidableEq L]:∀{C:List (L×V)}{s:List D},cQ K F H m s (C.map (·.2)) ->
  match df k (C.map (·.1)) s with|some d=>∃v,f_ C k=some v/\RD K F H m d v|none=>f_ C k=none
 | [],s,r=>by have:s=[]:=hV r.length;subst this;rfl
 |(a,v)::C,[],r=>by have:=r.length;simp at this
 |(a,v)::C,d::s,r=>by
  obtain⟨x,c,e,p,n⟩:=r;rw[aF]at e;injection e with f b;rw[<- b]at n;simp only[aF,df];by_cases h:a=k
  .rw [ai h];exact⟨v,gN (p:=(a,v)) h,by rw[show v=x from f];exact p⟩
  .rw [al h,f8 (p:=(a,v)) h];exact i5 n
theorem mD[DecidableEq L](b:RD K F H m y u):∀{C:List (L×V)}{s:List D},(C.map (·.1)).Nodup->cQ K F H m s (C.map (·.2)) ->
  (L2.putK C k u).map (·.1)=(d_ k y (C.map (·.1)) s).1/\cQ K F H m (d_ k y (C.map (·.1)) s).2 ((L2.putK C k u).map (·.2))
 | [],s,_,r=>by have:s=[]:=hV r.length;subst this;exact⟨rfl,u,[],rfl,b,rfl⟩
 |(h,w)::C,[],_,r=>by have:=r.length;simp at this
 |(h,w)::C,d::s,g,r=>by
  obtain⟨x,E,e,B,G⟩:=r;rw[aF]at e g;injection e with i j;subst i;subst j;obtain⟨t,p⟩:=b8.mp g;simp only[aF,d_];by_cases a:h=k
  .subst a;rw[ai rfl];have same:∀l:List (L×V),h ∉ l.map (·.1)->l.map (λv=>if v.1=h then (v.1,u) else v)=l:=by
    intro l;induction l with
    |nil=>intro _;rfl
    |cons q l A=>
     intro f;rw[aF]at f;have o:¬q.1=h:=λz=>f (by rw[<- z];exact aO)
     rw[aF,al o,A λz=>f (aR _ z)]
   have n:L2.putK ((h,w)::C) h u=(h,u)::C:=by unfold L2.putK;rw[ai (by simp),aF,ai rfl,same C t]
   rw[n];exact⟨rfl,u,_,rfl,b,G⟩
  .rw [al a];obtain⟨S,P⟩:=mD (k:=k) b p G;have n:L2.putK ((h,w)::C) k u=(h,w)::L2.putK C k u:=by
    unfold L2.putK;rw[fN,cw (show ¬(h,w).1=k from a),lg];by_cases c:(C.any λv=>decide (v.1=k))=true
    .rw [ai c,ai c,aF,al (show ¬(h,w).1=k from a)]
    .rw [al c,al c];rfl
   rw[n,aF,aF,S];exact⟨rfl,w,_,rfl,B,P⟩
end
section
variable{X:Cx}{pos G:Pos}{o T:Expr}{c:Ab}{fo:EE}{fs:jx}{fv:EV}
@[simp] def ue(_L:Lc)(S:aL):uL:=some (.ref S.length,S++[.dtt [] []])
theorem B4:O X (.Dict [] [] pos) (tE X.K ue):=C3.imp' λJ H Q z=>by obtain⟨F,m,L,S,d,x,r,l,q,k⟩:=z;cases q;intro p h;refine k (.ref p) F (m++[p]) _ (dU h) (r.own h ⟨[],aJ,rfl,rfl⟩) ⟨p,rfl,?_⟩;rw[<- r.len,bU (ag _)];simp
@[simp] def Ed(o:EE)(k:jx)(L:Lc)(S:aL):uL:=bO (o L S) λd x=>bO (k L x) λps h=>match nJ d h,fA ps with
 |some (_,s,v),some B=>if few ps=true then (df B s v).map λz=>(z,h) else none
 |_,_=>none
theorem GW(c:X.A.units+1 < cLine):ET X (λx y H Q=>∃a v,x=.ref a/\jj H a y (some v)/\(∃C,H a=some (.dT C))/\Q v H):=by intro T l pins s J H x y v u Q I m t h b;obtain⟨a,w,rfl,g,⟨C,f⟩,q⟩:=h;cases m;obtain⟨_,_,_,_,o,_,_,e,k,_⟩:=I.h a _ f;exact oe ⟨o,e,k.1⟩ BE.lookup (rf c I g t λd p n r=>⟨w,H,n,r,q⟩) b
theorem Oq {N} (hu:X.A.units+1 < cLine) (ho:O X o (tE X.K fo)) (hk:PA X c (pj X.K fs)) (hs:mi (.Tuple c N G)):O X (.Subscript o (.Tuple c N G) pos) (tE X.K (Ed fo fs)):=
 (C1 (GW hu) ho (tH hk) hs).imp' λJ H Q hz=>by
  obtain⟨F,m,L,S,d,S',r,l,q,k⟩:=hz;obtain⟨x,K,W,q⟩:=af q;obtain⟨ps,P,Z,q⟩:=af q;refine⟨F,m,L,S,x,K,r,l,W,λv T m1 H1 I r1 p1=>?_⟩;refine⟨T,m1,L,K,ps,P,r1,l.mono I,Z,λR y m2 V M E G=>?_⟩;cases s:nJ x P with
  |none=>rw[s]at q;cases q
  |some t=>
   obtain⟨j,ks,vs⟩:=t;rw[s]at q;cases h:fA ps with
   |none=>rw[h]at q;cases q
   |some B=>
    rw[h]at q;dsimp only at q;split at q
    .rename_i hf;obtain⟨z,eg,q⟩:=cV.mp q;cases q;obtain⟨rfl,n⟩:=oK s;obtain⟨a,rfl,hm⟩:=RD.mono M p1;obtain⟨C,f,u,rs⟩:=E.obj j a _ hm n;subst u;have A:=i5 (k:=B) rs;rw[eg]at A;obtain⟨w,ev,i⟩:=A;refine⟨by rw[<- G.length];exact jL hf,λb D=>?_⟩;have p:a≠b:=λz=>by rw[z,D]at f;cases f
     have e:bN V b (.tup R) a=some (.dT C):=by rw[aj p];exact f
     have g:=bD (F:=y) (o:=.tup R) D;rw[iG h G]at e g ⊢;refine⟨a,w,rfl,by rw[<- ev];exact jj.t e aJ,⟨C,e⟩,?_⟩;exact k w y m2 _ (I.trans (M.trans g.stp)) (E.grow g) (RD.mono g.stp i)
    .cases q
@[simp] def HR(o:EE)(k:jx)(L:Lc)(S:aL):uL:=bO (o L S) λd h=>match nJ d h with
 |none=>none
 |some _=>bO (k L h) λps x=>match nJ d x,fA ps with
  |some (_,s,v),some B=>if few ps=true then some ((df B s v).getD (.p .non),x) else none
  |_,_=>none
theorem Lu {N} (hu:X.A.units+1 < cLine) (ho:O X o (tE X.K fo)) (hk:PA X c (pj X.K fs)) (I:M1 X o "get" ap (.Tuple c N G) cp) :
  O X (.Call (.Attribute o "get" ap) [.Tuple c N G] [] cp) (tE X.K (HR fo fs)):=
 (C6 hu ho (tH hk) I).imp' λJ H Q hz=>by
  obtain⟨F,m,L,S,d,S',r,l,q,k⟩:=hz;obtain⟨x,p,e1,q⟩:=af q;refine⟨F,m,L,S,x,p,r,l,e1,λv F1 m1 H1 V r1 p1=>?_⟩;cases e:nJ x p with
  |none=>rw[e]at q;cases q
  |some t1=>
   obtain⟨j,ks1,vs1⟩:=t1;rw[e]at q;dsimp only at q;obtain⟨ps,Z,e2,q⟩:=af q;obtain⟨rfl,y⟩:=oK e;obtain⟨a,rfl,hm⟩:=id p1;obtain⟨s,A,_,_⟩:=r1.obj j a _ hm y;refine⟨a,rfl,.inr ⟨s,.inl A⟩,?_⟩;refine⟨F1,m1,L,p,ps,Z,r1,l.mono V,e2,λus f m2 H2 W R G=>?_⟩;cases i:nJ (.ref j) Z with
   |none=>rw[i]at q;cases q
   |some t=>
    obtain⟨j2,ks,vs⟩:=t;rw[i]at q;cases u:fA ps with
    |none=>rw[u]at q;cases q
    |some B=>
     rw[u]at q;dsimp only at q;split at q
     .rename_i hf;cases q;obtain⟨h,K⟩:=oK i;cases h;obtain⟨a',e4,M⟩:=RD.mono W p1;cases e4;obtain⟨C,P,E,rs⟩:=R.obj j a _ M K;subst E;have n:=i5 (k:=B) rs;refine⟨by rw[<- G.length];exact jL hf,λb hb=>?_⟩;have D:a≠b:=λz=>by rw[z,hb]at P;cases P
      have h:bN H2 b (.tup us) a=some (.dT C):=by rw[aj D];exact P
      have g:=bD (F:=f) (o:=.tup us) hb;rw[iG u G]at h g ⊢;refine⟨f_ C B,jj.t h aJ,?_⟩;cases eg:df B (C.map (·.1)) vs with
      |none=>rw[eg]at n k;rw[show f_ C B=none from n];exact k .non f m2 _ (V.trans (W.trans g.stp)) (R.grow g) rfl
      |some z=>rw[eg]at n k;obtain⟨w,ev,T⟩:=n;rw[ev];exact k w f m2 _ (V.trans (W.trans g.stp)) (R.grow g) (RD.mono g.stp T)
     .cases q
@[simp] def CA(o:EE)(k:jx)(v:EV)(L:Lc)(S:aL):zi:=bO (v L S) λy a=>bO (o L a) λd e=>bO (k L e) λps h=>match nJ d h,fA ps with
 |some (i,s,x),some B=>if (s.Nodup/\few s=true/\few ps=true) then some (.nx,L,h.set i (.dtt (d_ B (.p y) s x).1 (d_ B (.p y) s x).2)) else none
 |_,_=>none
theorem Le {N} (hu:X.A.units+1 < cLine) (ho:O X o (tE X.K fo)) (g:PA X c (pj X.K fs)) (hv:O X T (tV X.K fv)) (hs:swapsWith T (some (.Subscript o (.Tuple c N G) h)) pos.line X.e=pure false) :
  PS X (.Assign [.Subscript o (.Tuple c N G) h] T pos) (k4 X.K (CA fo fs fv)):=(zv hu ho (tH g) hv hs).imp' λD J H hz=>by
 obtain⟨F,m,L,S,fl,L',S',r,l,q,k⟩:=hz;obtain⟨y,E,e1,q⟩:=af q;obtain⟨d,I,e2,q⟩:=af q;obtain⟨ps,M,e3,q⟩:=af q;refine⟨F,m,L,S,y,E,r,l,e1,λv P W H1 s r1 p1=>?_⟩;refine⟨P,W,L,E,d,I,r1,l.mono s,e2,λx F2 m2 H2 e r2 G=>?_⟩;refine⟨F2,m2,L,I,ps,M,r2,(l.mono s).mono e,e3,λus A Z H3 n r3 p3=>?_⟩;cases w:nJ d M with
 |none=>rw[w]at q;cases q
 |some t=>
  obtain⟨j,ks,vs⟩:=t;rw[w]at q;cases p:fA ps with
  |none=>rw[p]at q;cases q
  |some B=>
   rw[p]at q;dsimp only at q;split at q
   .rename_i u;cases q;obtain⟨rfl,c⟩:=oK w;refine⟨by rw[<- p3.length];exact jL u.2.2,λb hb=>?_⟩;have Q:=bD (F:=A) (o:=.tup us) hb;have K:=r3.grow Q;have f:=Q.stp (m:=Z);obtain⟨a,rfl,i⟩:=RD.mono f (RD.mono n G);obtain⟨C,V,g,rs⟩:=K.obj j a _ i c;subst g;have pv:=RD.mono f (RD.mono n (RD.mono e (show RD X.K P H1 W (.p y) v from p1)));obtain⟨h1,h2⟩:=mD (k:=B) pv u.1 rs;have nt:∀zs,bN H3 b (.tup us) a≠some (.tup zs):=λzs z=>by rw[V]at z;cases z
    have st:=fm (o:=.dT (L2.putK C B v)) K i c trivial nt;have hl:C.length < sizeLine:=by have R:(C.map (·.1)).length≤1000000:=bu u.2.1;rw[aU]at R;exact j5 R (by decide)
    refine⟨a,_,rfl,vL.t (k:=B) V ?_ hl,?_⟩
    .rw [iG p p3];exact aJ
    .exact k J A Z _ (s.trans (e.trans (n.trans (f.trans st)))) (K.set i c trivial nt ⟨_,aJ,h1,cQ.mono st h2⟩) ((((l.mono s).mono e).mono n).mono (f.trans st))
   .cases q
end
section
variable{X:Cx}{pins:PN}{J:L2.St}{H:Y}{s:Shared}{a:Addr}{C:List (dJ×V)}{B:dJ}{u r:Value}{x:V}{A:Around}{E:VP}
theorem En(I:Inv X pins J H s)(e:H a=some (.dK C))(K:C.length < sizeLine)(S:RelV (kV B) u)(o:RelV x r)
  (t:∀v w n,f_ C B=some v->RelV v w->Inv X pins J H n->Q w n) (p:f_ C B=none->∀n,Inv X pins J (bN H a (.dK (L2.putK C B x))) n->Q r n) :
  wpAny (model X.p X.w) A (call (.builtin "dict.setdefault") [.ref a,u,r]) Q E s:=by
 obtain⟨z,hd,F,l,k⟩:=HU I.h e;have h:=l.val B;refine o0 xS k.typeIs PySem.F.entry_dict_setdefault (PySem.F.args_dict_setdefault_3 _ _ _) (kt_meets_setdefault (bX X.p X.w) a (nl S) hd r)
  ⟨F,k,by rw[<- l.length];exact z,λv f=>?_,λc m d j=>?_⟩
 .cases q:f_ C B with
  |none=>rw[q,f]at h;cases h
  |some b=>rw[q,f]at h;exact t b v _ q h (I.tok _)
 .have q:f_ C B=none:=by
   cases q:f_ C B with
   |none=>rfl
   |some b=>rw[q,c]at h;cases h
  refine p q _ ?_;have g:∃q,m.get? a=some q:=let ⟨q,_,_,i,_⟩:=d;⟨q,i⟩
  have y:(L2.putK C B x).length≤sizeLine:=by have:=jG C B x;lia
  exact uf I (by rw[e];exact True.intro) j g (Ej y hd (l.put B o) d)
end
section
variable{X:Cx}{o e f:Expr}{ap cp:Pos}{fo fd:EE}{fk:EV}
@[simp] def z0(o:EE)(k:EV)(d:EE)(L:Lc)(S:aL):uL:=bO (o L S) λx a=>match uX x a with
 |none=>none
 |some _=>bO (k L a) λz e=>bO (d L e) λy h=>match uX x h,gu z with
  |some (i,s,v),some B=>if (s.Nodup/\few s=true) then match df B s v with
    |some w=>some (w,h)
    |none=>some (y,h.set i (.dct (d_ B y s v).1 (d_ B y s v).2))
   else none
  |_,_=>none
theorem FN(ho:O X o (tE X.K fo))(he:O X e (tV X.K fk))(hf:O X f (tE X.K fd))(n:M2 X o "setdefault" ap e f cp):O X (.Call (.Attribute o "setdefault" ap) [e,f] [] cp) (tE X.K (z0 fo fk fd)):=by
 intro pins s J H Q I ⟨F,m,L,S,d,S',r,l,q,k⟩;obtain⟨x,S1,e1,q⟩:=af q;refine wa n.base n.few n.line rV xS PySem.F.type_dict_setdefault
  (cK (ho pins s J H (λv P=>∃b i,Stp F m H b i P/\Rel X.K b P i S1/\RD X.K b P i x v) I ⟨F,m,L,S,x,S1,r,l,e1,λv b i P s1 r1 p1=>⟨b,i,s1,r1,p1⟩⟩) λu s1 ⟨v,P,I1,ru,b,i,R,r1,p1⟩=>?_)
 cases D:uX x S1 with
 |none=>rw[D]at q;cases q
 |some t1=>
  obtain⟨j,ks1,vs1⟩:=t1;rw [D] at q;dsimp only at q;obtain⟨z,S2,e2,q⟩:=af q;obtain⟨y,S3,e3,q⟩:=af q;obtain⟨rfl,es1⟩:=tK D;obtain⟨a,rfl,hm⟩:=id p1;obtain⟨kvs1,hH1,_,_⟩:=r1.obj j a _ hm es1;cases (show u=Value.ref a from ru);obtain⟨t1,t2,_⟩:=wT I1 (.inl ⟨kvs1,.inl hH1⟩);refine⟨t1,t2,?_⟩;rw [n.trees];refine jW rfl (lh (ei (cK (he pins s1 J P (fun vz A=>∃c N,Stp b i P c N A/\Rel X.K c A N S2/\RP X.K c A z vz) I1 ⟨b,i,L,S1,z,S2,r1,l.mono R,e2,fun v c N A s2 r2 G=>⟨c,N,s2,r2,G⟩⟩) fun uz s2 ⟨vz,A,I2,rz,c,N,T,r2,G⟩=>
   ei (cK (hf pins s2 J A (λvy g=>∃p K,Stp c N A p K g/\Rel X.K p g K S3/\RD X.K p g K y vy) I2 ⟨c,N,L,S2,y,S3,r2,(l.mono R).mono T,e3,λv p K g s3 Z p3=>⟨p,K,s3,Z,p3⟩⟩) λuy s3 ⟨vy,g,I3,ry,p,K,V,Z,p3⟩=>g9 ?_))))
  cases eo:uX (.ref j) S3 with
  |none=>rw[eo]at q;cases q
  |some t=>
   obtain⟨j2,ks,vs⟩:=t;rw[eo]at q;cases ek:gu z with
   |none=>rw[ek]at q;cases q
   |some B=>
    rw[ek]at q;dsimp only at q;split at q
    .rename_i hc;obtain⟨e4,E⟩:=tK eo;cases e4;obtain⟨a',e5,M⟩:=RD.mono (T.trans V) p1;cases e5;obtain⟨C,hH,hk,rs⟩:=Z.obj j a _ M E;subst hk;have W:=i5 (k:=B) rs;have pz:=RP.mono V G;have ez:=gS ek pz;subst ez;have hl:C.length < sizeLine:=by
      have h9:(C.map (·.1)).length≤1000000:=bu hc.2;rw[aU]at h9;exact j5 h9 (by decide)
     have stA:=R.trans (T.trans V);refine En I3 hH hl rz ry (λv w s' ev rv I'=>?_) λev s' I'=>?_
     .cases eg:df B (C.map (·.1)) vs with
      |none=>rw[eg]at W;rw[show f_ C B=none from W]at ev;cases ev
      |some w'=>rw[eg]at W q;dsimp only at q;cases q;obtain⟨v',h,rd⟩:=W;rw[ev]at h;cases h;exact⟨v,g,I',rv,k v p K g stA Z rd⟩
     .cases eg:df B (C.map (·.1)) vs with
      |some w'=>rw[eg]at W;obtain⟨v',h,_⟩:=W;rw[ev]at h;cases h
      |none=>
       rw[eg]at q;dsimp only at q;cases q;obtain⟨h1,h2⟩:=mD (k:=B) p3 hc.1 rs;have nt:∀zs,g a≠some (.tup zs):=λzs z=>by rw[hH]at z;cases z
       have st:=fm (o:=.dK (L2.putK C B vy)) Z M E trivial nt;exact⟨vy,_,I',ry,k vy p K _ (stA.trans st) (Z.set M E trivial nt ⟨_,aJ,h1,cQ.mono st h2⟩) (RD.mono st p3)⟩
    .cases q
end
end Ev
set_option tactic.hygienic false
namespace PySem
open PySem PyProof.Rows
section
variable{prog:Program}{w:World}{A:Around}{E:VP}{s:Shared}
theorem pf(t:s.heap.IsTupleIter k h i)(f:s.heap.IsTuple h n)(b:n[i]? = some x)
  (e:∀a,a.IsTupleIter k h (i+1)->eW k s.heap a->Q x { s with heap:=a }):wpAny (model prog w) A (eY (.ref k)) Q E s:=by
 have T:=t.typeIs;obtain⟨⟨q,v,m,r⟩,o,c,hd⟩:=id t;obtain⟨u,l,_,p,d⟩:=f;dsimp only at c hd;subst c hd;unfold eY;apply ab;apply o9 (name:=Str.ofString "__next__") T oa;refine mn oa T xI ?_ (xK _);repeat first|with_reducible refine ab (dw o rfl (x:=.ref h) rfl ?_)|wp_step
 rw[d];apply ah;simp only[lc,b];apply ab;apply Bw o rfl (by simp);refine ah ⟨x,rfl,ah (e _ ⟨_,oU _ o rfl,rfl,?_⟩ (k6 ..))⟩;simp[xt,rawInt]
theorem lA(m:A.handled=none)(t:s.heap.IsTupleIter k h i)(p:s.heap.IsTuple h n)(q:n[i]? = none)
  (b:∀a e,vP k s.heap a->(∃o,a.get? e=some o/\o.cls=.type "StopIteration")->E (.ref e) { s with heap:=a }):wpAny (model prog w) A (eY (.ref k)) Q E s:=by
 have T:=t.typeIs;obtain⟨⟨j,y,v,u⟩,r,c,hd⟩:=id t;obtain⟨z,l,_,g,d⟩:=p;dsimp only at c hd;subst c hd;unfold eY;apply ab;apply o9 (name:=Str.ofString "__next__") T oa;refine mn oa T xI ?_ (xK _);repeat first|with_reducible refine ab (dw r rfl (x:=.ref h) rfl ?_)|wp_step
 rw[d];apply ah;simp only[lc,q];have f:A.in1.handled=none:=m;repeat first|assumption|wp_step
 unfold raiseNew;apply ab;apply wpAny_handled;rw[f];apply wpAny_throw;exact b _ _ (((k6 ..).extBut.push _).push _) ⟨_,bP _ rfl,rfl⟩
def Bp(t:Bool)(h:Heap)(i l:Addr)(k:Nat):Prop:=if t=true then h.IsTupleIter i l k else h.IsListIter i l k
def Hn(t:Bool)(h:Heap)(l:Addr)(y:Array Value):Prop:=if t=true then h.IsTuple l y else h.IsList l y
theorem Bp.extBut(x:Bp n h a l i)(s:vP b h k)(e:a≠b):Bp n k a l i:=by
 cases n
 .exact Heap.IsListIter.extBut x s e
 .exact Heap.IsTupleIter.extBut x s e
theorem Hn.extBut(x:Hn n h a q)(s:vP b h k)(e:a≠b):Hn n k a q:=by
 cases n
 .exact Heap.IsList.extBut x s e
 .exact Heap.IsTuple.extBut x s e
theorem Bp.obj(x:Bp k h a l i):∃o,h.get? a=some o/\(∃v,o.data=.fields v)/\∀s,s.get? a=some o->Bp k s a l i:=by
 cases k
 .obtain⟨o,e,c,d⟩:=x;exact⟨o,e,⟨_,d⟩,λs n=>⟨o,n,c,d⟩⟩
 .obtain⟨o,e,c,d⟩:=x;exact⟨o,e,⟨_,d⟩,λs n=>⟨o,n,c,d⟩⟩
theorem DQ(t:Bp q s.heap k h i)(f:Hn q s.heap h n)(b:n[i]? = some x)
  (e:∀a,Bp q a k h (i+1)->eW k s.heap a->Q x { s with heap:=a }):wpAny (model prog w) A (eY (.ref k)) Q E s:=by
 cases q
 .exact wb t f b e
 .exact pf t f b e
def fE(h:Heap)(z TI TO:Addr)(f x:Value):Prop:=h.get? z=some { cls:=.type "zip",data:=.fields #[f,x,.bool false,.ref TI,.ref TO] }
def dh(h:Heap)(T:Addr)(a b:Value):Prop:=h.get? T=some { cls:=.type "tuple",data:=.seq #[a,b] }
theorem BW (l y:Addr) (xs ys:Array Value):Meets (Builtin.«zip.__new__» ⟨[.type "zip",.ref l,.ref y],[]⟩) (fun _ R s=>s.heap.IsList l xs/\s.heap.IsTuple y ys /\
  ∀v S F TI TO z,(∀b o,s.heap.get? b=some o->v.get? b=some o)->s.heap.objs.size≤S->S < F->F < TI->TI < TO->TO < z->v.IsListIter S l 0->v.IsTupleIter F y 0->dh v TI (.ref S) (.ref F)->dh v TO .none .none ->
   fE v z TI TO .none (.bool false)->R (.ok (.ret (.ref z))) { s with heap:=v }):=
 .of_wp λprog w A R s h=>by
  obtain⟨i,g,d,Z,os⟩:=s;obtain⟨B,C,h⟩:=h;have X:=sub_zip;have L:Heap.IsList (Shared.heap ⟨i,g,d,Z,os⟩) l xs:=B;have P:Br (Shared.heap ⟨i.push { cls:=.type "list_iterator",data:=.fields #[.ref l,.int 0 0] },g,d,Z,os⟩) y ys:=C.push _
  wp_walk using rX L,rZ P
  have j:∀(u n x a f c:Heap)(r t p q m:Obj),n=u.push r->x=n.push t->a=x.push p->f=a.push q->c=f.push m->r.isFreed=false->t.isFreed=false->p.isFreed=false->q.isFreed=false->m.isFreed=false ->
    (∀b o,u.get? b=some o->c.get? b=some o)/\u.objs.size < n.objs.size/\n.objs.size < x.objs.size/\x.objs.size < a.objs.size/\a.objs.size < f.objs.size /\
    c.get? u.objs.size=some r/\c.get? n.objs.size=some t/\c.get? x.objs.size=some p/\c.get? a.objs.size=some q/\c.get? f.objs.size=some m:=by
   intro u n x a f c r t p q m E G I M N f1 f2 f3 f4 f5;have Q:n.get? u.objs.size=some r:=by rw[E];exact bP _ f1
   have T:x.get? n.objs.size=some t:=by rw[G];exact bP _ f2
   have V:a.get? x.objs.size=some p:=by rw[I];exact bP _ f3
   have W:f.get? a.objs.size=some q:=by rw[M];exact bP _ f4
   have g5:c.get? f.objs.size=some m:=by rw[N];exact bP _ f5
   have u2:∀b o,n.get? b=some o->x.get? b=some o:=λb o e=>by rw[G];exact aV _ e
   have D:∀b o,x.get? b=some o->a.get? b=some o:=λb o e=>by rw[I];exact aV _ e
   have K:∀b o,a.get? b=some o->f.get? b=some o:=λb o e=>by rw[M];exact aV _ e
   have H:∀b o,f.get? b=some o->c.get? b=some o:=λb o e=>by rw[N];exact aV _ e
   exact⟨λb o e=>H _ _ (K _ _ (D _ _ (u2 _ _ (by rw[E];exact aV _ e)))),aI Q,aI T,aI V,aI W,H _ _ (K _ _ (D _ _ (u2 _ _ Q))),H _ _ (K _ _ (D _ _ T)),H _ _ (K _ _ V),H _ _ W,g5⟩
  let r:Obj:={ cls:=.type "list_iterator",data:=.fields #[.ref l,.int 0 0] }
  let n:=i.push r
  let t:Obj:={ cls:=.type "tuple_iterator",data:=.fields #[.ref y,.int 0 0] }
  let x:=n.push t
  let p:Obj:={ cls:=.type "tuple",data:=.seq #[.ref i.objs.size,.ref n.objs.size] }
  let a:=x.push p
  let q:Obj:={ cls:=.type "tuple",data:=.seq #[.none,.none] }
  let f:=a.push q
  let m:Obj:={ cls:=.type "zip",data:=.fields #[.none,.bool false,.bool false,.ref x.objs.size,.ref a.objs.size] }
  obtain⟨k,s1,s2,s3,s4,a1,a2,a3,a4,a5⟩:=j i n x a f (f.push m) r t p q m rfl rfl rfl rfl rfl rfl rfl rfl rfl rfl;exact⟨_,rfl,h (f.push m) i.objs.size n.objs.size x.objs.size a.objs.size f.objs.size k (ag _) s1 s2 s3 s4 ⟨_,a1,rfl,rfl⟩ ⟨_,a2,rfl,rfl⟩ a3 a4 a5⟩
end
section
variable{prog:Program}{w:World}{A:Around}{E:VP}{s:Shared}
theorem Bk(h:Q (s.heap.get? a) s):wpAny M A (loadIfAlive a) Q E s:=λx p _=>by unfold loadIfAlive;rw[Sem.wp_loadIfAlive];exact(Sem.wp_pure ..).mpr h
theorem pQ{z TI TO T:Addr}{f:Bool}{o:Obj}{Q:Bool->Shared->Prop}(a:fE s.heap z TI TO (rawInt T) (.bool f))(n:s.heap.get? T=some o)
  (h:∀e,fE e z TI TO (rawInt T) (.bool true)->eW z s.heap e->Q false { s with heap:=e }):wpAny (model prog w) A (nT (.ref z)) Q E s:=by
 unfold nT;apply ab;refine dw (show s.heap.get? z=some _ from a) rfl (x:=rawInt T) rfl ?_;unfold rawInt;dsimp only;apply ab;refine Bk ?_;rw[lc,n];rw[al (by simp)];apply ab;refine dw (show s.heap.get? z=some _ from a) rfl (x:=.bool f) rfl ?_;cases f with
 |true=>rw[al (by decide)];exact ah (h s.heap a ⟨rfl,λ_ _=>rfl⟩)
 |false=>rw[ai (by decide)];apply ab;refine Bw (show s.heap.get? z=some _ from a) rfl (by simp) (ah (h _ ?_ (k6 ..)));unfold fE;rw[oU _ (show s.heap.get? z=some _ from a) rfl];simp[xt]
theorem Ap{z TI TO i a l r T:Addr}{P:Bool}{k:Nat}{S F:Array Value}{x y:Value}{oT:Obj}{Q:VP}(d:fE s.heap z TI TO (rawInt T) (.bool P))(I:dh s.heap TI (.ref i) (.ref a))(G:s.heap.get? T=some oT)
  (B:s.heap.IsListIter i l k) (C:s.heap.IsTupleIter a r k) (p:s.heap.IsList l S) (q:s.heap.IsTuple r F) (M:S[k]? = some x) (R:F[k]? = some y)
  (g:i≠z) (j:a≠z) (X:l≠z) (Z:r≠z) (H:a≠i) (n6:r≠i) (n7:l≠a) (n8:l≠i) (n9:r≠a)
  (D:∀m:Heap,fE m z TI TO (rawInt T) (.bool true)->m.IsListIter i l (k+1)->m.IsTupleIter a r (k+1)->(∀c o,c≠z->c≠i->c≠a->s.heap.get? c=some o->m.get? c=some o) ->
   Q (.ref m.objs.size) { s with heap:=m.push { cls:=.type "tuple",data:=.seq #[x,y] } }) :
  wpAny (model prog w) A (Builtin.«zip.__next__» ⟨[.ref z],[]⟩) (λt s'=>∃h,t=.done (.ret h)/\Q h s') E s:=by
 unfold Builtin.«zip.__next__»;apply ab;apply ah;apply ab;refine dw (show s.heap.get? z=some _ from d) rfl (x:=.bool false) rfl ?_;apply ab;refine dw (show s.heap.get? z=some _ from d) rfl (x:=.ref TI) rfl ?_;apply ab;refine gM (show s.heap.get? TI=some _ from I) rfl ?_;dsimp only;rw[al (by simp)];apply ab;refine pQ d G λh0 u b=>?_
 rw[al (by simp)];apply ab;rw[<- yh];show wpAny _ _ (forIn [Value.ref i,Value.ref a] _ _) _ _ _;rw[iY];apply ab;apply ab;apply eK;show wpAny _ _ (eY (.ref i) >>= _) _ _ _;apply ab;refine wb (B.extBut b.extBut g) (p.extBut b.extBut X) M λha V n=>ah ?_;dsimp only;apply ah;dsimp only;rw[iY];apply ab;apply ab;apply eK;show wpAny _ _ (eY (.ref a) >>= _) _ _ _;apply ab;refine pf ((C.extBut b.extBut j).extBut n.extBut H) ((q.extBut b.extBut Z).extBut n.extBut n6) R λL W f=>ah ?_;dsimp only;apply ah;dsimp only;rw[yu];apply ah;dsimp only;apply ab;refine vZ (hsz:=by show 2≤sizeLine;decide) (ah ⟨_,rfl,D L ?_ ?_ W ?_⟩)
 .exact f.extBut _ _ (aK j) (n.extBut _ _ (aK g) u)
 .exact V.extBut f.extBut (aK H)
 .exact λc o N v K e=>f.extBut _ _ K (n.extBut _ _ v (b.extBut _ _ N e))
theorem BX{z TI TO i f n T:Addr}{t:Bool}{k:Nat}{m:Array Value}{S:Obj}{Q:Fin->Shared->Prop}(u:A.handled=none)(a:fE s.heap z TI TO (rawInt T) (.bool t))(I:dh s.heap TI (.ref i) (.ref f))(d:s.heap.get? T=some S)
  (p:s.heap.IsListIter i n k) (l:s.heap.IsList n m) (g:m[k]? = none) (y:i≠z) (H:n≠z)
  (q:∀h e,(∀c o,c≠z->c≠i->s.heap.get? c=some o->h.get? c=some o)->(∃o,h.get? e=some o/\o.cls=.type "StopIteration")->E (.ref e) { s with heap:=h }) :
  wpAny (model prog w) A (Builtin.«zip.__next__» ⟨[.ref z],[]⟩) Q E s:=by
 unfold Builtin.«zip.__next__»;apply ab;apply ah;apply ab;refine dw (show s.heap.get? z=some _ from a) rfl (x:=.bool false) rfl ?_;apply ab;refine dw (show s.heap.get? z=some _ from a) rfl (x:=.ref TI) rfl ?_;apply ab;refine gM (show s.heap.get? TI=some _ from I) rfl ?_;dsimp only;rw[al (by simp)];apply ab;refine pQ a d λF j b=>?_
 rw[al (by simp)];apply ab;rw[<- yh];show wpAny _ _ (forIn [Value.ref i,Value.ref f] _ _) _ _ _;rw[iY];apply ab;apply ab;apply eK;show wpAny _ _ (eY (.ref i) >>= _) _ _ _;apply ab;exact BO u (p.extBut b.extBut y) (l.extBut b.extBut H) g λh e x o=>q h e (λc K N v r=>x _ _ v (b.extBut _ _ N r)) o
end
section
variable{prog:Program}{w:World}{A:Around}{E:VP}{s:Shared}
theorem qF{tp:Bool}{k:Nat}{z TI TO i d D l:Addr}{xs ys:Array Value}{x y p q:Value}{Q:VP}(H:fE s.heap z TI TO .none (.bool false))(L:dh s.heap TI (.ref i) (.ref d))(M:dh s.heap TO p q)
  (h1:s.heap.IsListIter i D k) (h2:Bp tp s.heap d l k) (R:s.heap.IsList D xs) (V:Hn tp s.heap l ys) (hx:xs[k]? = some x) (hy:ys[k]? = some y)
  (n1:i≠z) (n2:d≠z) (n3:D≠z) (n4:l≠z) (n5:d≠i) (n6:l≠i) (G:TO≠z) (n8:TO≠i) (n9:TO≠d) (n10:l≠TO)
  (hQ:∀(g:Heap) (T:Addr),fE g z TI TO (rawInt T) (.bool false)->g.IsListIter i D (k+1)->Bp tp g d l (k+1)->dh g TO x y->dh g T x y->T=s.heap.objs.size->(∀c o,c≠z->c≠i->c≠d->c≠TO->s.heap.get? c=some o->g.get? c=some o) ->
   Q (.ref T) { s with heap:=g }) :
  wpAny (model prog w) A (Builtin.«zip.__next__» ⟨[.ref z],[]⟩) (λI s'=>∃h,I=.done (.ret h)/\Q h s') E s:=by
 unfold Builtin.«zip.__next__»;apply ab;apply ah;apply ab;refine dw (show s.heap.get? z=some _ from H) rfl (x:=.bool false) rfl ?_;apply ab;refine dw (show s.heap.get? z=some _ from H) rfl (x:=.ref TI) rfl ?_;apply ab;refine gM (show s.heap.get? TI=some _ from L) rfl ?_;dsimp only;rw[al (by simp)];apply ab;unfold nT;apply ab;refine dw (show s.heap.get? z=some _ from H) rfl (x:=.none) rfl (ah ?_);rw[ai rfl];apply ab;apply oZ;apply ab;refine dw (show s.heap.get? z=some _ from H) rfl (x:=.ref TO) rfl ?_;dsimp only;apply ab;refine o7 (show s.heap.get? z=some _ from H) (by simp) λh0 W b=>?_
 apply ab;show wpAny _ _ (forIn [(Value.ref i,0),(Value.ref d,1)] _ _) _ _ _;rw[iY];apply ab;apply ab;apply vX;show wpAny _ _ (eY (.ref i) >>= _) _ _ _;apply ab;refine wb (h1.extBut b.extBut n1) (R.extBut b.extBut n3) hx λha ia n=>ah ?_;dsimp only;have P:ha.get? TO=some { cls:=.type "tuple",data:=.seq #[p,q] }:=n.extBut _ _ n8 (b.extBut _ _ G M);apply ab;refine gM P rfl ?_;dsimp only;apply ab;refine BM (s:={ s with heap:=ha }) P λhb j f=>?_;replace j:hb.get? TO=some { cls:=.type "tuple",data:=.seq #[x,q] }:=j;apply ab;apply mm;apply ah;dsimp only;rw[iY];apply ab;apply ab;apply vX;show wpAny _ _ (eY (.ref d) >>= _) _ _ _;apply ab;refine DQ (((h2.extBut b.extBut n2).extBut n.extBut n5).extBut f.extBut (aK n9)) (((V.extBut b.extBut n4).extBut n.extBut n6).extBut f.extBut n10) hy λhc ic m=>ah ?_;dsimp only;have B:hc.get? TO=some { cls:=.type "tuple",data:=.seq #[x,q] }:=m.extBut _ _ n9 j;apply ab;refine gM B rfl ?_;dsimp only;apply ab;refine BM (s:={ s with heap:=hc }) B λhd u t=>?_;replace u:hd.get? TO=some { cls:=.type "tuple",data:=.seq #[x,y] }:=u;apply ab;apply mm;apply ah;dsimp only;rw[yu];apply ah;dsimp only;apply ab;refine gM u rfl ?_;dsimp only;apply ab;refine vZ (hsz:=by show 2≤sizeLine;decide) ?_;have S:hd.get? z=some { cls:=.type "zip",data:=.fields #[.ellipsis,.bool false,.bool false,.ref TI,.ref TO] }:=t.extBut _ _ (aK G) (m.extBut _ _ (aK n2) (f.extBut _ _ (aK G) (n.extBut _ _ (aK n1) W)));have C:=aI S;have X:(hd.push { cls:=.type "tuple",data:=.seq #[x,y] }).get? z=some { cls:=.type "zip",data:=.fields #[.ellipsis,.bool false,.bool false,.ref TI,.ref TO] }:=aV _ S;apply ab;unfold E3;dsimp only;apply ab;refine o7 X (by simp) λhe Z F=>?_;refine o7 Z (by simp) λhf hz7 K=>?_;have a:∀c o,c≠z->hd.get? c=some o->hf.get? c=some o:=λc o N e=>K.extBut _ _ N (F.extBut _ _ N (aV _ e));refine ah ⟨_,rfl,hQ hf hd.objs.size hz7 ?_ ?_ (a _ _ G u) ?_ ?_ ?_⟩
 .exact (((ia.extBut f.extBut (aK n8)).extBut m.extBut (aK n5)).extBut t.extBut (aK n8)).at λo e=>a _ o n1 e
 .obtain⟨o,e,_,r⟩:=(ic.extBut t.extBut (aK n9)).obj;exact r _ (a _ o n2 e)
 .exact K.extBut _ _ (bL C) (F.extBut _ _ (bL C) (bP _ rfl))
 .show hd.objs.size=s.heap.objs.size;rw[t.1,m.1,f.1,n.1,b.1]
 .exact λc o N v c3 c4 e=>a c o N (t.extBut _ _ c4 (m.extBut _ _ c3 (f.extBut _ _ c4 (n.extBut _ _ v (b.extBut _ _ N e)))))
theorem uB(H:A.handled=none)(a:fE s.heap z TI TO .none (.bool false))(T:dh s.heap TI (.ref d) (.ref I))
  (i:s.heap.IsListIter d g k) (l:s.heap.IsList g M) (S:M[k]? = none) (t:d≠z) (K:g≠z)
  (y:∀h e,(∀c o,c≠z->c≠d->s.heap.get? c=some o->h.get? c=some o)->(∃o,h.get? e=some o/\o.cls=.type "StopIteration")->E (.ref e) { s with heap:=h }) :
  wpAny (model prog w) A (Builtin.«zip.__next__» ⟨[.ref z],[]⟩) Q E s:=by
 unfold Builtin.«zip.__next__»;apply ab;apply ah;apply ab;refine dw (show s.heap.get? z=some _ from a) rfl (x:=.bool false) rfl ?_;apply ab;refine dw (show s.heap.get? z=some _ from a) rfl (x:=.ref TI) rfl ?_;apply ab;refine gM (show s.heap.get? TI=some _ from T) rfl ?_;dsimp only;rw[al (by simp)];apply ab;unfold nT;apply ab;refine dw (show s.heap.get? z=some _ from a) rfl (x:=.none) rfl (ah ?_);rw[ai rfl];apply ab;apply oZ;apply ab;refine dw (show s.heap.get? z=some _ from a) rfl (x:=.ref TO) rfl ?_;dsimp only;apply ab;refine o7 (show s.heap.get? z=some _ from a) (by simp) λB r b=>?_
 apply ab;show wpAny _ _ (forIn [(Value.ref d,0),(Value.ref I,1)] _ _) _ _ _;rw[iY];apply ab;apply ab;apply vX;show wpAny _ _ (eY (.ref d) >>= _) _ _ _;apply ab;refine BO H (i.extBut b.extBut t) (l.extBut b.extBut K) S λh e x o=>?_;have n:=x _ _ (aK t) r;refine o7 (s:={ s with heap:=h }) n (by simp) λj F f=>y j e (λc p N v u=>f.extBut _ _ N (x _ _ v (b.extBut _ _ N u))) ?_;obtain⟨p,m,c⟩:=o;have P:e≠z:=λq=>by rw[q,n]at m;cases m;exact absurd (show Value.type "zip"=Value.type "StopIteration" from c) (by decide)
 exact⟨p,f.extBut _ _ P m,c⟩
end
theorem ux:typeLookup (.type "zip") "keys"=pure none:=by rw[Bx,BN];kernel_rfl
theorem pa:typeLookup (.type "zip") "__getattr__"=pure none:=by rw[Bx,BN];kernel_rfl
theorem mu:entryFor table "zip.__getattribute__"=some Builtin.«object.__getattribute__»:=
 entryFor_alias (id':="object.__getattribute__") (by kernel_rfl) (by decide +kernel) (by decide +kernel) (by kernel_rfl)
section
variable{prog:Program}{w:World}{A:Around}{E:VP}{s:Shared}
theorem BV(z TI TO:Addr)(f0 f1:Value)(u:Tok):Meets (Builtin.«object.__getattribute__» ⟨[.ref z,.str "keys" u],[]⟩) (λA R s=>fE s.heap z TI TO f0 f1/\raisesAttr (.ref z) "keys" A R s):=
 .of_wp λprog w A R s hs=>by
  obtain⟨hp,g,d,tk,os⟩:=s;obtain⟨hx,hs⟩:=hs;unfold fE at hx;have hT:(⟨hp,g,d,tk,os⟩:Shared).TypeIs (.ref z) "zip":=⟨_,hx,rfl⟩;have nk:=ux;unfold Builtin.«object.__getattribute__»;repeat any_goals first|assumption|wp_step
  exact wpAny_raiseAttrError hs.1 hs.2 (attrMsg_fits (by decide +kernel) (by size_fits))
theorem Ao(q:fE s.heap z TI TO l j)(i:A.handled=none)
  (h:∀x v,(∀b o,s.heap.get? b=some o->x.get? b=some o)->Q none { s with heap:=x,toks:=v }):wpAny (model prog w) A (getAttr? (.ref z) "keys") Q E s:=by
 obtain⟨p,g,d,v,os⟩:=s;have T:∀t,(⟨p,g,d,t,os⟩:Shared).TypeIs (.ref z) "zip":=λ_=>⟨_,q,rfl⟩;have j:=sub_AttributeError;have y:=rR.lookup;have H:=rR.bind (.ref z);have S:=pa;have step:∀(n:Nat)(u:Tok)(m:VP)(f:VP),(∀x c e,Heap.NewAttrErr p x e (.ref z) "keys"->f (.ref e) ⟨x,g,d,c,os⟩) ->
   wpAny (model prog w) A (call (Value.builtin "zip.__getattribute__") ([Value.ref z]++[Value.str "keys" u]) []) m f ⟨p,g,d,n,os⟩:=λn u m f k=>
  gL rR (T _) mu (F.args_zip_getattribute_2 _ _) (BV z TI TO _ _ u) ⟨q,i,k⟩
 unfold getAttr?;unfold getAttrBy?;unfold getAttrBy;repeat any_goals first|assumption|exact T _|(with_reducible refine step _ _ _ _ λx t e a=>?_)|wp_step
 have r:=a.there;obtain⟨K,P,r⟩:=r;repeat any_goals first|assumption|wp_step
 exact h _ _ a.keeps
end
section
variable{prog:Program}{w:World}{A:Around}{E:VP}{s:Shared}
theorem sX(n:s.TypeIs (.ref z) "zip")
  (h:wpAny (model prog w) A.in1 (Builtin.«zip.__next__» ⟨[.ref z],[]⟩) (λf x=>∃v,f=.done (.ret v)/\Q (some v) x) (λe x=>∃a o,e=.ref a/\x.heap.get? a=some o/\o.cls=.type "StopIteration"/\Q none x) s) :
  wpAny (model prog w) A (pyNext (.ref z)) Q E s:=by
 unfold pyNext;apply ab;apply wpAny_attempt;refine o9 (name:=Str.ofString "__next__") n xy (mn xy n F.entry_zip_next (cy h (λf x ⟨v,e,q⟩=>⟨v,e,ah q⟩) λe x ⟨a,o,k,c,m,q⟩=>?_) (F.args_zip_next_1 _));subst k;apply ab;exact wpAny_isInstance (T:="StopIteration") (b:=true) ⟨_,c,m⟩ isSubtype_stop (ah q)
def Hm(d:Addr)(h:Heap)(z TI TO i x l a:Addr)(k:Nat):Prop:=dh h TI (.ref i) (.ref x)/\h.IsListIter i l k/\h.IsTupleIter x a k /\
 ((k=0/\fE h z TI TO .none (.bool false)/\dh h TO .none .none)\/∃(T:Addr)(o:Obj)(f:Bool),fE h z TI TO (rawInt T) (.bool f)/\h.get? T=some o/\T≠z/\T≠i/\T≠x/\T≠d)
structure ZAp(d z TI TO i1 i2 l1 l2:Addr):Prop where
 nd:[d,z,TI,TO,i1,i2].Nodup
 l1n:l1 ∉ [d,z,TI,TO,i1,i2]
 l2n:l2 ∉ [d,z,TI,TO,i1,i2]
theorem Hm.typeIs(x:Hm d s.heap z TI TO n q l g k):s.TypeIs (.ref z) "zip":=by
 obtain⟨_,_,_,⟨_,h,_⟩|⟨T,o,f,h,_⟩⟩:=x
 .exact⟨_,h,rfl⟩
 .exact⟨_,h,rfl⟩
theorem Hm.but(x:Hm d h z TI TO q g l j k)(p:ZAp d z TI TO q g l j)(s:eW d h I):Hm d I z TI TO q g l j k:=by
 have n:=p.nd;simp only[b8,aW,cm,eX,i4]at n;obtain⟨b,c,m,r⟩:=x;refine⟨s.extBut _ _ (aK n.1.2.1) b,c.extBut s.extBut (aK n.1.2.2.2.1),m.extBut s.extBut (aK n.1.2.2.2.2),?_⟩;rcases r with ⟨e,a,t⟩|⟨T,o,v,a,t,w,u,i,f⟩
 .exact .inl ⟨e,s.extBut _ _ (aK n.1.1) a,s.extBut _ _ (aK n.1.2.2.1) t⟩
 .exact .inr ⟨T,o,v,s.extBut _ _ (aK n.1.1) a,s.extBut _ _ f t,w,u,i,f⟩
theorem BZ(p:ZAp d z TI TO I M l1 l2)(a:Hm d s.heap z TI TO I M l1 l2 k)(hd:s.heap.get? d=some od)(l:s.heap.IsList l1 xs)(b:s.heap.IsTuple l2 ys)(B:xs[k]? = some x)(C:ys[k]? = some y)
  (P:∀h T,Hm d h z TI TO I M l1 l2 (k+1)->dh h T x y->T≠d->(∀c o,c ∉ [z,TO,I,M]->s.heap.get? c=some o->h.get? c=some o)->Q (some (.ref T)) { s with heap:=h }) :
  wpAny (model prog w) A (pyNext (.ref z)) Q E s:=by
 have X:=p.nd;have V:=p.l1n;have W:=p.l2n;simp only[b8,aW,cm,eX,i4]at X V W;refine sX a.typeIs ?_;obtain⟨m,g,i,R⟩:=a;rcases R with ⟨e,v,t⟩|⟨T,Z,f1,v,t,G,L,N,t4⟩
 .subst e;refine qF (tp:=true) v m t g i l b B C (by grind) (by grind) (by grind) (by grind) (by grind) (by grind) (by grind) (by grind) (by grind) (by grind) λh T S F K _ D q5 q=>?_
  have fresh:∀c o,s.heap.get? c=some o->T≠c:=λc o f z=>absurd (aI f) (by rw[<- z,q5];exact gC _);obtain⟨oi1,j,_⟩:=g;obtain⟨oi2,H,_⟩:=i;exact P h T ⟨q _ _ (by grind) (by grind) (by grind) (by grind) m,F,K,.inr ⟨T,_,false,S,D,fresh _ _ v,fresh _ _ j,fresh _ _ H,fresh _ _ hd⟩⟩ D (fresh _ _ hd) λc o n f=>q c o (λz=>n (by simp[z])) (λz=>n (by simp[z])) (λz=>n (by simp[z])) (λz=>n (by simp[z])) f
 .refine Ap v m t g i l b B C (by grind) (by grind) (by grind) (by grind) (by grind) (by grind) (by grind) (by grind) (by grind) λh S F K q=>?_;have dl:d < h.objs.size:=aI (q _ _ (by grind) (by grind) (by grind) hd);have u:∀c o,h.get? c=some o->(h.push { cls:=.type "tuple",data:=.seq #[x,y] }).get? c=some o:=λc o e=>aV _ e;refine P _ _ ⟨u _ _ (q _ _ (by grind) (by grind) (by grind) m),?_,?_,.inr ⟨T,Z,true,u _ _ S,u _ _ (q _ _ G L N t),G,L,N,t4⟩⟩ (bP _ rfl) (bL dl) λc o n f=>u _ _ (q c o (λz=>n (by simp[z])) (λz=>n (by simp[z])) (λz=>n (by simp[z])) f)
  .obtain⟨o,e,r⟩:=F;exact⟨o,u _ _ e,r⟩
  .obtain⟨o,e,r⟩:=K;exact⟨o,u _ _ e,r⟩
theorem FI(u:A.handled=none)(p:ZAp d z TI TO j I M l2)(a:Hm d s.heap z TI TO j I M l2 k)(l:s.heap.IsList M xs)(i:xs[k]? = none)
  (v:∀h,(∀c o,c ∉ [z,TO,j,I]->s.heap.get? c=some o->h.get? c=some o)->Q none { s with heap:=h }):wpAny (model prog w) A (pyNext (.ref z)) Q E s:=by
 have S:=p.nd;have H:=p.l1n;simp only[b8,aW,cm,eX,i4]at S H;refine sX a.typeIs ?_;obtain⟨r,t,F,y⟩:=a;rcases y with ⟨e,n,g⟩|⟨T,P,K,n,g,B,C,D,G⟩
 .subst e;exact uB u n r t l i (by grind) (by grind) λh e q n=>by obtain⟨o,b,m⟩:=n;exact⟨e,o,rfl,b,m,v h λc o x f=>q c o (λz=>x (by simp[z])) (λz=>x (by simp[z])) f⟩
 .exact BX u n r g t l i (by grind) (by grind) λh e q ⟨o,b,m⟩=>⟨e,o,rfl,b,m,v h λc o x f=>q c o (λz=>x (by simp[z])) (λz=>x (by simp[z])) f⟩
end
section
variable{prog:Program}{w:World}{K:Type}[DecidableEq K]{t:KeyKind prog w K}{A:Around}{E:VP}{R:Result->Shared->Prop}
inductive ZipsAt(knd:KeyKind prog w K):LV->LV->List (K×Value)->Prop
 |nil {vs:LV}:ZipsAt knd [] vs []
 |cons {key v:Value}{k:K}{us vs:LV}{kvs:List (K×Value)}:knd.is k key=true->ZipsAt knd us vs kvs->ZipsAt knd (key::us) (v::vs) ((k,v)::kvs)
set_option tactic.hygienic true in
theorem w5(hh:A.handled=none){u:Heap}(p:ZAp d z TI TO i1 i2 l1 l2)(fr:∀a ∈ [d,z,TI,TO,i1,i2],u.get? a=none)(L:u.IsList l1 j)(hl2:u.IsTuple l2 ys) :
  ∀(n:List (K×Value))(i:Nat)(f:List (K×Value))(s:Shared),(∀b o,u.get? b=some o->s.heap.get? b=some o)->Hm d s.heap z TI TO i1 i2 l1 l2 i->s.heap.DictOf t d f->ZipsAt t (j.toList.drop i) (ys.toList.drop i) n ->
   ((f++n).map (·.1)).Nodup->(f++n).length≤sizeLine->i+n.length=j.size ->
   (∀l t',(∀b o,u.get? b=some o->l.get? b=some o)->l.DictOf t d (f++n)->R (.ok (.ret .none)) { s with heap:=l,toks:=t' }) ->
   codeAny (model prog w) A (.builtin "dict.update.loop" ⟨[.ref d,.ref z,rawInt i,.none],[]⟩) R s:=by
 have nd:=p.nd;simp only[b8,aW,cm,eX,i4]at nd;have P:∀b o,u.get? b=some o->b ∉ [d,z,TI,TO,i1,i2]:=λb o e m=>by rw[fr b m]at e;cases e
 have dz:d ∉ [z,TO,i1,i2]:=by simp only[aW,cm,eX,i4];grind
 intro n;induction n with
 |nil=>
  intro i f s C y hd X N Z hi h;have I:j[i]? = none:=by simp at hi ⊢;lia
  have H:s.heap.IsList l1 j:=by obtain⟨o,S,r⟩:=L;exact⟨o,C _ _ S,r⟩
  refine kG F.entry_dict_update_loop ?_;rw[iT F.plain_dict_update_loop _];unfold Builtin.«dict.update.loop»;show wpAny _ A.in1 (pyNext (.ref z) >>= _) _ _ s;refine ab (FI hh p y H I λl D=>?_);show wpAny _ A.in1 (EZ d [] >>= _) _ _ _;rw[dR]at h;apply ab;apply ah;apply ah;refine h l s.toks (λb o e=>D b o (λm=>P b o e (by simp only[aW,cm,eX]at m ⊢;grind)) (C b o e)) ?_;obtain⟨o,c,ep,S,r⟩:=hd;exact⟨o,c,ep,D _ _ dz S,r⟩
 |cons kv n ih=>
  intro i f s C y hd X N Z hi h;have H:s.heap.IsList l1 j:=by obtain⟨o,S,r⟩:=L;exact⟨o,C _ _ S,r⟩
  have M:s.heap.IsTuple l2 ys:=by obtain⟨o,S,r⟩:=hl2;exact⟨o,C _ _ S,r⟩
  generalize er:j.toList.drop i=us at X;generalize c:ys.toList.drop i=vs at X;cases X with
  |cons hk hps=>
   rename_i B v k us' vs';have hx:j[i]? = some B:=by have:=d8 (·[0]?) er;simpa using this
   have hy:ys[i]? = some v:=by have:=d8 (·[0]?) c;simpa using this
   have er':j.toList.drop (i+1)=us':=by rw[<- yt,er];rfl
   have es':ys.toList.drop (i+1)=vs':=by rw[<- yt,c];rfl
   obtain⟨od,ed1,ed2,Q,hdr⟩:=id hd;refine kG F.entry_dict_update_loop ?_;rw[iT F.plain_dict_update_loop _];unfold Builtin.«dict.update.loop»;show wpAny _ A.in1 (pyNext (.ref z) >>= _) _ _ s;refine ab (BZ p y Q H M hx hy λW T za g hTd D=>?_);have kp1:∀b o,u.get? b=some o->W.get? b=some o:=λb o e=>D b o (λm=>P b o e (by simp only[aW,cm,eX]at m ⊢;grind)) (C b o e);have hd1:W.DictOf t d f:=⟨od,ed1,ed2,D _ _ dz Q,hdr⟩;show wpAny _ A.in1 (holding [Value.ref T] _ >>= _) _ _ _;apply ab;apply eK;apply ab;apply o4;unfold E1;refine ab (o3 (T:="tuple") ⟨_,g,rfl⟩ ?_);rw[ai (by decide)];refine ab (gM (show W.get? T=some _ from g) rfl (ah ?_));show wpAny _ A.in1 (holding [B,v] (dictSet d B v)) _ _ _;refine eK ?_;refine wpAny_dictSet_pairs (s:={ s with heap:=W }) hk hd1 (λh2 G V=>?_) (by simp at Z;lia);have hnk:k ∉ f.map (·.1):=by intro hm;rw[sk,sC]at N;exact N.2.2 _ hm _ (by simp) rfl
   have est:stored f k v=f++[(k,v)]:=by unfold stored;rw[al];intro E;obtain⟨x,hx1,hx2⟩:=oy.mp E;exact hnk (a_.mpr ⟨x,hx1,bu hx2⟩)
   rw[est]at G;refine ah ⟨kF F.plain_dict_update_loop _,?_⟩;have kp2:∀b o,u.get? b=some o->h2.get? b=some o:=λb o e=>V.extBut _ _ (λq=>P b o e (by simp[q])) (kp1 b o e);have e1:f++(k,v)::n=(f++[(k,v)])++n:=by simp
   rw[e1]at N Z h;exact ih (i+1) (f++[(k,v)]) { s with heap:=h2,toks:=s.toks+1 } kp2 (za.but p V) G (er' ▸ es' ▸ hps) N Z (by simp at hi;lia) λl t' k1 k2=>h l t' k1 k2
end
section
variable{prog:Program}{w:World}{K:Type}[DecidableEq K]{t:KeyKind prog w K}{A:Around}{E:VP}{s:Shared}
theorem nC(l:s.heap.IsList n I)(e:s.heap.IsTuple q M)
  (h:∀x i a TI TO z,(∀b o,s.heap.get? b=some o->x.get? b=some o)->s.heap.objs.size≤i->i < a->a < TI->TI < TO->TO < z->x.IsListIter i n 0->x.IsTupleIter a q 0->dh x TI (.ref i) (.ref a)->dh x TO .none .none ->
   fE x z TI TO .none (.bool false)->Q (.ref z) { s with heap:=x }):wpAny (model prog w) A (call (.type "zip") [.ref n,.ref q]) Q E s:=by
 refine callType_new F.called_zip (by decide) (F.typeCall_zip_2 _ _) (F.newCall_zip_2 _ _) (λj=>F.args_object_init_3 j _ _) F.entry_zip_new (BW n q I M) ⟨l,e,λx i a TI TO z k c m r t p v d u g f=>?_⟩;show _/\_;exact⟨⟨_,f,rfl⟩,h x i a TI TO z k c m r t p v d u g f⟩
theorem qB{k:Heap}(hh:A.handled=none)(k0:∀b o,k.get? b=some o->s.heap.get? b=some o)(H:k.IsList l1 xs)(S:k.IsTuple l2 ys)
  (i:k.objs.size≤I) (D:I < M) (G:M < TI) (P:TI < TO) (j:TO < z) (b1:s.heap.IsListIter I l1 0) (b2:s.heap.IsTupleIter M l2 0) (b3:dh s.heap TI (.ref I) (.ref M)) (b4:dh s.heap TO .none .none) (y:fE s.heap z TI TO .none (.bool false))
  (hp:ZipsAt t xs.toList ys.toList C) (hn:(C.map (·.1)).Nodup) (hz:C.length≤sizeLine) (hi:C.length=xs.size)
  (h:∀d X,(∀b o,k.get? b=some o->d.get? b=some o)->d.DictOf t s.heap.objs.size C->Q (.ref s.heap.objs.size) { s with heap:=d,toks:=X }) :
  wpAny (model prog w) A (call (.type "dict") [.ref z]) Q E s:=by
 have fresh:(s.heap.push { cls:=.type "dict",data:=.dict #[] }).DictOf t s.heap.objs.size []:=.new s.heap;have u:∀b o,s.heap.get? b=some o->(s.heap.push { cls:=.type "dict",data:=.dict #[] }).get? b=some o:=λb o=>aV _;have q:z < s.heap.objs.size:=aI y;have K:=kt_code_dict_new (prog:=prog) (w:=w) (A:=A.in1) (E:=E) (s:=s) (Value.ref z) (Q₁:=λx z=>x=.ref s.heap.objs.size/\z={ s with heap:=s.heap.push { cls:=.type "dict",data:=.dict #[] } }) ⟨rfl,rfl⟩;apply callType_codes F.kt_called_dict (F.kt_typeCall_dict_1 (.ref z)) F.entry_dict_init K;rintro _ _ ⟨e,e'⟩;subst e e';generalize s.heap.push { cls:=.type "dict",data:=.dict #[] }=h1 at fresh u;refine⟨fresh.typeIs,F.args_dict_init_2 (.ref s.heap.objs.size) (.ref z),?_⟩;unfold Builtin.«dict.__init__» E2;apply ab;apply ab;apply wpAny_notOrdered_dict fresh.typeIs;apply ah;show wpAny _ _ (xl "dict.__init__" s.heap.objs.size (.ref z) [] .none) _ _ _;unfold xl;refine ab (o3 (T:="zip") ⟨_,u _ _ y,rfl⟩ ?_);rw[ai (by decide)];refine ab (Ao (u _ _ y) hh λh2 tk k2=>?_);rw[ai (by rfl)];refine ab (oZ ?_);have g:∀b o,s.heap.get? b=some o->h2.get? b=some o:=λb o e=>k2 b o (u b o e);have R:h2.DictOf t s.heap.objs.size []:=by obtain⟨o,c,ep,ho,r⟩:=fresh;exact⟨o,c,ep,k2 _ _ ho,r⟩
 refine ab (v_ (z:=z) (TI:=TI) (TO:=TO) (f0:=.none) (g _ _ y) ?_);refine ah ⟨kF F.plain_dict_update_loop _,?_⟩;have V:l1 < k.objs.size:=by obtain⟨o,e,_⟩:=H;exact aI e
 have W:l2 < k.objs.size:=by obtain⟨o,e,_⟩:=S;exact aI e
 have f:∀{a b n:Nat},a < b->b < n->a < n:=λh d=>j4 h d;have N:=f D G;have v:=f N P;have L:=f v j;have Z:=f L q;have c5:=f G P;have c6:=f c5 j;have c7:=f c6 q;have c8:=f P j;have c9:=f c8 q;have ca:=f j q;have low:∀{l n:Nat},l < k.objs.size->k.objs.size≤n->l≠n:=λh d=>bc (bM h d);have ge:∀n ∈ [s.heap.objs.size,z,TI,TO,I,M],k.objs.size≤n:=λn B=>by
  simp only[aW,cm,eX]at B;rcases B with rfl|rfl|rfl|rfl|rfl|rfl
  .exact bh i (gB Z)
  .exact bh i (gB L)
  .exact bh i (gB N)
  .exact bh i (gB v)
  .exact i
  .exact bh i (gB D)
 have p:ZAp s.heap.objs.size z TI TO I M l1 l2:=by refine⟨?_,λm=>low V (ge _ m) rfl,λm=>low W (ge _ m) rfl⟩;simp only[b8,aW,cm,eX,i4,yv,not_false_eq_true,jB];exact⟨⟨bL q,bL c9,bL ca,bL Z,bL c7⟩,⟨bL c8,bL j,bL L,bL c6⟩,⟨bc P,bL N,bL G⟩,⟨bL v,bL c5⟩,bc D⟩
 refine w5 (A:=A.in1) (t:=t) (u:=k) hh p (λn B=>?_) H S C 0 [] _ (λb o e=>g b o (k0 b o e)) ⟨g _ _ b3,?_,?_,.inl ⟨rfl,g _ _ y,g _ _ b4⟩⟩ R (by simpa using hp) (by simpa using hn) (by simpa using hz) (by lia) λd X q1 q2=>?_
 .cases e:k.get? n with
  |none=>rfl
  |some o=>exact absurd rfl (low (aI e) (ge n B))
 .obtain⟨o,e,r⟩:=b1;exact⟨o,g _ _ e,r⟩
 .obtain⟨o,e,r⟩:=b2;exact⟨o,g _ _ e,r⟩
 .exact⟨rfl,h d X q1 q2⟩
end
end PySem
set_option tactic.hygienic true
namespace Ev
open PySem PySem.Spec PyProof.Rows L2
@[simp] def Ee(fa fb:EV)(L:Lc)(S:aL):uL:=bO (fa L S) λx a=>bO (fb L a) λy h=>match x,y with
 | .lst k,.tup v=>match fA k with
  |some B=>if (B.Nodup/\few k=true/\B.length≤v.length) then some (.ref h.length,h++[.dct B ((v.take B.length).map .p)]) else none
  |none=>none
 |_,_=>none
theorem y6:∀{B:List dJ}{s i:LV}{x:List V},bb (B.map kV) s->bb x i->B.length≤x.length->ZipsAt (bX g w) s i (B.zip i)/\L2.KV (B.zip x) (B.zip i)
 | [],_,i,x,h,_,_=>by cases h;exact⟨.nil,.nil⟩
 |k::B,_,_,[],h,_,l=>absurd l (by simp)
 |k::B,_,_,y::x,h,e,l=>by
  cases h with
  |cons r t=>
   cases e with
   |cons n f=>obtain⟨a,b⟩:=y6 (g:=g) (w:=w) t f (by simpa using l);exact⟨.cons (nl r) a,.cons ⟨rfl,n⟩ b⟩
theorem mq:∀{xs:List L}{ys:List n},xs.length≤ys.length->(xs.zip ys).map (·.1)=xs/\(xs.zip ys).map (·.2)=ys.take xs.length
 | [],ys,_=>by simp
 |x::xs,[],h=>absurd h (by simp)
 |x::xs,y::ys,h=>by obtain⟨a,b⟩:=mq (xs:=xs) (ys:=ys) (by simpa using h);simp[a,b]
section
variable{X:Cx}{a b:Expr}{fa fb:EV}{p G N v:Pos}
theorem Ip(hc:X.c=true)(gd:Gl X "dict")(md:X.g "dict"=none)(gz:Gl X "zip")(mz:X.g "zip"=none)(ha:O X a (tV X.K fa))(hb:O X b (tV X.K fb))(hs:starEach [a,b] X.e=[(false,eval a X.e),(false,eval b X.e)])(W:starEach [b] X.e=[(false,eval b X.e)])(hz:bootBuiltins "zip"=some (.type "zip")) :
  O X (.Call (.Name "dict" p) [.Call (.Name "zip" G) [a,b] [] v] [] N) (tE X.K (Ee fa fb)):=by
 intro pins s J H Q I ⟨F,m,L,S,d,S',r,l,q,k⟩;obtain⟨x,S1,e1,q⟩:=af q;obtain⟨y,S2,e2,q⟩:=af q;have hh:X.A.handled=none:=I.o.hd hc;refine jA (iu I gd md FA ?_ (by decide) (by decide));refine iU (ei ?_) rfl rfl;refine jA (iu I gz mz hz ?_ (by decide) (by decide));refine iU ?_ (by rw [hs,W]) (by rw [W];rfl);rw [hs];refine ei (cK (ha pins s J H (fun h g=>∃n P,Stp F m H n P g/\Rel X.K n g P S1/\RP X.K n g x h) I ⟨F,m,L,S,x,S1,r,l,e1,fun h n P g s1 r1 p1=>⟨n,P,s1,r1,p1⟩⟩) fun u s1 ⟨h,g,I1,ru,n,P,st1,r1,p1⟩=>
  ei (cK (hb pins s1 J g (λh C=>∃f D,Stp n P g f D C/\Rel X.K f C D S2/\RP X.K f C y h) I1 ⟨n,P,L,S1,y,S2,r1,l.mono st1,e2,λh f D C E r2 G=>⟨f,D,E,r2,G⟩⟩) λu2 E ⟨v2,C,M,ru2,f,D,st2,r2,G⟩=>g9 ?_))
 cases x with
 |lst ks=>
  cases y with
  |tup vs=>
   dsimp only at q;cases ek:fA ks with
   |none=>rw[ek]at q;cases q
   |some B=>
    rw[ek]at q;dsimp only at q;split at q
    .rename_i c;cases q;obtain⟨ax,xs,rfl,hq,rp⟩:=RP.mono st2 p1;obtain⟨ay,ys,rfl,ta,rq⟩:=G;cases (show u=Value.ref ax from ru);cases (show u2=Value.ref ay from ru2);obtain⟨z1,Z,n1,rx,V,ex⟩:=M.lstM hq.2;obtain⟨i,ry,ity,hzy⟩:=M.tuple ta.sq;have exs:=iG ek rp;subst exs;have K:B.length≤ys.length:=by rw[<- rq.length];exact c.2.2
     obtain⟨za,zk⟩:=y6 (g:=X.p) (w:=X.w) rx ry K;have hl2:B.length≤i.length:=by rw[<- ry.length];exact K
     obtain⟨zf1,zf2⟩:=mq (xs:=B) (ys:=ys) K;obtain⟨A,_⟩:=mq (xs:=B) (ys:=i) hl2;have R:(B.zip i).length=Z.toArray.size:=by have:=d8 lj A;rw[aU]at this;rw[this,ba,<- V,aU]
     have hkz:(B.zip i).length≤sizeLine:=by rw[R,ba,<- V];exact z1
     have T:E.heap.IsList ax Z.toArray:=⟨_,ex,rfl,n1,rfl⟩;refine nC T ity λe i1 i2 TI TO z k0 a1 a2 a3 a4 a5 b1 b2 b3 b4 b5=>g9 ?_;refine qB (t:=bX X.p X.w) (s:={ E with heap:=e }) (k:=E.heap) hh k0 T ity a1 a2 a3 a4 a5 b1 b2 b3 b4 b5 (by simpa using za) (by rw[A];exact c.1) hkz R λh'' t' k1 dd=>?_;have j:E.heap.objs.size≤e.objs.size:=gB (j5 a1 (j4 a2 (j4 a3 (j4 a4 (j4 a5 (aI b5))))));have hf:C e.objs.size=none:=M.h.fresh j;have hsm:(e.objs.size == sysModules)=false:=by have:=M.big;simp only[oW];exact bL (bM this j)
     have hkv:(B.zip ys).length≤sizeLine:=by have e1:=d8 lj zf1;have e2:=d8 lj A;rw[aU]at e1 e2;lia
     have I3:=M.laid (a:=e.objs.size) (o:=.dK (B.zip ys)) (t':=t') k1 j ⟨hkv,hsm,_,zk,dd⟩;refine⟨.ref e.objs.size,_,I3,rfl,k (.ref e.objs.size) f (D++[e.objs.size]) _ (st1.trans (st2.trans (dU hf))) (r2.own hf ⟨_,aJ,zf1,?_⟩) ⟨e.objs.size,rfl,?_⟩⟩
     .rw [zf2,List.map_take];exact(cQ.mono (dU hf) (cQ.ofP rq)).take _
     .rw [<- r2.len,bU (ag _)];simp
    .cases q
  |_=>cases q
 |_=>cases y<;>cases q
end
end Ev
namespace Ev
open PySem PySem.Spec PyProof.Rows L2
def Pu(x c:P):Option Bool:=match c with
 | .lst s=>if (s.all (di 19) && di 19 x)=true then some (s.any λy=>bB (pd y) (pd x)) else none
 | .tup s=>if (s.all (di 19) && di 19 x)=true then some (s.any λy=>bB (pd y) (pd x)) else none
 |_=>none
def MP(d c:D)(S:aL):Option Bool:=(fq S 9 d).bind λx=>(fq S 9 c).bind λy=>Pu x y
def Kg(d c:D)(S:aL):Option P:=(rg c S).elim ((MP d c S).map .bl) λ_=>PC d c S
def t5(d c:D)(S:aL):Option P:=(MP d c S).map λb=>.bl (!b)
section
variable{X:Cx}{f:PN}{J:L2.St}{H:Y}{s:Shared}{F:Aa}{m:List Addr}{S:aL}{d e:D}{x y:V}{v u:Value}{b:Bool}{Q:VK}
theorem DZ(A:X.A.units+64 < cLine)(I:Inv X f J H s)(i:RelV x v)(j:RelV y u)(p:Rel X.K F H m S)(w:RD X.K F H m d x)(g:RD X.K F H m e y)(q:MP d e S=some b) :
  (Q (.bl b) H->wx X (compareOp .In v u) (EP X f J Q) X.xe s)/\(Q (.bl (!b)) H->wx X (compareOp .NotIn v u) (EP X f J Q) X.xe s):=by
 unfold MP at q;cases c:fq S 9 d with
 |none=>rw[c]at q;cases q
 |some B=>
  rw[c]at q;cases t:fq S 9 e with
  |none=>rw[t]at q;cases q
  |some K=>
   rw[t]at q;simp only[li]at q;cases K with
   |lst P=>
    simp only[Pu]at q;split at q
    .rename_i h;rw[av]at h;cases q;obtain⟨z,r⟩:=dP I p 9 20 g j t (by simpa[di] using h.1);obtain⟨o,n⟩:=dP I p 9 19 w i c h.2;have l:=Dj h.1;have a:=fw 19 _ h.2;rw[pd]at r;exact⟨λk=>SeqAt.in_list_reads r n l.1 a.1 (by lia) ⟨.bl _,H,I,rfl,by rw[lI];exact k⟩,λk=>SeqAt.notIn_list_reads r n l.1 a.1 (by lia) ⟨.bl _,H,I,rfl,by rw[lI];exact k⟩⟩
    .cases q
   |tup P=>
    simp only[Pu]at q;split at q
    .rename_i h;rw[av]at h;cases q;obtain⟨z,r⟩:=dP I p 9 20 g j t (by simpa[di] using h.1);obtain⟨o,n⟩:=dP I p 9 19 w i c h.2;have l:=Dj h.1;have a:=fw 19 _ h.2;rw[pd]at r;exact⟨λk=>SeqAt.in_tuple_reads r n l.1 a.1 (by lia) ⟨.bl _,H,I,rfl,by rw[lI];exact k⟩,λk=>SeqAt.notIn_tuple_reads r n l.1 a.1 (by lia) ⟨.bl _,H,I,rfl,by rw[lI];exact k⟩⟩
    .cases q
   |_=>cases q
end
section
variable{X:Cx}
theorem Mz(n:X.A.units+64 < cLine):iB X (compareOp .In) (rE X.K Kg):=by
 intro f s J H x y v u Q I t w h;obtain⟨F,m,S,d,e,r,l,p,c,q,k⟩:=h;unfold Kg at q;cases a:rg e S with
 |some i=>rw[a]at q;exact Mx n f s J H x y v u Q I t w ⟨F,m,S,d,e,r,l,p,c,q,k⟩
 |none=>rw[a]at q;obtain⟨b,g,rfl⟩:=cV.mp (show(MP d e S).map P.bl=some r from q);exact(DZ n I t w l p c g).1 (k _ F H .refl rfl)
theorem Dg(n:X.A.units+64 < cLine):iB X (compareOp .NotIn) (rE X.K t5):=by intro f s J H x y v u Q I t w h;obtain⟨F,m,S,d,e,r,l,p,c,q,k⟩:=h;unfold t5 at q;obtain⟨b,a,rfl⟩:=cV.mp q;exact(DZ n I t w l p c a).2 (k _ F H .refl rfl)
end
noncomputable def gD(g:GF):GF:=λd S=>g (d++[.p .non]) S
section
variable{X:Cx}{B:Pos}{e:Expr}{M:Ab}{c:vK}
theorem Im(z:Mk X.K C t)(G:FnOk X.p X.w X.K X.g X.b qh i t fd ps (oJ X.K g))(hr:Room (i+1) X.A)(hg:Gl X x)(hm:X.g x=some (.ref C))(hC:gX X.K x C)(hb:Binds X.K fd ps [.none])
  (ha:PA X (e::M) (vN X.K c)) (K:(x == ("__debug__":Str))=false) (he:starEach (e::M) X.e=(false,eval e X.e)::starEach M X.e) (A:(backTo B (starEach M X.e)).any (·.1)=false) :
  O X (.Call (.Name x p) (e::M) [] B) (tE X.K (il (gD g) x c)):=
 (zw z G hr hg hm hb (dvs:=[.non]) (.cons rfl .nil) pD ha K he A).imp' λJ H Q hz=>by
  obtain⟨F,m,L,S,d,E,r,l,q,i⟩:=hz;obtain⟨j,f,e1,q⟩:=af q;refine⟨F,m,L,S,j,f,r,l,e1,λxs s a k s1 I p1=>λy h hy w P=>?_⟩;split at q
  .rename_i _ S2 eg;cases q;have N:Stp s a k s a (bN k h (.own y)):=hZ w;have r2:Rel X.K s (bN k h (.own y)) a f:=I.new w;have u:bN k h (.own y) y=none:=by rw[aj (aK P)];exact hy
   have R:Stp s a (bN k h (.own y)) s (a++[y]) (bN (bN k h (.own y)) y (.ins C h [])):=dU u;have r3:Rel X.K s (bN (bN k h (.own y)) y (.ins C h [])) (a++[y]) (f++[.ins x [] []]):=r2.own u ⟨C,h,[],hC,aJ,rfl,rfl⟩;have b:(a++[y])[f.length]? = some y:=by rw[<- I.len,bU (ag _)];simp
   have p3:=cQ.mono R (cQ.mono N p1);have o:g (.ref f.length::(j++[.p .non])) (f++[.ins x [] []])=some (.p .non,E):=eg;have D:RD X.K s (bN (bN k h (.own y)) y (.ins C h [])) (a++[y]) (.p .non) .non:=show V.non=V.non from rfl;have pp:cQ X.K s (bN (bN k h (.own y)) y (.ins C h [])) (a++[y]) (j++[.p .non]) (xs++[.non]):=cQ.append p3 ⟨_,_,rfl,D,rfl⟩;refine⟨s,a++[y],.ref f.length::(j++[.p .non]),_,.p .non,E,r3,⟨_,_,rfl,⟨y,rfl,b⟩,pp⟩,o,λv W m4 Z T r4 p4=>⟨p4,?_⟩⟩;refine i (.ref y) W m4 Z (s1.trans (N.trans (R.trans T))) r4 ⟨y,rfl,?_⟩;obtain⟨n,en⟩:=T.pre;rw[en,bw (aP.mp b).1];exact b
  .cases q
end
section
variable{X:Cx}{f:PN}{J:L2.St}{H:Y}{s:Shared}{k:List Addr}{j:Heap}
theorem DX(I:Inv X f J H s)(t:∀b ∈ k,qe X f H b)(p:∀b o,b ∉ k->s.heap.get? b=some o->j.get? b=some o)
  (w:j.get? s.heap.objs.size=some { cls:=.type "tuple",data:=.seq #[u,v] }) (B:RelV x u) (C:RelV y v):Inv X f J (bN H s.heap.objs.size (.tup [x,y])) { s with heap:=j }:=by
 have h:H s.heap.objs.size=none:=I.h.fresh (ag _);have d:∀{b:Addr}{o:HO},H b=some o->b ∉ k:=λ{b o} q z=>by rw[(t b z).1]at q;cases q
 refine I.step (g':=s.gens) (d':=s.drawn) (t':=s.toks) (ch:=k) (λb e=>?_) (λb o _ _ a q _=>p b o a q) (λb o _ _ a q _=>⟨o.slots,p b o a q⟩) (λb o _ q n=>?_) (λb o a q=>⟨o,p b o a q⟩)
  (λb g q=>?_) (λb o g q=>?_) (λb q=>?_) (λm P=>?_) (λb D q=>?_) I.bare
 .obtain⟨_,l,_,S,F,K⟩:=t b e;exact⟨S,l,F,K⟩
 .rw [aj (bc (aI q))];exact n
 .rw [aj (a6 q h)];exact q
 .rw [aj (a6 q h)];exact q
 .rw [aj (a6 q h)];exact q
 .obtain⟨o,M,i,A,r⟩:=P;exact⟨o,M,i,p _ o (λz=>(t _ z).2.1 rfl) A,r⟩
 .by_cases e:b=s.heap.objs.size
  .subst e;rw[aJ]at q;cases q;exact⟨by show 2≤sizeLine;decide,[u,v],.cons B (.cons C .nil),⟨_,w,⟨rfl,_,rfl⟩,rfl⟩⟩
  .rw [aj e]at q;refine(I.h b D q).stay (λc v a z=>p c v ?_ z) (λc z=>by rw[aj (a6 z h)];exact z) λc g z=>by rw[aj (a6 z h)];exact z
   rcases a with rfl|a
   .exact d q
   .exact d a
theorem Ka(I:Inv X f J H s)(x:∀b ∈ k,qe X f H b)(p:∀b o,b ∉ k->s.heap.get? b=some o->j.get? b=some o):Inv X f J H { s with heap:=j }:=by
 have e:∀{b:Addr}{o:HO},H b=some o->b ∉ k:=λ{b o} q z=>by rw[(x b z).1]at q;cases q
 refine I.step (g':=s.gens) (d':=s.drawn) (t':=s.toks) (ch:=k) (λb g=>?_) (λb o _ _ h q _=>p b o h q) (λb o _ _ h q _=>⟨o.slots,p b o h q⟩) (λ_ _ _ _ n=>n) (λb o h q=>⟨o,p b o h q⟩)
  (λ_ _ q=>q) (λ_ _ _ q=>q) (λ_ q=>q) (λm i=>?_) (λb y q=>?_) I.bare
 .obtain⟨_,t,_,d,w,u⟩:=x b g;exact⟨d,t,w,u⟩
 .obtain⟨o,M,a,l,r⟩:=i;exact⟨o,M,a,p _ o (λz=>(x _ z).2.1 rfl) l,r⟩
 .refine (I.h b y q).stay (λc v h z=>p c v ?_ z) (λc z=>z) λc S z=>z;rcases h with rfl|h
  .exact e q
  .exact e h
def KO(t:Bool)(K:FG)(H:Y)(a:Addr)(x:List V):Prop:=if t=true then jw K H a x else fG K H a x
theorem F_(I:Inv X f J H s)(h:KO t X.K H a q):∃i:LV,bb q i/\Hn t s.heap a i.toArray:=by
 cases t
 .obtain⟨i,r,p,_⟩:=I.list h;exact⟨i,r,p.isList⟩
 .obtain⟨i,r,⟨o,e,c,n⟩,_⟩:=I.tuple h;exact⟨i,r,o,e,c,n⟩
theorem F4(p:Hn t r a g)(q:Hn t r a i):g=i:=by cases t<;>(obtain⟨o,e,c,n,d⟩:=p;obtain⟨f,x,s,k,h⟩:=q;rw[e]at x;cases x;rw[d]at h;cases h;rfl)
theorem Ct(I:Inv X f J H s)(p:KO t X.K H a g)(q:KO t X.K H a z):g=z:=by
 obtain⟨i,r,k⟩:=F_ I p;obtain⟨x,n,b⟩:=F_ I q;have e:=F4 k b;have h:i=x:=by simpa using d8 sh e
 subst h;exact bb.inj r n
end
def KQ(K:FG)(t:Bool)(a b:Addr):It:=
 ⟨λi H=>∃s h x y,fG K H a s/\KO t K H b h/\s[i]? = some x/\h[i]? = some y,λi H x e=>∃p u v,x=.ref p/\H p=none/\e=bN H p (.tup [u,v])/\(∀s,fG K H a s->s[i]? = some u)/\∀h,KO t K H b h->h[i]? = some v,λi H=>∃s,fG K H a s/\s.length≤i⟩
theorem B'{P:Program}{w:World}{K:FG}{M:Ab}{n:Nat}{B:Pos}(tp:Bool){a b z TI TO t d:Addr}(nd:[z,TI,TO,t,d].Nodup)(na:a ∉ [z,TI,TO,t,d])(nb:b ∉ [z,TI,TO,t,d]) :
  Turn P w K (.Tuple M n B) (KQ K tp a b) [z,TI,TO,t,d] z (λi h=>fE h z TI TO .none (.bool false)/\dh h TI (.ref t) (.ref d)/\(∃p q,dh h TO p q)/\h.IsListIter t a i/\Bp tp h d b i) where
 mem:=by simp
 obj:=λi h st c m=>by
  obtain⟨r,g,⟨p,q,F⟩,⟨o1,Q,c1,d1⟩,S⟩:=st;obtain⟨o2,C,⟨vs,d2⟩,_⟩:=S.obj;simp only[aW,cm,eX]at m;rcases m with rfl|rfl|rfl|rfl|rfl
  .exact⟨_,r,λv x=>by have G:Data.fields _=Data.cell v:=x;cases G⟩
  .exact⟨_,g,λv x=>by have G:Data.seq _ _=Data.cell v:=x;cases G⟩
  .exact⟨_,F,λv x=>by have G:Data.seq _ _=Data.cell v:=x;cases G⟩
  .exact⟨o1,Q,λv x=>by rw[d1]at x;cases x⟩
  .exact⟨o2,C,λv x=>by rw[d2]at x;cases x⟩
 keep:=λi h j st k=>by obtain⟨r,g,⟨p,q,F⟩,A,S⟩:=st;obtain⟨o2,C,_,r2⟩:=S.obj;exact⟨k z (by simp) _ r,k TI (by simp) _ g,⟨p,q,k TO (by simp) _ F⟩,A.at λo e=>k t (by simp) o e,r2 _ (k d (by simp) _ C)⟩
 item:=by
  intro X W hw V m i f s J H E I L st hg;subst W hw V;obtain⟨xs,ys,x,y,N,D,hx,hy⟩:=hg;obtain⟨its,rv,pl,_⟩:=I.list N;obtain⟨u,hu,ru⟩:=rv.get hx;obtain⟨its2,rv2,s2⟩:=F_ I D;obtain⟨v,hv,rv'⟩:=rv2.get hy;obtain⟨r,g,⟨p,q,F⟩,A,S⟩:=st;have lt:∀c ∈ [z,TI,TO,t,d],c < s.heap.objs.size:=λc m=>by
   obtain⟨o1,Q,_⟩:=id A;obtain⟨o2,C,_⟩:=S.obj;simp only[aW,cm,eX]at m;rcases m with rfl|rfl|rfl|rfl|rfl
   .exact aI r
   .exact aI g
   .exact aI F
   .exact aI Q
   .exact aI C
  simp only[b8,aW,cm,eX,i4]at nd na nb;refine sX ⟨_,r,rfl⟩ (qF r g F A S pl.isList s2 (by simpa using hu) (by simpa using hv) (by grind) (by grind) (by grind) (by grind) (by grind) (by grind) (by grind) (by grind) (by grind) (by grind) λj T q1 q2 q3 q4 q5 q6 q7=>?_);subst q6;refine⟨_,rfl,wpAny_letOwnedTupleGo_zip (s:={ s with heap:=j }) q1 λR z2 l=>?_⟩;replace l:eW z j R:=l;have kp:∀c o,c ∉ [z,TI,TO,t,d]->s.heap.get? c=some o->R.get? c=some o:=λc o m e=>by simp only[aW,cm,eX,i4]at m;exact l.extBut _ _ m.1 (q7 c o m.1 m.2.2.2.1 m.2.2.2.2 m.2.2.1 e)
  have zlt:=lt z (by simp);have Z:H s.heap.objs.size=none:=I.h.fresh (ag _);have I2:Inv X f J (bN H s.heap.objs.size (.tup [x,y])) { s with heap:=R }:=DX I L kp (l.extBut _ _ (bL zlt) q5) ru rv';refine⟨.ref s.heap.objs.size,_,I2,rfl,⟨_,x,y,rfl,Z,rfl,λxs' h=>by rw[I.list_inj h N];exact hx,λys' h=>by rw[Ct I h D];exact hy⟩,⟨z2,l.extBut _ _ (by grind) (q7 _ _ (by grind) (by grind) (by grind) (by grind) g),⟨u,v,l.extBut _ _ (by grind) q4⟩,q2.extBut l.extBut (by grind),q3.extBut l.extBut (by grind)⟩,λc m=>?_⟩;rw[aj (bc (lt c m))];exact(L c m).1
 done:=by intro X W hw V m i f s J H E I L st hg;subst W hw V;obtain⟨xs,N,hx⟩:=hg;obtain⟨its,rv,pl,_⟩:=I.list N;obtain⟨r,g,⟨p,q,F⟩,A,S⟩:=st;have hl:=rv.length;simp only[b8,aW,cm,eX,i4]at nd na;refine sX ⟨_,r,rfl⟩ (uB (show X.A.in1.handled=none from I.o.hd m) r g A pl.isList (by simp;lia) (by grind) (by grind) λj e kp hz=>?_);obtain⟨o,eo,co⟩:=hz;refine⟨e,o,rfl,eo,co,rfl,Ka I L λc ob m ec=>kp c ob (λx=>m (by simp[x])) (λx=>m (by simp[x])) ec⟩
 self:=λ_ _ _ _ _ st h=>v_ st.1 h
theorem Bf(t:Bool)(x:s.heap.IsList r g)(a:Hn t s.heap q C)
  (h:∀j i e TI TO z,(∀b o,s.heap.get? b=some o->j.get? b=some o)->s.heap.objs.size≤i->i < e->e < TI->TI < TO->TO < z->j.IsListIter i r 0->Bp t j e q 0->dh j TI (.ref i) (.ref e)->dh j TO .none .none ->
   fE j z TI TO .none (.bool false)->Q (.ref z) { s with heap:=j }):wpAny (model l w) A (call (.type "zip") [.ref r,.ref q]) Q E s:=by
 cases t
 .refine call_zip_2 x a λj m T n k f _ c=>?_;exact h j s.heap.objs.size (s.heap.objs.size+1) (s.heap.objs.size+2) (s.heap.objs.size+3) (s.heap.objs.size+4) c (ag _) (fU _) (fU _) (fU _) (fU _) k f T n m
 .exact nC x a h
noncomputable def Aq(x y:List P):List P:=(x.zip y).map λz=>.tup [z.1,z.2]
@[simp] def MO(a b:EV)(L:Lc)(S:aL):Aw:=bO (a L S) λv e=>bO (b L e) λw h=>match v,w with
 | .lst x,.lst y=>if x.length≤y.length then some (Aq x y,h) else none
 | .lst x,.tup y=>if x.length≤y.length then some (Aq x y,h) else none
 |_,_=>none
theorem DM{K:FG}{F:Aa}{m:List Addr}{H:Y}{A:Bool}{a b:Addr}{d w:List P}{n f:List V}(I:d.length≤w.length)(L:∀k t h,Stp F m H k t h->fG K h a n/\KO A K h b f)(r:b7 K F H d n)(Q:b7 K F H w f):H_ K (KQ K A a b) (Aq d w) F m H:=by intro k t h st;obtain⟨c,s⟩:=L k t h st;have M:=r.length;refine⟨λi v e=>?_,⟨n,c,by unfold Aq;rw[aU,List.length_zip,Nat.min_eq_left I,M];exact ag _⟩⟩;unfold Aq at e;rw[aZ]at e;obtain⟨⟨T,W⟩,B,rfl⟩:=cV.mp e;obtain⟨C,D⟩:=yL.mp B;obtain⟨x,l,p⟩:=r.get C;obtain⟨y,o,N⟩:=Q.get D;refine⟨⟨n,f,x,y,c,s,l,o⟩,λz R q=>?_⟩;obtain⟨X,u,v,rfl,S,rfl,E,G⟩:=q;have g:=E n c;have j:=G f s;rw[l]at g;rw[o]at j;cases g;cases j;exact⟨k,bD S,RP.newTup S ⟨_,_,rfl,RP.mono st p,_,_,rfl,RP.mono st N,rfl⟩⟩
theorem iZ{X:Cx}{B:Pos}{M:Ab}{n:Nat}{a b:Expr}{h fb:EV}{p N:Pos}(gz:Gl X "zip")(mz:X.g "zip"=none)(ha:O X a (tV X.K h))(hb:O X b (tV X.K fb))(hs:starEach [a,b] X.e=[(false,eval a X.e),(false,eval b X.e)])(T:starEach [b] X.e=[(false,eval b X.e)]) :
  PI X (.Tuple M n B) (.Call (.Name "zip" p) [a,b] [] N) (tI X.K (MO h fb)):=by
 intro f s J H R I ⟨F,m,L,S,vs,S',r,l,q,k⟩;obtain⟨x,S1,e1,q⟩:=af q;obtain⟨y,S2,e2,q⟩:=af q;refine jA (iu I gz mz x6 ?_ (by decide) (by decide));refine iU ?_ (by rw [hs,T]) (by rw [T];rfl);rw [hs];refine ei (cK (ha f s J H (fun v K=>∃w P,Stp F m H w P K/\Rel X.K w K P S1/\RP X.K w K x v) I ⟨F,m,L,S,x,S1,r,l,e1,fun v w P K W r1 p1=>⟨w,P,W,r1,p1⟩⟩) fun u W ⟨v,K,I1,ru,w,P,D,r1,p1⟩=>
  ei (cK (hb f W J K (λv t=>∃g A,Stp w P K g A t/\Rel X.K g t A S2/\RP X.K g t y v) I1 ⟨w,P,L,S1,y,S2,r1,l.mono D,e2,λv g A t C r2 p2=>⟨g,A,C,r2,p2⟩⟩) λu2 C ⟨v2,t,G,ru2,g,A,d,r2,p2⟩=>g9 ?_))
 have go:∀(E:Bool){i o:Addr}{xs ys:List V},v=.ref i->v2=.ref o->fG X.K t i xs->KO E X.K t o ys->R (KQ X.K E i o) t->wx X (call (.type "zip") [u,u2]) (λv W=>wx X (pyIter v) (Nj X f J (.Tuple M n B) R) X.xe W) X.xe C:=λE {i o xs ys} ea eb hq hq2 qR=>by
  subst ea eb;cases ru;cases ru2;obtain⟨its,_,pl,_⟩:=G.list hq;obtain⟨its2,_,sq⟩:=F_ G hq2;have la:i < C.heap.objs.size:=by obtain⟨_,e,_⟩:=pl.isList;exact aI e
  have lb:o < C.heap.objs.size:=by cases E<;>(obtain⟨_,e,_⟩:=sq;exact aI e)
  refine Bf E pl.isList sq λj i1 i2 TI TO z kp n0 n1 n2 n3 n4 hi1 hi2 hTI hTO hz=>v_ hz ?_;refine⟨z,[z,TI,TO,i1,i2],_,_,t,rfl,G.kept (t':=C.toks) kp,B' E (a:=i) (b:=o) (by simp;grind) (by simp;grind) (by simp;grind),⟨hz,hTI,⟨_,_,hTO⟩,hi1,hi2⟩,λc hc=>?_,qR⟩;have Q:C.heap.objs.size≤c:=by simp only[aW,cm,eX]at hc;grind
  exact G.fpOk Q (G.h.fresh Q)
 cases x with
 |lst ds=>
  cases y with
  |lst ds2=>
   dsimp only at q;split at q
   .rename_i hl;cases q;obtain⟨i,xs,rfl,Z,ra⟩:=RP.mono d p1;obtain⟨o,ys,rfl,tb,rb⟩:=p2;exact go false rfl rfl Z.sq tb.sq (k _ g A t (D.trans d) r2 (DM (A:=false) hl (λF3 m3 H3 s=>⟨(Z.kp s.kp).sq,(tb.kp s.kp).sq⟩) ra rb))
   .cases q
  |tup ds2=>
   dsimp only at q;split at q
   .rename_i hl;cases q;obtain⟨i,xs,rfl,Z,ra⟩:=RP.mono d p1;obtain⟨o,ys,rfl,tb,rb⟩:=p2;exact go true rfl rfl Z.sq tb.sq (k _ g A t (D.trans d) r2 (DM (A:=true) hl (λF3 m3 H3 s=>⟨(Z.kp s.kp).sq,(tb.kp s.kp).sq⟩) ra rb))
   .cases q
  |_=>cases q
 |_=>cases q
noncomputable def Na:P->Option (List P)
 | .lst x=>some x
 | .tup x=>some x
 |_=>none
@[simp] def HS(a:EV)(L:Lc)(S:aL):uL:=bO (a L S) λv h=>(Na v).map λx=>(.ref h.length,h++[.lst (x.map .p)])
section
variable{X:Cx}
theorem Ik{a:Expr}{h:EV}{p B:Pos}(D:Gl X "list")(E:X.g "list"=none)(C:O X a (tV X.K h))(i:starEach [a] X.e=[(false,eval a X.e)]):O X (.Call (.Name "list" p) [a] [] B) (tE X.K (HS h)):=
 (iF jd D E og (dI C fH (by rw[i];rfl)) (by decide) (by decide) (by rw[i];rfl) rfl).imp' λJ H Q z=>by
  obtain⟨F,m,L,S,d,G,r,l,q,k⟩:=z;obtain⟨x,K,A,q⟩:=af q;obtain⟨I,w,q⟩:=cV.mp q;cases q;refine⟨F,m,L,S,x,K,r,l,A,λv e s c o t j=>?_⟩;cases x with
  |lst P=>cases w;obtain⟨a,y,rfl,g,u⟩:=j;refine⟨a,y,rfl,.inl g.sq,λb n=>?_⟩;have f:Stp e s c e (s++[b]) (bN c b (.lst y)):=dU n;refine k (.ref b) e (s++[b]) _ (o.trans f) (t.own n ⟨y,aJ,cQ.ofP (b7.mono f u)⟩) ⟨b,rfl,?_⟩;rw[<- t.len,bU (ag _)];simp
  |tup P=>cases w;obtain⟨a,y,rfl,g,u⟩:=j;refine⟨a,y,rfl,.inr g.sq,λb n=>?_⟩;have f:Stp e s c e (s++[b]) (bN c b (.lst y)):=dU n;refine k (.ref b) e (s++[b]) _ (o.trans f) (t.own n ⟨y,aJ,cQ.ofP (b7.mono f u)⟩) ⟨b,rfl,?_⟩;rw[<- t.len,bU (ag _)];simp
  |_=>cases w
end
section
variable{X:Cx}{a:Expr}{h:EE}{p B:Pos}
noncomputable def zP(T:String)(d:D)(S:aL):Option Bool:=match d with
 | .p (.bl _)=>if T="bool" then some true else none
 | .p (.tup _)=>if T="tuple" then some true else none
 | .ref i=>(match S[i]? with
  |some (.lst _)=>if T="list" then some true else none
  |_=>none)
 |_=>none
@[simp] def zf(T:String)(f:EE)(L:Lc)(S:aL):tyV:=bO (f L S) λd h=>(zP T d h).map λb=>(.bl b,h)
theorem Bh(R:T="list"\/T="bool"\/T="tuple"):dL X (.builtin "isinstance") (λt H Q=>∃F m S d b x,t=[x,.ty T]/\Rel X.K F H m S/\RD X.K F H m d x/\zP T d S=some b/\Q (.bl b) H):=by
 intro f s J H t W Q I r ⟨F,m,S,d,b,x,e,G,pd,i,q⟩;subst e;obtain⟨u,N,rfl,K,P⟩:=vals2 r;cases (show N=Value.type T from P);have k:∀A,EP X f J Q (.bool b) { s with toks:=A }:=λA=>⟨.bl b,H,I.tok _,rfl,q⟩
 unfold zP at i;cases d with
 |p w=>
  cases w with
  |bl c=>
   dsimp only at i;split at i
   .rename_i h;subst h;cases i;cases (show x=.bl c from pd);cases (show u=Value.bool c from K);exact sQ PySem.W.kitx_bool I.kIn True.intro rfl (λz=>nomatch z) k
   .cases i
  |tup B=>
   dsimp only at i;split at i
   .rename_i h;subst h;cases i;obtain⟨a,t,rfl,L,_⟩:=pd;cases K;obtain⟨y,_,M,_⟩:=I.tuple L.sq;obtain⟨o,v,g,_⟩:=M;exact sQ PySem.W.kitx_tuple I.kIn ⟨o,v,g⟩ rfl (λz=>nomatch z) k
   .cases i
  |_=>cases i
 |ref j=>
  obtain⟨a,rfl,D⟩:=pd;dsimp only at i;cases l:S[j]? with
  |none=>rw[l]at i;cases i
  |some o=>
   rw[l]at i;cases o with
   |lst B=>
    dsimp only at i;split at i
    .rename_i h;subst h;cases i;obtain⟨t,C,V⟩:=G.obj j a _ D l;cases K;obtain⟨y,_,E,_⟩:=I.list (fG.of C);obtain⟨o,n,v,g,_⟩:=E;exact sQ PySem.W.kitx_list I.kIn ⟨o,v,g⟩ rfl (λz=>nomatch z) k
    .cases i
   |_=>cases i
theorem B1(z:T="list"\/T="bool"\/T="tuple")(P:Gl X "isinstance")(A:X.g "isinstance"=none)(g:Gl X t)(e:X.g t=none)(K:bootBuiltins t=some (.type T))(o:O X a (tE X.K h))
  (C:t≠"__name__") (hd:(t == ("__debug__":Str))=false) (f:starEach [a,.Name t i] X.e=[(false,eval a X.e),(false,eval (.Name t i) X.e)]):O X (.Call (.Name "isinstance" p) [a,.Name t i] [] B) (tV X.K (zf T h)):=
 (lH (Bh z) P A FD (dI o (dI (GA (v:=.ty T) g e K rfl C hd) fH rfl) (by rw[f];rfl)) (by decide) (by decide) (by rw[f];rfl) rfl).imp' λJ H Q D=>by obtain⟨F,m,L,S,d,G,r,l,q,k⟩:=D;obtain⟨x,I,j,q⟩:=af q;obtain⟨b,y,q⟩:=cV.mp q;cases q;exact⟨F,m,L,S,_,_,r,l,j,λv n c u s w E=>⟨n,c,_,x,b,v,rfl,w,E,y,k _ n c u s w rfl⟩⟩
end
noncomputable def I0:List D->Option (List P)
 | []=>some []
 | .p v::r=>(I0 r).map (v::·)
 | .ref _::_=>none
theorem tD:∀{d:List D}{p:List P},I0 d=some p->d=p.map .p
 | [],_,h=>by cases h;rfl
 | .p v::r,p,h=>by obtain⟨qs,e,rfl⟩:=cV.mp h;rw[aF,<- tD e]
 | .ref _::_,_,h=>by cases h
def HC(d:D)(S:aL):Option (Nat×List P):=(d4 d S).bind λz=>(I0 z.2).map λp=>(z.1,p)
def B8(f:EE)(t:List Nat)(n:Nat)(g:jS)(c:EB)(e:EV)(L:Lc)(S:aL):tyV:=bO (f L S) λd x=>(HC d x).bind λz=>if few z.2=true then bO (iy (λh=>h[z.1]? = some (.lst (z.2.map .p))) g c e z.2 (kh t n L) x) λy h=>some (.lst y,h) else none
theorem Kt(T:O X iter (tE X.K N)):qf X tg iter (B8 N ts n g G I) ts n g G I:=by
 refine⟨_,iO T,λJ H F m L S d u r l q=>?_⟩;obtain⟨d',f,y,q⟩:=af q;obtain⟨⟨j,p⟩,C,q⟩:=iV.mp q;obtain⟨⟨s,ds⟩,z,o⟩:=iV.mp C;obtain⟨Z,K,P⟩:=cV.mp o;cases P;obtain⟨rfl,M⟩:=h_ z;cases tD K;dsimp only at q;split at q;case isFalse=>cases q
 rename_i Q;obtain⟨ys,S3,A,q⟩:=af q;cases q;refine⟨_,p,f,ys,rfl,Q,⟨F,m,L,S,s,f,_,r,l,y,M,λa w V H1 s1 r1 c=>⟨w,V,s1,r1,λF2 W H2 u st r2 ok=>?_⟩⟩,A⟩;have h:W[s]? = some a:=by obtain⟨k,B⟩:=st.pre;rw[B,bw (aP.mp c).1];exact c
 obtain⟨xs,b,t⟩:=r2.obj s a _ h ok;have R:=t.length;refine⟨λi v e=>?_,DP (fG.of b) (by rw[<- R,aU];exact ag _)⟩;obtain⟨x,E,px⟩:=t.get (show(p.map D.p)[i]? = some (.p v) by rw[aZ,e];rfl);exact J2 (e:=false) (fG.of b) E px
@[simp] def LA(a:EE)(lo s:EO)(L:Lc)(S:aL):tyV:=bO (a L S) λd x=>bO (lo L x) λi e=>bO (s L e) λj h=>(HC d h).map λz=>(.lst (cut z.2 i j),h)
theorem CL{K:FG}{F:Aa}{H:Y}{m:List Addr}:∀{s:List P}{h:List V},cQ K F H m (s.map .p) h->b7 K F H s h
 | [],_,r=>r
 |p::s,_,r=>by obtain⟨x,n,rfl,a,e⟩:=r;exact⟨x,n,rfl,a,CL e⟩
theorem Oh{X:Cx}{e:Expr}{lo g:Option Expr}{h:EE}{u w:EO}{B p2:Pos}(V:O X e (tE X.K h))(Z:PO X lo (tO X.K u))(W:PO X g (tO X.K w)):O X (.Subscript e (.Slice lo g none p2) B) (tV X.K (LA h u w)):=
 (uW zo V Z W).imp' λJ H Q hz=>by obtain⟨F,m,L,S,d,P,r,l,q,k⟩:=hz;obtain⟨x,c,A,q⟩:=af q;obtain⟨i,t,C,q⟩:=af q;obtain⟨j,S3,D,q⟩:=af q;obtain⟨⟨n,ps⟩,E,q⟩:=cV.mp q;obtain⟨⟨n',ds⟩,G,I⟩:=iV.mp E;obtain⟨ps',N,R⟩:=cV.mp I;cases R;cases q;obtain⟨rfl,M⟩:=h_ G;cases tD N;refine⟨F,m,L,S,_,c,r,l,A,λv o m1 H1 f r1 p1=>?_⟩;refine⟨o,m1,L,c,i,t,r1,l.mono f,C,λK m2 H2 b r2=>?_⟩;refine⟨K,m2,L,t,j,P,r2,(l.mono f).mono b,D,λF3 m3 H3 z y=>?_⟩;obtain⟨a,rfl,hm⟩:=RD.mono z (RD.mono b p1);obtain⟨xs,T,rs⟩:=y.obj _ a _ hm M;exact⟨a,xs,rfl,fG.of T,λp s=>k _ _ m3 _ ((f.trans (b.trans z)).trans (bE s).stp) (y.grow (bE s)) (.newLst s ((CL rs).cut i j))⟩
end Ev
namespace PySem
open PySem PyProof.Rows
section
variable{l:Program}{w:World}{A:Around}{E:VP}{s:Shared}
theorem A8(u:A.handled=none)(n t:Addr)(k:t≠n)(m:Array Value):Draws l w A n [n,t] m.size (λi v=>m[i]? = some v) (λi h=>h.IsTupleIter n t i/\h.IsTuple t m) where
 live:=λ_ _ st=>by obtain⟨⟨o,g,_⟩,_⟩:=st;exact⟨o,g⟩
 frame:=λ_ _ _ st r=>⟨st.1.at λo e=>r n (by simp) o e,st.2.at λo e=>r t (by simp) o e⟩
 item:=λi s Q E f st d=>by obtain⟨a,b⟩:=st;exact pf a b (x:=m[i]) (by simp[f]) λj c p=>d _ j s.toks (by simp[f]) ⟨c,b.extBut p.extBut k⟩ p
 done:=λs Q E st q=>by obtain⟨a,b⟩:=st;exact lA u a b (by simp) q
theorem A9(a:A.handled=none)(b:r[n]? = none):Draws l w A q [q,t] n (λ_ _=>True) (λj h=>j=n/\h.IsTupleIter q t n/\h.IsTuple t r) where
 live:=λ_ _ st=>by obtain⟨_,⟨o,c,_⟩,_⟩:=st;exact⟨o,c⟩
 frame:=λ_ _ _ st k=>⟨st.1,st.2.1.at λo e=>k q (by simp) o e,st.2.2.at λo e=>k t (by simp) o e⟩
 item:=λi s Q E f st _=>absurd st.1 (bc f)
 done:=λs Q E st x=>lA a st.2.1 st.2.2 b x
theorem s_{h:Heap}(k:h.IsTuple t n)(e:h.IsTupleIter r t i):t≠r:=λz=>by subst z;obtain⟨o,s,a,_⟩:=k;obtain⟨f,x,c,_⟩:=e;rw[s]at x;cases x;rw[a]at c;simp at c
theorem tf{i:Int}(s:n.IsTuple t r)(a:IsEnum n e q i x):e≠t:=λz=>by subst z;obtain⟨o,h,c,_⟩:=s;rw[show n.get? e=_ from a]at h;cases h;simp at c
theorem A5 (t:Addr) (r:Array Value):Meets (Builtin.«enumerate.__new__» ⟨[.type "enumerate",.ref t],[]⟩) (fun _ R s=>s.heap.IsTuple t r /\
  ∀j,IsEnum j (s.heap.objs.size+1) s.heap.objs.size 0 .none->j.IsTupleIter s.heap.objs.size t 0->j.objs.size=s.heap.objs.size+2->(∀b o,s.heap.get? b=some o->j.get? b=some o)->R (.ok (.ret (.ref (s.heap.objs.size+1)))) { s with heap:=j }):=
 .of_wp λl w A R s h=>by
  obtain⟨p,g,d,S,os⟩:=s;obtain⟨m,h⟩:=h;have u:=sub_enumerate;obtain⟨⟨F,i,y,H⟩,a,e,n,hd⟩:=id m;dsimp only at e hd;subst e hd;have T:Br (Shared.heap ⟨p,g,d,S,os⟩) t r:=m
  wp_walk using rL a
  let k:Obj:={ cls:=.type "tuple_iterator",data:=.fields #[.ref t,.int 0 0] }
  let v:Obj:={ cls:=.type "enumerate",data:=.fields #[.none,.bool false,.ref p.objs.size,rawInt 0,.none,.none] }
  have z:(p.push k).objs.size=p.objs.size+1:=oS ..;have q:IsEnum ((p.push k).push v) (p.objs.size+1) p.objs.size 0 .none:=by rw[<- z];exact bP _ rfl
  have f:=h _ q ⟨_,aV _ (bP _ rfl),rfl,rfl⟩ ((oS ..).trans (by rw[z])) λb o x=>aV _ (aV _ x);rw[show Array.size p.objs+1=(p.push k).objs.size from z.symm]at f;apply wpAny_stack_any;intro st;apply ah;split
  .rename_i c _ _ _ _ _;rcases c == Value.type "enumerate" with _|_;all_goals
    wp_walk using rL a,rZ T
    exact⟨_,rfl,f⟩
  .wp_walk using rL a,rZ T
   exact⟨_,rfl,f⟩
theorem xf(a:s.heap.IsTuple t n)
  (h:∀j,IsEnum j (s.heap.objs.size+1) s.heap.objs.size 0 .none->j.IsTupleIter s.heap.objs.size t 0->j.objs.size=s.heap.objs.size+2->(∀b o,s.heap.get? b=some o->j.get? b=some o)->Q (.ref (s.heap.objs.size+1)) { s with heap:=j }) :
  wpAny (model l w) A (call (.type "enumerate") [.ref t]) Q E s:=callType_new F.called_enumerate (by decide) (F.typeCall_enumerate_1 _) (F.newCall_enumerate_1 _) (λx=>F.args_object_init_2 x _) F.entry_enumerate_new (A5 t n) ⟨a,λj e i z k=>⟨⟨_,e,rfl⟩,h j e i z k⟩⟩
end
end PySem
namespace Ev
open PySem PySem.Spec PyProof.Rows L2
section
variable{X:Cx}{B:Pos}
def Np(K:FG)(a:Addr):It:=
 ⟨λi H=>∃s x,jw K H a s/\s[i]? = some x,λi H x h=>∃p y,x=.ref p/\H p=none/\h=bN H p (.tup [.int i,y])/\∀s,jw K H a s->s[i]? = some y,λi H=>∃s,jw K H a s/\s.length≤i⟩
theorem wj{P:Program}{w:World}{K:FG}{M:Ab}{n:Nat}(a e g:Addr)(V:e≠g):Turn P w K (.Tuple M n B) (Np K a) [e,g] e (λi h=>(∃S,IsEnum h e g i S)/\h.IsTupleIter g a i) where
 mem:=by simp
 obj:=λi h st b F=>by
  obtain⟨⟨S,L⟩,⟨o,ho,c,d⟩⟩:=st;have:b=e\/b=g:=by simpa using F
  rcases this with rfl|rfl
  .exact⟨_,L,λv z=>by have z':Data.fields _=Data.cell v:=z;cases z'⟩
  .exact⟨o,ho,λv z=>by rw[d]at z;cases z⟩
 keep:=λi h j st k=>by obtain⟨⟨S,L⟩,y⟩:=st;exact⟨⟨S,k e (by simp) _ L⟩,y.at λo q=>k g (by simp) o q⟩
 item:=by
  intro X hP hw hK p i f s J H E I hf st hg;subst hP hw hK;obtain⟨xs,x,hq,hx⟩:=hg;obtain⟨T,rv,pl,hz⟩:=I.tuple hq;obtain⟨u,hu,ru⟩:=rv.get hx;obtain⟨⟨S,L⟩,y⟩:=st;obtain⟨f0,f1,f2,f3,f4,f5⟩:=hf e (by simp);obtain⟨g0,g1,g2,g3,g4,g5⟩:=hf g (by simp);have pT:s.heap.IsTuple a T.toArray:=pl;have hai:=s_ pT y;have hae:=tf pT L;have D:=A8 (l:=X.p) (w:=X.w) (A:=X.A.in1) (I.o.hd p) g a hai T.toArray;refine wpAny_pyNext_enum_itemD D L ⟨y,pT⟩ (by simpa using (aP.mp hu).1) V (by simp[V,hae]) λu2 h1 tk hu2 ho1 N ht1 hz1 hk1=>?_
  obtain⟨N,_⟩:=N;have hu3:u2=u:=by simp[hu]at hu2;exact hu2.symm
  subst hu3;refine⟨_,rfl,BU (s:={ s with heap:=h1,toks:=tk+1 }) ho1 λh2 he2 R=>?_⟩;replace R:eW e h1 h2:=R;have W:e < s.heap.objs.size:=aI L;have Q:∀b o,b≠e->b≠g->s.heap.get? b=some o->h2.get? b=some o:=λb o b1 b2 q=>(R.2 b b1).trans (hk1 b o b1 b2 q)
  have Z:h2.get? s.heap.objs.size=some { cls:=.type "tuple",data:=.seq #[.int i tk,u2] }:=(R.2 _ (bL W)).trans ht1;have G:H s.heap.objs.size=none:=I.h.fresh (ag _);have ne:∀{b:Addr}{o:HO},H b=some o->b≠e/\b≠g:=λ{b o} q=>⟨λz=>(by rw[z,f0]at q;cases q),λz=>(by rw[z,g0]at q;cases q)⟩;have C:∀b,b ∉ [e,g]->b≠e/\b≠g:=λb F=>⟨λz=>F (by simp[z]),λz=>F (by simp[z])⟩;have I':Inv X f J (bN H s.heap.objs.size (.tup [.int i,x])) { s with heap:=h2,gens:=s.gens,drawn:=s.drawn,toks:=tk+1 }:=by
   refine I.step (ch:=[e,g]) (λb F=>?_) (λb o _ _ p q _=>Q b o (C b p).1 (C b p).2 q) (λb o _ _ p q _=>⟨o.slots,Q b o (C b p).1 (C b p).2 q⟩) (λb o _ q n=>?_) (λb o p q=>⟨o,Q b o (C b p).1 (C b p).2 q⟩)
    (λb ys q=>?_) (λb o ys q=>?_) (λb q=>?_) (λm hm=>?_) (λb u' q=>?_) I.bare
   .have:b=e\/b=g:=by simpa using F
    rcases this with rfl|rfl
    .exact⟨f3,f1,f4,f5⟩
    .exact⟨g3,g1,g4,g5⟩
   .rw [aj (bc (aI q))];exact n
   .rw [aj (a6 q G)];exact q
   .rw [aj (a6 q G)];exact q
   .rw [aj (a6 q G)];exact q
   .obtain⟨o,M,ep,ho,r⟩:=hm;exact⟨o,M,ep,Q _ o (aK f1) (aK g1) ho,r⟩
   .by_cases F:b=s.heap.objs.size
    .subst F;rw[aJ]at q;cases q;exact⟨by show 2≤sizeLine;decide,[.int i tk,u2],.cons ⟨_,rfl⟩ (.cons ru .nil),⟨_,Z,⟨rfl,_,rfl⟩,rfl⟩⟩
    .rw [aj F]at q;refine(I.h b u' q).stay (λc v p z=>Q c v ?_ ?_ z) (λc z=>by rw[aj (a6 z G)];exact z) λc ys z=>by rw[aj (a6 z G)];exact z
     .rcases p with rfl|p
      .exact (ne q).1
      .exact (ne p).1
     .rcases p with rfl|p
      .exact (ne q).2
      .exact (ne p).2
  refine⟨.ref s.heap.objs.size,_,I',rfl,⟨s.heap.objs.size,x,rfl,G,rfl,λys hy=>by rw[I.tuple_inj hy hq];exact hx⟩,⟨⟨u2,by simpa using he2⟩,N.at λo q=>(R.2 g (aK V)).trans q⟩,λb F=>?_⟩;have hb':b=e\/b=g:=by simpa using F
  obtain⟨oi,hoi,_⟩:=id y;rcases hb' with rfl|rfl
  .rw [aj (bc W)];exact f0
  .rw [aj (bc (aI hoi))];exact g0
 done:=by intro X hP hw hK p i f s J H E I hf st hg;subst hP hw hK;obtain⟨xs,hq,hx⟩:=hg;obtain⟨T,rv,pl,hz⟩:=I.tuple hq;obtain⟨⟨S,L⟩,y⟩:=st;obtain⟨g0,g1,g2,g3,g4,g5⟩:=hf g (by simp);have hl:=rv.length;have pT:s.heap.IsTuple a T.toArray:=pl;exact wpAny_pyNext_enum_endD (A9 (l:=X.p) (w:=X.w) (A:=X.A.in1) (I.o.hd p) (q:=g) (t:=a) (r:=T.toArray) (n:=i) (by simp;lia)) L ⟨rfl,y,pT⟩ λj eb=>⟨rfl,I.turned (t':=s.toks) (λb o F e=>eb b o F e) g0 g1 g3 g4 g5⟩
 self:=λ_ _ _ _ _ st h=>by obtain⟨⟨S,L⟩,_⟩:=st;exact rO L h
theorem GX{K:FG}{F:Aa}{m:List Addr}{H:Y}{a:Addr}{c:List P}{s:List V}(w:∀h k n,Stp F m H h k n->jw K n a s)(r:b7 K F H c s):H_ K (Np K a) (bG 0 c) F m H:=by
 intro h k n st;have q:=w h k n st;have l:=r.length;refine⟨λi v e=>?_,⟨s,q,by rw[cH,l];exact ag _⟩⟩;obtain⟨d,t,rfl⟩:=j' e;obtain⟨x,f,p⟩:=r.get t;refine⟨⟨s,x,q,f⟩,λz g y=>?_⟩;obtain⟨j,y,rfl,b,rfl,u⟩:=y;have:y=x:=by have:=u s q;rw[f]at this;cases this;rfl
 subst this;refine⟨h,bD b,RP.newTup b ⟨_,_,rfl,?_,_,_,rfl,RP.mono st p,rfl⟩⟩;show V.int (i:Int)=V.int (0+(i:Int));rw[cI]
@[simp] def iw(a:EV)(L:Lc)(S:aL):Aw:=bO (a L S) λv h=>match v with
 | .lst x=>some (bG 0 x,h)
 | .ro x=>some (bG 0 x,h)
 | .tup x=>some (bG 0 x,h)
 |_=>none
theorem Q4{M:Ab}{n:Nat}{a:Expr}{h:EV}{p c:Pos}(C:Gl X "enumerate")(E:X.g "enumerate"=none)(K:O X a (tV X.K h))(y:starEach [a] X.e=[(false,eval a X.e)]):PI X (.Tuple M n B) (.Call (.Name "enumerate" p) [a] [] c) (tI X.K (iw h)):=by
 intro f s J H R I ⟨F,m,L,S,vs,T,r,l,q,k⟩;obtain⟨v,V,o,q⟩:=af q;cases v with
 |lst i=>exact iE C E K y f s J H R I ⟨F,m,L,S,vs,T,r,l,by unfold Pr;rw[o];exact q,k⟩
 |ro i=>exact iE C E K y f s J H R I ⟨F,m,L,S,vs,T,r,l,by unfold Pr;rw[o];exact q,k⟩
 |tup i=>
  have hA:PA X [a] (pj X.K (ae h aE)):=EM K Hl (by rw[y];rfl);refine Call_ (iu I C E xW (iU (cK (hA c f s J H (λz e=>∃t d,Stp F m H t d e/\Rel X.K t e d V/\b7 X.K t e [.tup i] z) I ⟨F,m,L,S,[.tup i],V,r,l,?_,λz t d e x Q N=>⟨t,d,x,Q,N⟩⟩) λus x ⟨z,e,w,Z,t,d,st,Q,N⟩=>?_) (by rw[y];rfl) rfl))
  .simp only[ae,aE,o,aB]
  obtain⟨x1,rfl,px⟩:=uT N;obtain⟨u,rfl,ru⟩:=vals1 Z;cases q;obtain⟨b,z,rfl,ta,ra⟩:=px;have kk:=k _ t d e st Q (GX (λF2 m2 H2 s=>(ta.kp s.kp).sq) ra);cases ru;obtain⟨G,Z,pl,hz⟩:=w.tuple ta.sq;refine xf (show x.heap.IsTuple b G.toArray from pl) λj W D hsz hk=>?_;refine rO W ?_;have g:∀b,x.heap.objs.size≤b->e b=none:=λb P=>w.h.fresh P;refine⟨x.heap.objs.size+1,[x.heap.objs.size+1,x.heap.objs.size],_,_,e,rfl,w.kept (t':=x.toks) hk,wj b _ _ (bL (fU _)),⟨⟨_,W⟩,D⟩,λb P=>?_,kk⟩;have A:b=x.heap.objs.size+1\/b=x.heap.objs.size:=by simpa using P
  rcases A with rfl|rfl
  .exact w.fpOk (hW _) (g _ (hW _))
  .exact w.fpOk (ag _) (g _ (ag _))
 |_=>cases q
end
end Ev
namespace Ev
open PySem PySem.Spec PyProof.Rows L2
section
variable{prog:Program}{w:World}{A:Around}{E:VP}{s:Shared}
theorem vx{Q:LV->Shared->Prop}{r:Addr}{a b c:Int}{t u v:Tok}{n:Nat}(j:A.handled=none)(H:IsRange s.heap r a b c t u v)(h:x_ a b c=true)(z:oh a b c=n)(l:n≤2 ^ 24)
  (g:∀p q x,(∀b o,s.heap.get? b=some o->p.get? b=some o)->ItemsOf (λi v=>∃t,v=.int (a+i * c) t) x n->Q x.toList { s with heap:=p,toks:=q }) :
  wpAny (model prog w) A (collect (.ref r)) Q E s:=by
 unfold collect;refine ab (wpAny_runValue (kG F.entry_proto_collect ?_));rw [iT F.plain_proto_collect _];refine ab (m:=newList []) (kH (ah ⟨kF xz _,kG F.entry_list_iadd ?_⟩));rw [iT xz _];refine wpAny_extend_range (R:=fun r d=>match r with
  | .ok (.ret v)=>wpAny (model prog w) A (match v with
   | .ref a=>do
    let o <- load a
    match o.data with
    | .seq K _=>pure K.toList
    |_=>unsupported "internal:collect"
   |_=>unsupported "internal:collect") Q E d
  | .ok _=>False
  | .error e=>E e d) (s:={ s with heap:=s.heap.push { cls:=.type "list",data:=.seq ([]:LV).toArray } }) (A:=A) j (aV _ H) h z l s.heap.objs.size (.ref s.heap.objs.size) 0 (bP _ rfl) λp q k P y S f=>?_
 exact ab (m:=load s.heap.objs.size) (wpAny_load S (ah (g p q k (λb o e=>y b o (bc (aI e)) (aV _ e)) f)))
theorem LZ{a:Heap}{L r q:Addr}{m:SV}{f:PN}{t u v:Tok}{n:Nat}{I:List Int}{G:VP}(F:Fr a L s.heap m)(N:News a L s.heap f)(hh:A.handled=none)(hr:IsRange s.heap r 0 n 1 t u v)(hn:n < 64)(hl:I.length=n)
  (C:∀(i:Nat) (k:Int) (tv:Tok),i < n->I[i]? = some k->∀(h:Heap) (H:Nat) (y:PN),Fr a L h m->News a L h (f++y) ->
   wpAny (model prog w) A.in1.in1 (call (.ref q) [.int i tv]) (KskEnd a L m (f++y) k { s with heap:=h,toks:=H }) (λ_ _=>False) { s with heap:=h,toks:=H })
  (h:∀D K H B l c,s.heap.get? D=none->Fr a L K m->News a L K ((D,seqObj "list" l c)::f)->ItemsOf (λi v=>∃t,v=.int i t) (yq B) n->KskOut false I B l.toList->G (.ref D) { s with heap:=K,toks:=H }) :
  wpAny (model prog w) A (call (.builtin "sorted") [.ref r] [(Str.ofString "key",.ref q)]) G E s:=by
 have hz:oh 0 n 1=(n:Int):=by unfold oh;simp;try lia
 have R:x_ 0 n 1=true:=vR (by decide) (by decide) (by lia) (by lia);refine call_function_entry_kw kind_sorted plain_sorted entry_sorted (ksk_s1 _ _) ?_;unfold Builtin.«sorted»;refine ab (m:=checkCount "sorted" 1 1 _) (ah (ab (vx (by exact hh) hr R hz (by lia) λd Z p k1 T=>?_)));have X:p.toList.length=n:=by rw[jV];exact T.1
 have P:ItemsOf (λi v=>∃t,v=.int i t) (yq p.toList) n:=by refine⟨by simpa using T.1,λj x e=>?_⟩;obtain⟨t,e⟩:=T.2 j x (by simpa using e);exact⟨t,by rw[e];simp⟩
 refine ab (vW ?_ (by rw[X,jz];lia));have o:∀b,b=d.objs.size->s.heap.get? b=none:=λb hb=>by
  cases q:s.heap.get? b with
  |none=>rfl
  |some u=>exact absurd (aI (k1 b u q)) (by rw[hb];exact gC _)
 have k2:∀b u,s.heap.get? b=some u->(d.push { cls:=.type "list",data:=.seq p.toList.toArray }).get? b=some u:=λb u e=>aV _ (k1 b u e);have S:(d.push { cls:=.type "list",data:=.seq p.toList.toArray }).get? d.objs.size=some (seqObj "list" p.toList.toArray 0):=bP _ rfl;have V:d.objs.size≠L:=λz=>by obtain⟨u,_,_,e,_⟩:=F.ns;rw[o L z.symm]at e;cases e
 have W:a.get? d.objs.size=none:=by
  rcases q:a.get? d.objs.size with _|u
  .rfl
  .have:=F.keep _ _ q;rw[o _ rfl]at this;cases this
 have neN:∀q ∈ f,q.1≠d.objs.size:=λq hq z=>by have:=(N q hq).1;rw[o _ z]at this;cases this
 refine ab (eK (wpAny_call_entry_kw xY ⟨_,S,rfl⟩ xZ ?_ (ksk_l1 _ _)));show wpAny (model prog w) A.in1.in1 (Builtin.«list.sort» ⟨[.ref d.objs.size],[(Str.ofString "key",.ref q)]⟩) _ _ _;rw[ksk_t1];refine ksk_sort (kz:=I) (s:={ s with heap:=d.push { cls:=.type "list",data:=.seq p.toList.toArray },toks:=Z }) (F.keeps k2) (N.keeps k2) S V W neN (by rw[X];exact hl) (by lia) (λi x k hx hk g H y M Q=>?_) λK H l c M Q ko=>⟨_,rfl,ah ⟨_,rfl,h _ K H _ l c (o _ rfl) M Q P ko⟩⟩;obtain⟨tv,rfl⟩:=P.2 i x (by simpa using hx);have hi:i < n:=by rw[<- X];exact(aP.mp hx).1
 exact C i k tv hi hk g H y M Q
end
noncomputable abbrev AR(p:Pos):Arguments:={ posonlyargs:=[],args:=[{ arg:="hand",annotation:=none,pos:=p }],vararg:=none,kwonlyargs:=[],kw_defaults:=[],kwarg:=none,defaults:=[] }
noncomputable abbrev wO(p q r:Pos):Expr:=.Subscript (.Name "renaming" p) (.Name "hand" q) r
noncomputable abbrev qu:Scope:={ kind:=.function,names:=[(Str.ofString "hand",.local),(Str.ofString "renaming",.free)],isGenerator:=false,isCoroutine:=false,more:=[] }
abbrev DE(p x a e:Pos)(c:Addr)(m:Value)(h:Addr)(t:Value):Obj:=PySem.W.kla_obj "<lambda>" pM (AR p) (wO x a e) qu [(Str.ofString "renaming",c)] m h t
section
variable{prog:Program}{w:World}{A:Around}{E:VP}{s:Shared}
theorem DD{f a c u:Addr}{B H S F:Pos}{C v:Value}{t:Array Value}{i:Nat}{k:Int}{q D:Tok}{Q:VP}(r:A.depth < recursionLimit)(M:s.heap.NoLimit)
  (I:s.heap.get? f=some (DE B H S F c C u v)) (l:s.heap.CodeRec (.ref u) pM) (G:s.heap.IsCell c (some (.ref a))) (L:IsTup s.heap a t) (R:i < 1000) (P:t[i]? = some (.int k D))
  (h:∀K N,(∀b o,s.heap.get? b=some o->K.get? b=some o)->Q (.int k D) { s with heap:=K,toks:=N }) :
  wpAny (model prog w) A (call (.ref f) [.int i q]) Q E s:=by
 refine vS (PySem.W.kla_callFunE (body:=wO H S F) r I rfl rfl rfl rfl l ?_);rw[show bindArgs (PySem.W.kla_fn "<lambda>" pM (AR B) (wO H S F) qu [(Str.ofString "renaming",c)] C (.ref u) v) ⟨[.int i q],[]⟩=pure [(Str.ofString "hand",.int i q)] from rfl];refine ah (BL (show ∀x ∈ qu.names,x.2≠.cell by decide) (show ∀x ∈ [(Str.ofString "hand",Value.int i q)],qu.names.lookup x.1=some .local by simp) (λn y m=>⟨M.fresh _ m,?_⟩) rfl);have z:∀b o,s.heap.get? b=some o->n.get? b=some o:=λb o e=>m.extBut b o (bc (aI e)) (aV _ e);have g:n.IsCell c (some (.ref a)):=let ⟨o,e,d⟩:=G;⟨o,z _ _ e,d⟩
 have p:IsTup n a t:=L.keeps z;refine PySem.W.kla_codeExpr (Subscript_Name (oY (BJ rfl rfl rfl g (oY (BK rfl rfl y rfl ⟨"tuple",_,g8.lookup,p.typeIs,?_⟩)))));exact xT (j:=i) p (by lia) (by lia) (by rw[rH (by lia) (by have:=(si.mp P).1;lia)];simp) P (h _ _ z)
end
section
variable{X:Cx}{G:PN}{J:L2.St}{H:Y}{s:Shared}{E:VP}
theorem DC{Q:VP}{c P S:Addr}{V W Z p4:Pos}(I:Inv X G J H s)(w:X.e.code=.ref c)(C:lv X.b c P)(hP:P ∈ bS X.K)(hq:X.e.qual++Str.ofString "<lambda>"=pM)(cl:X.e.cells.lookup (Str.ofString "renaming")=some S)
  (k:∀f h pm a i D H',Inv X G J H' { s with heap:=i,toks:=D }->(H'=H\/H h=none/\H'=bN H h (.own P))->i.get? f=some (DE V W Z p4 S pm h a)->i.CodeRec (.ref h) pM->H' h=some (.own P)->Q (.ref f) { s with heap:=i,toks:=D }) :
  wx X (eval (.Lambda (AR V) (wO W Z p4) qu wN) X.e) Q E s:=by
 have j:H P=some .tbl:=I.base.tbls P (I.o.tab P hP);obtain⟨ps,e0,z⟩:=(show qc H s.heap P from I.h P _ j);have C':=C.keeps I.bk;obtain⟨bm,ob,b1,b2,b3,b4,b5,b6⟩:=I.mod.bmain;have K:s.heap.Ns mainGlobals X.g:=I.mod.glob.keeps I.bk;have hgP:mainGlobals≠P:=λq=>by obtain⟨o,es,ep,e,hd,_⟩:=K;rw[q,e0]at e;cases e;cases hd
 have l:bm≠P:=λq=>by have e:=I.bk _ _ b3;rw[q,e0]at e;cases e;cases b4
 have hbG:bm≠mainGlobals:=λq=>by obtain⟨o,es,ep,e,hd,_⟩:=I.mod.glob;rw[q,e]at b3;cases b3;rw[hd]at b6;cases b6
 have hB:s.heap.BuiltinsAt X.g P:=⟨bm,ob,b1,b2,hbG,l,I.bk _ _ b3,b4,b5,b6⟩;have M:closureFor qu X.e=pure [(Str.ofString "renaming",S)]:=by
  have:cellOf X.e (Str.ofString "renaming")=pure S:=by unfold cellOf;rw[cl]
  simp[closureFor,this]
 refine PySem.W.kla_eval rfl ?_;rw[hq];rcases z with rfl|⟨h,rfl,h1,h2⟩
 .refine PySem.W.kla_makeFunction (mg:=X.g) M I.o.glob K w C' e0 trivial rfl hgP hB λh a i D hx N hlt R T=>?_;have L:H h=none:=I.h.fresh N;have p:(i.push (DE V W Z p4 S ((X.g "__name__").getD .none) h a)).CodeRec (.ref h) pM:=R.keeps λb o e=>aV _ e;have y:∀b o,b≠P->s.heap.get? b=some o->(i.push (DE V W Z p4 S ((X.g "__name__").getD .none) h a)).get? b=some o:=λb o F e=>aV _ (hx b o F e);have A:∀b,H b=none->b≠P:=λb n q=>by rw[q,j]at n;cases n
  have g:∀b o,H b=some o->b≠h:=λb o e q=>by rw[q,L]at e;cases e
  refine k _ h _ a _ D (bN H h (.own P)) ?_ (.inr ⟨L,rfl⟩) (bP _ rfl) p aJ;refine I.step (g':=s.gens) (d':=s.drawn) (ch:=[]) (λ_ z=>nomatch z) (λb o _ _ _ e n=>y b o (A b n) e) (λb o _ _ _ e n=>⟨o.slots,y b o (A b n) e⟩) (λb o _ e n=>?_) (λb o _ e=>?_) (λb xs q=>(aj (g b _ q)).trans q) (λb o u q=>(aj (g b _ q)).trans q) (λb q=>(aj (g b _ q)).trans q) (λm hm=>?_) (λb u q=>?_) I.bare
  .rw [aj (bc (bM (aI e) N))];exact n
  .by_cases F:b=P
   .subst F;exact⟨_,aV _ T⟩
   .exact⟨o,y b o F e⟩
  .obtain⟨o,es,ep,ho,r⟩:=hm;exact⟨o,es,ep,y _ o (A _ I.free) ho,r⟩
  .by_cases F:b=h
   .subst F;rw[aJ]at q;cases q;obtain⟨x,oc,B,t,e1,e2,_⟩:=p;cases e1;exact⟨oc,e2⟩
   .rw [aj F]at q;by_cases l:b=P
    .subst l;rw[j]at q;cases q;exact⟨_,aV _ T,.inr ⟨h,by simp,aJ,p⟩⟩
    .refine (I.h b u q).stay (λd v hd e=>y d v (λz=>?_) e) (λd e=>(aj (g d _ e)).trans e) λd xs e=>(aj (g d _ e)).trans e;rcases hd with hd|hd
     .exact l (hd ▸ z)
     .rw [z,j]at hd;cases hd
 .refine PySem.W.kla_makeFunctionHit (mg:=X.g) (cv:=.ref h) M I.o.glob K w C' e0 ?_ ?_ hB λa i D hk hsz=>?_
  .exact trivial
  .simp [codeAmong,rawInt]
  .have y:∀b o,s.heap.get? b=some o->(i.push (DE V W Z p4 S ((X.g "__name__").getD .none) h a)).get? b=some o:=λb o e=>aV _ (hk b o e);exact k _ h _ a _ D H (I.kept y) (.inl rfl) (bP _ rfl) (h2.keeps y) h1
end
theorem jE:∀(n:Nat)(z:List Int),z.length=n->(∀k:Nat,k < n->(k:Int) ∈ z)->z.Perm ((List.range n).map λ(i:Nat)=>(i:Int))
 |0,z,h,_=>by rw[List.length_eq_zero_iff.mp h];exact .refl _
 |n+1,z,h,x=>by have m:=x n (fU n);have e:=jE n (z.erase n) (by rw[List.length_erase_of_mem m,h];rfl) λk a=>(List.mem_erase_of_ne (by lia)).mpr (x k (by lia));refine(List.perm_cons_erase m).trans ((e.cons _).trans ?_);rw[List.range_succ,sk];exact List.perm_append_comm (l₁:=[(n:Int)])
noncomputable def cG(z:List Int):List Nat:=(List.range z.length).map λ(k:Nat)=>z.idxOf (k:Int)
noncomputable def dD(z:List Int):Bool:=decide (z.length < 64) && (List.range z.length).all λ(k:Nat)=>z.contains (k:Int)
theorem dG(h:dD z=true):z.length < 64/\∀k:Nat,k < z.length->(k:Int) ∈ z:=by unfold dD at h;rw[av,be]at h;exact⟨bu h.1,λk x=>by simpa using h.2 k (iX.mpr x)⟩
theorem wC(n:Nat):((List.range n).map λ(i:Nat)=>(i:Int)).Pairwise (·≤·):=by rw[sD];exact List.pairwise_lt_range.imp λh=>by lia
theorem Db(u:ItemsOf (λi v=>∃t,v=.int i t) B.toArray z.length)(D:∀k:Nat,k < z.length->(k:Int) ∈ z)(G:KskOut false z B o):bb ((cG z).map λ(i:Nat)=>V.int (i:Int)) o:=by
 obtain⟨f,g,rfl,M⟩:=G;have N:B.length=z.length:=by simpa using u.1
 have P:=jE _ z rfl D;have L:z.Nodup:=P.nodup_iff.mpr (List.Pairwise.map _ (λa b h e=>h (by lia)) su);have Q:(f.map Prod.fst).Perm z:=by have:=g.map Prod.fst;rwa [List.map_fst_zip (by lia)]at this
 have q:f.map Prod.fst=(List.range z.length).map λ(i:Nat)=>(i:Int):=
  List.Perm.eq_of_pairwise (le:=(·≤·)) (λa b _ _ K A=>Int.le_antisymm K A) (sD.mpr (M.imp λh=>by simpa using h)) (wC _) (Q.trans P)
 have l:f.length=z.length:=by have:=d8 lj q;simpa using this
 refine mG (by simp[cG,l]) λi x y w n=>?_;rw[aZ]at n;cases s:f[i]? with
 |none=>rw[s]at n;cases n
 |some p=>
  rw[s]at n;cases n;have d:i < z.length:=by rw[<- l];exact(aP.mp s).1
  have H:p.1=(i:Int):=by have:=d8 (·[i]?) q;simp only[aZ,s,jX]at this;rw[hG d]at this;simpa using this
  have I:=g.mem_iff.mp (aM s);obtain⟨j,r⟩:=hU.mp I;rw[yL]at r;obtain⟨c,F⟩:=r;obtain⟨t,S⟩:=u.2 j p.2 (by simpa using F);obtain⟨C,c⟩:=aP.mp c;have E:z.idxOf (i:Int)=j:=by rw[<- H,<- c];exact L.idxOf_getElem j C
  have m:x=V.int ((z.idxOf (i:Int):Nat):Int):=by simp only[cG,aZ,hG d,jX]at w;exact(du w).symm
  rw[m,E];exact⟨t,S⟩
section
variable{X:Cx}
theorem jw.own{K:FG}{H:Y}{a b:Addr}{o:HO}{s:List V}(x:H b=none)(h:jw K H a s):jw K (bN H b o) a s:=by
 rcases h with h|h
 .rcases h with h|⟨e,h⟩
  .exact .inl (.inl ((aj (a6 h x)).trans h))
  .exact .inl (.inr ⟨e,(aj (a6 h x)).trans h⟩)
 .exact .inr h
theorem CZ{p c1 E p1 p2 p3 p4:Pos}{e:Expr}{ta:TA}{c P:Addr}{i:Nat}(y:X.c=true)(hdp:X.A.depth < recursionLimit)(S:X.e.code=.ref c)(C:lx X.K c P=true)(hP:P ∈ bS X.K)(hq:X.e.qual++Str.ofString "<lambda>"=pM)
  (hN:X.N[i]? = some (Str.ofString "renaming")) (hK:X.e.kindOf (Str.ofString "renaming")=some .cell) (hg:Gl X "sorted") (hm:X.g "sorted"=none) (ha:PA X [e] ta) (hs:starEach [e] X.e=[(false,eval e X.e)]:=by rfl) :
  O X (.Call (.Name "sorted" p) [e] [⟨some (Str.ofString "key"),.Lambda (AR p1) (wO p2 p3 p4) qu wN,E⟩] c1) (fun J H Q=>ta J H fun xs A=>∃r a j,xs=[.ref r]/\A r=some (.rng 0 (j.length:Int))/\J[i]? = some (some (.ref a))/\jw X.K A a (j.map V.int)/\dD j=true /\
   ∀W l,(W=A\/∃b,A b=none/\W=bN A b (.own P))->W l=none->Q (.ref l) (bN W l (.lst ((cG j).map λ(i:Nat)=>V.int (i:Int))))):=by
 intro G s J H Q I h;refine jA (iu I hg hm x9 ?_);refine callWith_kw ?_ (by rw[hs];rfl) (by rw[hs];rfl);refine cK (ha c1 G s J H _ I h) λus s1 hz=>?_
 obtain⟨B,A,I1,rv,r,a,j,e1,hr,hJ,hT,hok,q⟩:=hz;subst e1;obtain⟨u,rfl,ru⟩:=vals1 rv;cases ru;obtain⟨h64,R⟩:=dG hok;have cellAt:∀{K:Y}{s':Shared},Inv X G J K s'->∃M,X.e.cells.lookup (Str.ofString "renaming")=some M/\s'.heap.IsCell M (some (.ref a)):=λ{K s'} I'=>by
  obtain⟨m,_,hl⟩:=I'.loc;obtain⟨u,ru,lk⟩:=hl i _ _ hN hJ (.inr (.inl hK));cases ru;rcases lk with ⟨z,_⟩|⟨_,M,z1,z2⟩
  .rw [hK]at z;cases z
  .exact⟨M,z1,z2⟩
 obtain⟨M,cl,_⟩:=cellAt I1;refine kws_cons (DC I1 S (y1 I1.mod.kin C) hP hq cl λf c' pm ctv h' tk K v hH hf hcr hown=>kws_nil ?_);have hT2:jw X.K K a (j.map V.int):=by
  rcases hH with rfl|⟨hn,rfl⟩
  .exact hT
  .exact jw.own hn hT
 have hr2:K r=some (.rng 0 (j.length:Int)):=by
  rcases hH with rfl|⟨hn,rfl⟩
  .exact hr
  .exact (aj (a6 hr hn)).trans hr
 obtain⟨cr',L,hc2⟩:=cellAt v;rw[cl]at L;cases L;obtain⟨its,rvs,tu,hz⟩:=v.tuple hT2;obtain⟨t1,t2,t3,hrg⟩:=v.h r _ hr2;obtain⟨m,Fm⟩:=v.fr;have hL:∀b o,h'.get? b=some o->(∀es ep,o.data≠.dict es ep)->b≠X.e.locals:=λb o e d z=>by obtain⟨o2,es,ep,Z,d2,_⟩:=Fm.ns;rw[z]at e;rw[show h'.get? X.e.locals=some o2 from Z]at e;cases e;exact d es ep d2
 show wpAny _ _ (call (.builtin "sorted") [.ref r] [(Str.ofString "key",.ref f)]) _ _ _;refine LZ (I:=j) (n:=j.length) Fm (u4 (g:=X.b)) (v.o.hd y) hrg h64 rfl (λi k tv hi hk g T own F N=>?_) λD h2 T ws out cc hD F N it ko=>?_
 .have E:∀b o,b≠X.e.locals->h'.get? b=some o->g.get? b=some o:=lR v.bk F λp R=>N p (lr _ R);obtain⟨x,oc,ws,t,e1,Z,e3,e4⟩:=hcr;cases e1;obtain⟨ot,f1,f2⟩:=tu;obtain⟨w,ew,rw'⟩:=rvs.get (show(j.map V.int)[i]? = some (.int k) by rw[aZ,hk];rfl);obtain⟨t0,rfl⟩:=rw';refine DD (a:=a) (t:=its.toArray) (D:=t0) (k:=k) (show X.A.depth < recursionLimit from hdp) (v.mod.nolimit.keeps F.keep) (E _ _ (hL _ _ hf (λ_ _ z=>nomatch z)) hf)
   ⟨c',oc,ws,t,rfl,E _ _ (hL _ _ Z (λ_ _ z=>by rw[e3]at z;cases z)) Z,e3,e4⟩ ?_ ?_ (by lia) (by simpa using ew) λh3 tk3 k3=>KskEnd.intro (F.keeps k3) (N.keeps k3) λ_ z=>z
  .obtain⟨o,d1,d2⟩:=hc2;exact⟨o,E _ _ (v.cne _ _ cl) d1,d2⟩
  .refine⟨ot,E _ _ (hL _ _ f1 (λ_ _ z=>?_)) f1,f2⟩;obtain⟨_,_,d⟩:=f2;rw[d]at z;cases z
 .have vz:=Db it R ko;exact⟨.ref D,_,qW (S:=T) v Fm.ns F.ns (lR v.bk F λp R=>N p (.tail _ R)) hD (show cT X.p X.w _ h2 _ (.lst _) from ⟨by rw[aU];unfold cG;rw[aU,sB,jz];lia,out.toList,cc,vz,by simpa using (N _ (.head _)).1⟩),rfl,q K D (hH.imp id λz=>⟨c',z⟩) (wU v hD)⟩
end
noncomputable def m7:List P->Option (List Int)
 | []=>some []
 | .int i::r=>(m7 r).map (i::·)
 |_=>none
theorem uK:∀{s:List P}{k:List Int},m7 s=some k->s=k.map .int
 | [],_,h=>by cases h;rfl
 |d::r,k,h=>by
  cases d with
  |int i=>
   cases e:m7 r with
   |none=>simp only[m7,e]at h;cases h
   |some w=>simp only[m7,e]at h;cases h;rw[uK e];rfl
  |_=>cases h
theorem uR{K:FG}{F:Aa}{H:Y}:∀{k:List Int}{y:List V},b7 K F H (k.map .int) y->y=k.map V.int
 | [],_,h=>h
 |i::r,_,h=>by obtain⟨x,y,rfl,a,e⟩:=h;rw[uR e,show x=V.int i from a];rfl
def Bj(w:Option (Option D))(v:P):Option P:=match w,v with
 |some (some (.p (.tup d))),.int j=>(m7 d).bind λk=>if decide (j=(k.length:Int)) && dD k then some (.lst ((cG k).map λ(i:Nat)=>.int (i:Int))) else none
 |_,_=>none
@[simp] def uI(i:Nat)(a:EV)(L:Lc)(S:aL):tyV:=bO (a L S) λv h=>(Bj L[i]? v).map λu=>(u,h)
theorem Hb{w:Option (Option D)}{v u:P}(h:Bj w v=some u):∃k:List Int,w=some (some (.p (.tup (k.map .int))))/\v=.int k.length/\dD k=true/\u=.lst ((cG k).map λ(i:Nat)=>.int (i:Int)):=by
 unfold Bj at h;split at h
 .rename_i d j;obtain⟨k,e,h⟩:=iV.mp h;split at h
  .rename_i c;rw[av]at c;cases h;exact⟨k,by rw[uK e],by rw[bu c.1],c.2,rfl⟩
  .cases h
 .cases h
theorem pA{K:FG}{F:Aa}{H:Y}:∀s:List Nat,b7 K F H (s.map λ(i:Nat)=>P.int (i:Int)) (s.map λ(i:Nat)=>V.int (i:Int))
 | []=>rfl
 |_::s=>⟨_,_,rfl,rfl,pA s⟩
section
variable{X:Cx}
theorem FK{p V kp B p2 p3 p4 pr W:Pos}{a:Expr}{E:EV}{c P:Addr}{i:Nat}(e:X.c=true)(j:X.A.depth < recursionLimit)(s:X.e.code=.ref c)(C:lx X.K c P=true)(hP:P ∈ bS X.K)(hq:X.e.qual++Str.ofString "<lambda>"=pM)
  (hN:X.N[i]? = some (Str.ofString "renaming")) (hK:X.e.kindOf (Str.ofString "renaming")=some .cell) (hg:Gl X "sorted") (hm:X.g "sorted"=none) (y:Gl X "range") (K:X.g "range"=none) (ha:O X a (tV X.K E)) (I:starEach [a] X.e=[(false,eval a X.e)]) :
  O X (.Call (.Name "sorted" p) [.Call (.Name "range" pr) [a] [] W] [⟨some (Str.ofString "key"),.Lambda (AR B) (wO p2 p3 p4) qu wN,kp⟩] V) (tV X.K (uI i E)):=
 (CZ e j s C hP hq hN hK hg hm (dI (iF p9 y K r9 (dI ha fH (by rw[I];rfl)) (by decide) (by decide) (by rw[I];rfl) rfl) fH rfl) rfl).imp' λJ H Q h=>by
  obtain⟨F,m,L,S,d,S',r,l,q,M⟩:=h;obtain⟨x,S1,Z,q⟩:=af q;obtain⟨u,e2,q⟩:=cV.mp q;cases q;obtain⟨f,hw,rfl,A,rfl⟩:=Hb e2;refine⟨F,m,L,S,_,_,r,l,Z,λv k N t D T B=>?_⟩;cases (show v=.int f.length from B);obtain⟨b,hJ,rd⟩:=(l.mono D).at' i _ hw;obtain⟨b,ys,rfl,tb,rs⟩:=(show RP X.K k t (.tup (f.map .int)) b from rd);cases uR rs;refine⟨_,rfl,λR n=>⟨R,b,f,rfl,aJ,hJ,jw.own n tb.sq,A,λH2 z hH h=>?_⟩⟩;have g:Grow k t k (bN t R (.rng 0 f.length)):=bD n;rcases hH with rfl|⟨b',w,rfl⟩
  .exact M _ _ N _ (D.trans (g.stp.trans (bE h).stp)) ((T.grow g).grow (bE h)) (.newLst h (pA _))
  .have G:=bD (F:=k) (o:=.own P) w;exact M _ _ N _ (D.trans (g.stp.trans (G.stp.trans (bE h).stp))) (((T.grow g).grow G).grow (bE h)) (.newLst h (pA _))
end
open PySem.SeqAt (EqAt)
open PySem.AutoSeq1 (wpAny_loadPart')
def ER(A:Around)(s:Shared)(x y:Value)(b:Bool):Prop:=∀(prog:Program)(w:World)(E:VP)(Q:VP),Q (.bool b) s->wpAny (model prog w) A (richCompare .Lt x y) Q E s
def Nm(A:Around)(s:Shared)(fin:Bool):List (Value×Value)->Bool->Prop
 | [],b=>b=fin
 |z::r,b=>(EqAt A s z.1 z.2 true/\Nm A s fin r b)\/(EqAt A s z.1 z.2 false/\ER A s z.1 z.2 b)
theorem wk(l b:Addr)(xs ys:Array Value)(n n2:Nat)(dd dd2:Option Addr)(sl sl2:Array (OV))(v:Bool) :
  Meets (Builtin.«tuple.__lt__» ⟨[.ref l,.ref b],[]⟩)
   (fun A R s=>s.heap.get? l=some { cls:=.type "tuple",dict:=dd,data:=.seq xs n,slots:=sl }/\s.heap.get? b=some { cls:=.type "tuple",dict:=dd2,data:=.seq ys n2,slots:=sl2 } /\
    Nm A.in1 s (decide (xs.size < ys.size)) (xs.toList.zip ys.toList) v/\R (.ok (.ret (.bool v))) s):=
 .of_wp λprog w A R s h=>by
  obtain⟨hp,g,d,tk,os⟩:=s;obtain⟨hl,hb,he,h⟩:=h;have f2:=rK
  wp_walk using iW hl,iW hb,BC _ (λrest b s'=>b.1=none/\s'=⟨hp,g,d,tk,os⟩/\Nm A.in1 ⟨hp,g,d,tk,os⟩ (decide (xs.size < ys.size)) rest v) _
  case turn=>
   rintro ⟨x,y⟩ rest b s' ⟨hb',rfl,hz⟩;rcases hz with ⟨e1,hz⟩|⟨e1,hz⟩
   .refine ab (e1 prog w _ _ ?_)
    wp_walk
    exact⟨rfl,rfl,hz⟩
   .refine ab (e1 prog w _ _ ?_);refine ab (m:=rule _) (oZ (ab (hz prog w _ _ (ab (ah (ah ?_))))));exact ah ⟨_,rfl,h⟩
  case fin=>
   rintro ⟨b1,b2⟩ s' ⟨hb',rfl,hz⟩;simp only at hb';subst hb';cases (show v=decide (xs.size < ys.size) from hz)
   wp_walk
   exact⟨_,rfl,by simpa[E5] using h⟩
  case h=>exact⟨rfl,rfl,he⟩
noncomputable def km(f:PyData->PyData->Option Bool):List PyData->List PyData->Option Bool
 | [],s=>some (!s.isEmpty)
 |_::_,[]=>some false
 |x::h,y::s=>if bB x y=true then km f h s else f x y
def fy:Nat->PyData->PyData->Option Bool
 |_,.int a,.int b=>some (decide (a < b))
 |_,.str a,.str b=>some (decide (a.cps.toList < b.cps.toList))
 |n+1,.tuple x,.tuple y=>km (fy n) x y
 |_,_,_=>none
theorem Dy(hu:A.units+k < cLine)
  (hf:∀{da db:PyData}{a b:Value}{as bs:List Addr}{v:Bool},f da db=some v->Reads s.heap a da as->Reads s.heap b db bs->da.canLay0=true->db.canLay0=true->da.depth≤k->ER A s a b v) :
  ∀{us ws:LV}{ds es:List PyData}{as bs:List Addr}{v fin:Bool},ReadsAll s.heap us ds as->ReadsAll s.heap ws es bs->(∀d ∈ ds,d.canLay0=true/\d.depth≤k)->(∀d ∈ es,d.canLay0=true)->km f ds es=some v->fin=decide (us.length < ws.length)->Nm A s fin (us.zip ws) v
 | [],ws,ds,es,as,bs,v,fin,r1,r2,_,_,h,hfin=>by cases r1;cases r2<;>(cases h;rw[hfin];rfl)
 |u::us,[],ds,es,as,bs,v,fin,r1,r2,_,_,h,hfin=>by cases r1;cases r2;cases h;rw[hfin];rfl
 |u::us,x::ws,ds,es,as,bs,v,fin,r1,r2,l1,l2,h,hfin=>by
  cases r1 with
  |cons a1 a2=>
   cases r2 with
   |cons b1 b2=>
    rename_i d as0 ds as1 e bs0 es bs1;obtain⟨c1,c2⟩:=l1 d (.head _);have c3:=l2 e (.head _);have eq:EqAt A s u x (bB d e):=λprog w E Q h=>SeqAt.eqBoolOverData prog w A E s u x d e _ _ Q a1 b1 c1 c3 (by lia) h
    simp only[km]at h;split at h
    .rename_i he;rw[he]at eq;exact .inl ⟨eq,Dy hu hf a2 b2 (λd hd=>l1 d (.tail _ hd)) (λd hd=>l2 d (.tail _ hd)) h (by rw[hfin];simp)⟩
    .rename_i he;rw[ye]at he;rw[he]at eq;exact .inr ⟨eq,hf h a1 b1 c1 c3 c2⟩
theorem tS:∀{s:List PyData}{d:PyData},k_ s=true->d ∈ s->d.canLay0=true
 |x::r,d,h,hd=>by
  simp only[k_,av]at h;rcases aW.mp hd with rfl|hd
  .exact h.1
  .exact tS h.2 hd
theorem q_:∀{s:List PyData}{d:PyData},d ∈ s->d.depth≤jT s
 |x::r,d,hd=>by
  simp only[jT];rcases aW.mp hd with rfl|hd
  .lia
  .have:=q_ hd;lia
theorem vc:∀(n:Nat){A:Around}{s:Shared}{e c:PyData}{a b:Value}{j y:List Addr}{v:Bool},A.units+n+30 < cLine->fy n e c=some v->Reads s.heap a e j->Reads s.heap b c y->e.canLay0=true->c.canLay0=true->e.depth≤29->ER A s a b v
 |n,A,s,e,c,a,b,j,y,v,hu,h,r,f,p,u,hd=>by
  unfold fy at h;split at h
  .cases h;cases r;cases f;exact λprog w E Q q=>se q
  .cases h;cases r;cases f;exact λprog w E Q q=>FH q
  .rename_i n xs ys;cases r with
   |tuple K P C T=>
    cases f with
    |tuple D G I V=>
     rename_i L o B m M X i W;obtain⟨N,R,S,Z⟩:=o;obtain⟨H,t,data1,l⟩:=X;simp only at P C G I;subst P C G I;have g:jT xs≤28:=by simp only[k8]at hd;lia
     have z:Nm A.in1 s (decide (B.size < i.size)) (B.toList.zip i.toList) v:=Dy (A:=A.in1) (k:=28) (by show A.units+1+28 < cLine;lia) (λh r f p u hd=>vc n (A:=A.in1) (by show A.units+1+n+30 < cLine;lia) h r f p u (by lia))
      T V (λd hd=>⟨tS (by simpa only[rM] using p) hd,bh (q_ hd) g⟩) (λd hd=>tS (by simpa only[rM] using u) hd) h (by simp)
     exact λprog w E Q q=>richCompare_meets_room (op:=.Lt) ⟨_,K,rfl⟩ ⟨_,D,rfl⟩ F.slot_tuple_lt F.entry_tuple_lt (F.args_tuple_lt_2 _ _) (wk L M B i m W R t Z l v)
      ⟨K,D,z,show Value.bool v≠Value.notImplemented/\Q (.bool v) s from ⟨(λx=>nomatch x),q⟩⟩ (by lia)
  .cases h
section
variable{prog:Program}{w:World}{A:Around}{E:VP}{R:Result->Shared->Prop}{s:Shared}{l I S:Addr}{B:LV}{g:Heap}
theorem JJ(y:Nat->Nat->Bool)(hh:A.handled=none)(M:l≠I)(K:S≠I)(E:g.get? I=none)(G:g.get? S=none)(T:g.IsList l B.toArray)
  (P:∀i j vi vj,B[i]? = some vi->B[j]? = some vj->∀t:Shared,(∀b o,g.get? b=some o->t.heap.get? b=some o)->ER A.in1 t vi vj (y i j))
  (hR:∀v r d,B[argBest y (B.length-1)]? = some v->(∀b o,g.get? b=some o->r.get? b=some o)->R (.ok (.ret v)) { s with heap:=r,toks:=d }) :
  ∀(k j:Nat)(h:Heap)(d:Nat)(n:Value)(c:Nat),B.length-(j+1)=k->j+1≤B.length->(∀b o,g.get? b=some o->h.get? b=some o)->h.IsListIter I l (j+1)->B[argBest y j]? = some n->h.get? S=some (seqObj "list" #[n,n] c) ->
   codeAny (model prog w) A (.builtin "min.loop" ⟨[.ref I,.none,.ref S],[]⟩) R { s with heap:=h,toks:=d }:=by
 have W:=Walks.list (prog:=prog) (w:=w) (A:=A.in1) hh I l M B.toArray;have hsz:B.toArray.size=B.length:=ba ..;have D:(toString "min"++toString ".loop":String)="min.loop":=by decide
 have nI:∀{b o},g.get? b=some o->b ∉ [I]:=λe z=>by rw[g_.mp z,E]at e;cases e
 have nS:∀{b o},g.get? b=some o->S≠b:=λe z=>by rw[<- z,G]at e;cases e
 have sI:S ∉ [I]:=λz=>K (g_.mp z);intro k;induction k with
 |zero=>
  intro j h d n c hk hj C q u H;have L:j+1=B.toArray.size:=by lia
  refine kG rQ ?_;rw[iT iR _];refine ab (m:=seqItems? (.ref S)) (gM H rfl ?_);refine ab (m:=tryCatch (pyNext (.ref I)) _) (o4 (W.done { s with heap:=h,toks:=d } _ _ ⟨L ▸ q,T.at λo e=>C _ o e⟩ λr Q a=>?_));have x:=a S _ sI H;refine ab (m:=updateSeq S _) (v7 x rfl (ab (mm (ah ?_))));exact hR n _ _ (by rw[show B.length-1=j by lia];exact u) λb o e=>(oV _ _ (nS e)).trans (a b o (nI e) (C b o e))
 |succ k Z=>
  intro j h d n c hk hj C q u H;have N:j+1 < B.toArray.size:=by lia
  refine kG rQ ?_;rw[iT iR _];refine ab (m:=seqItems? (.ref S)) (gM H rfl ?_);refine ab (m:=tryCatch (pyNext (.ref I)) _) (o4 (W.item (j+1) { s with heap:=h,toks:=d } _ _ N ⟨q,T.at λo e=>C _ o e⟩ λv r Q hP f a=>?_));have x:=a S _ sI H;have p:∀b o,g.get? b=some o->r.get? b=some o:=λb o e=>a b o (nI e) (C b o e);have X:B[j+1]? = some v:=by simpa using hP
  refine ab (m:=tryCatch (holding [v,v] (richCompare .Lt v n >>= _)) _) (o4 (eK (ab (P _ _ v n X u _ p prog w _ _ ?_))));refine ab (eK (i3 (ab (mm (ah ?_)))));cases V:y (j+1) (argBest y j) with
  |true=>simp only[eL];refine ab (m:=updateSeq S _) (v7 x rfl (ab (mm ?_)));rw[D];have up:∀b o,b≠S->r.get? b=some o->(r.update S (gw λ_=>#[v,v])).get? b=some o:=λb o u e=>(oV _ _ (aK u)).trans e;refine ah ⟨kF iR _,Z (j+1) _ _ v _ (by lia) (by lia) (λb o e=>up b o (nS e).symm (p b o e)) ?_ (by simp only[argBest,V,eL];exact X) (oU _ x rfl)⟩;exact f.1.at λo e=>up I o K.symm e
  |false=>simp only[fM,g7];refine ab (mm ?_);rw[D];exact ah ⟨kF iR _,Z (j+1) _ _ n c (by lia) (by lia) p f.1 (by simp only[argBest,V,fM,g7];exact u) x⟩
end
section
variable{prog:Program}{w:World}{A:Around}{E:VP}{s:Shared}{l:Addr}{B:LV}
theorem min_list(q:Nat->Nat->Bool)(P:A.handled=none)(p:s.heap.IsList l B.toArray)(T:0 < B.length)
  (c:∀i j vi G,B[i]? = some vi->B[j]? = some G->∀t:Shared,(∀b o,s.heap.get? b=some o->t.heap.get? b=some o)->ER A.in1 t vi G (q i j))
  (M:∀v h H,B[argBest q (B.length-1)]? = some v->(∀b o,s.heap.get? b=some o->h.get? b=some o)->Q v { s with heap:=h,toks:=H }) :
  wpAny (model prog w) A (call (.builtin "min") [.ref l]) Q E s:=by
 have n:(toString "min"++toString ".loop":String)="min.loop":=by decide
 have V:B.toArray.size=B.length:=ba ..;refine call_function_tree F.kind_min F.plain_min F.entry_min (F.args_min1 _) ?_;refine ab (wpAny_of_eq (show Builtin.Builtins.bindParams "min" ["key","default"] 0 ⟨[],[]⟩=pure [none,none] from rfl) (ab (ah (ab (rX p (ab (kH ?_)))))));rw[n];have X:∀b o,s.heap.get? b=some o->(s.heap.push { cls:=.type "list_iterator",data:=.fields #[.ref l,.int 0 0] }).get? b=some o:=λb o e=>aV _ e;have C:∀b o,s.heap.get? b=some o->((s.heap.push { cls:=.type "list_iterator",data:=.fields #[.ref l,.int 0 0] }).push { cls:=.type "list",data:=.seq ([]:LV).toArray }).get? b=some o:=λb o e=>aV _ (X b o e);have I:s.heap.get? s.heap.objs.size=none:=vQ (ag _);have r:(s.heap.push { cls:=.type "list_iterator",data:=.fields #[.ref l,.int 0 0] }).objs.size=s.heap.objs.size+1:=size_push' ..;have x:s.heap.get? (s.heap.objs.size+1)=none:=vQ (hW _);have a:l≠s.heap.objs.size:=bc (let ⟨_,e,_⟩:=p;aI e);refine ah ⟨kF iR _,kG rQ ?_⟩;rw[iT iR _];have W:=Walks.list (prog:=prog) (w:=w) (A:=A.in1) P s.heap.objs.size l a B.toArray;have u:((s.heap.push { cls:=.type "list_iterator",data:=.fields #[.ref l,.int 0 0] }).push { cls:=.type "list",data:=.seq ([]:LV).toArray }).IsListIter s.heap.objs.size l 0:=⟨_,aV _ (bP _ rfl),rfl,rfl⟩;have K:((s.heap.push { cls:=.type "list_iterator",data:=.fields #[.ref l,.int 0 0] }).push { cls:=.type "list",data:=.seq ([]:LV).toArray }).get? (s.heap.objs.size+1)=some { cls:=.type "list",data:=.seq ([]:LV).toArray }:=by rw[<- r];exact bP _ rfl
 rw[r];refine ab (m:=seqItems? (.ref (s.heap.objs.size+1))) (gM K rfl ?_);refine ab (m:=tryCatch (pyNext (.ref s.heap.objs.size)) _) (o4 (W.item 0 { s with heap:=(s.heap.push { cls:=.type "list_iterator",data:=.fields #[.ref l,.int 0 0] }).push { cls:=.type "list",data:=.seq ([]:LV).toArray } } _ _ (by lia) ⟨u,p.at λo e=>C _ o e⟩ λv h tk' L f k=>?_));have y:B[0]? = some v:=by simpa using L
 have Z:∀{b o},s.heap.get? b=some o->b ∉ [s.heap.objs.size]:=λe z=>by rw[g_.mp z,I]at e;cases e
 have nS:∀{b o},s.heap.get? b=some o->s.heap.objs.size+1≠b:=λe z=>by rw[<- z,x]at e;cases e
 have S:=k _ _ (λz=>absurd (g_.mp z) (sM _)) K;have d:∀b o,s.heap.get? b=some o->h.get? b=some o:=λb o e=>k b o (Z e) (C b o e);refine ab (m:=updateSeq _ _) (v7 S rfl ?_);rw[n];have D:∀b o,b≠s.heap.objs.size+1->h.get? b=some o->(h.update (s.heap.objs.size+1) (gw λ_=>#[v,v])).get? b=some o:=λb o N e=>(oV _ _ (aK N)).trans e;refine ah ⟨kF iR _,JJ (s:=s) (g:=s.heap) q P a (sM _) I x p c (λv h H y R=>M v h H y R) _ 0 _ _ v _ rfl (by lia) (λb o e=>D b o (nS e).symm (d b o e)) ?_ y (oU _ S rfl)⟩;exact f.1.at λo e=>D _ o (sM _).symm e
end
def uw(d:List P)(i j:Nat):Bool:=fy 20 (pd (d.getD i .non)) (pd (d.getD j .non)) == some true
def Es(d:List P):Bool:=d.all λx=>di 20 x && d.all λy=>(fy 20 (pd x) (pd y)).isSome
def p_(d:List P):Option P:=if Es d=true then d[argBest (uw d) (d.length-1)]? else none
def jN:List P->Option P
 | [.int i,.int j]=>some (.int (if j < i then j else i))
 | [.lst d]=>p_ d
 |_=>none
section
variable{X:Cx}
theorem Ex(L:X.c=true)(hu:X.A.units+64 < cLine):dL X (.builtin "min") (rC X.K jN):=by
 intro G s J H xs us Q I r h;obtain⟨F,n,d,ft,Z,q,k⟩:=h;unfold jN at q;split at q
 .cases q;obtain⟨x,y,rfl,S,p2⟩:=OZ Z;exact Bg L G s J H _ us Q I r ⟨_,_,by rw[show x=_ from S,show y=_ from p2],k _ F H .refl rfl⟩
 .rename_i n;obtain⟨x,rfl,S⟩:=uT Z;obtain⟨a,ys,rfl,la,W⟩:=S;obtain⟨u,rfl,ru⟩:=vals1 r;cases ru;unfold p_ at q;split at q
  .rename_i ha;obtain⟨f,rv,pl,hz⟩:=I.list (LstAt.sq (K:=X.K) la);have l1:=W.length;have l2:=rv.length;have m:∀{i:Nat}{v:Value},f[i]? = some v->∃p y,n[i]? = some p/\ys[i]? = some y/\RP X.K F H p y/\RelV y v:=λ{i v} e=>by
    have M:i < f.length:=(aP.mp e).1;obtain⟨p,c⟩:∃p,n[i]? = some p:=⟨n[i]'(by lia),by simp⟩;obtain⟨y,z,g⟩:=W.get c;obtain⟨v',E,l⟩:=rv.get z;rw[e]at E;cases E;exact⟨p,y,c,z,g,l⟩
   have all1:∀{x:P},x ∈ n->di 20 x=true/\∀y ∈ n,(fy 20 (pd x) (pd y)).isSome=true:=λ{x} hx=>by have:=be.mp ha x hx;rw[av,be]at this;exact this
   have ne:0 < f.length:=by
    cases n with
    |nil=>simp at q
    |cons _ _=>simp at l1;lia
   refine min_list (uw n) (I.o.hd L) pl.isList ne (λi j vi vj M hj t N=>?_) λv h' tk hv hk=>?_
   .obtain⟨p,y,c,z,g,l⟩:=m M;obtain⟨V,y',w,ey',C,B⟩:=m hj;obtain⟨R,o2⟩:=all1 (aM c);obtain⟨T,_⟩:=all1 (aM w);obtain⟨b,D⟩:=jY.mp (o2 V (aM w));have o:uw n i j=b:=by
     unfold uw;rw[bH,bH,c,w];simp only[om,D];cases b<;>rfl
    obtain⟨as,g1⟩:=gb I 20 g l R;obtain⟨bs,g2⟩:=gb I 20 C B T;obtain⟨c1,c2⟩:=fw 20 p R;rw[o];exact vc 20 (A:=X.A.in1) (by show X.A.units+1+20+30 < cLine;lia) D (Reads.keeps N g1) (Reads.keeps N g2) c1 (fw 20 V T).1 (by lia)
   .obtain⟨p,y,c,z,g,l⟩:=m hv;rw[show f.length=n.length by lia,q]at c;cases c;exact⟨y,H,I.kept hk,l,k y F H .refl g⟩
  .cases q
 .cases q
theorem Ig(u:X.A.units+64 < cLine)(g:Gl X "min")(m:X.g "min"=none)(a:PA X (e::h) (pj X.K f))(c:X.c=true)
  (x:starEach (e::h) X.e=(false,eval e X.e)::starEach h X.e) (l:(backTo o (starEach h X.e)).any (·.1)=false):O X (.Call (.Name "min" p) (e::h) [] o) (tV X.K (aN jN f)):=B6 (Ex c u) g m FE a (by decide) (by decide) x l
end
def Nn(X:Cx):Prop:=X.A.depth < recursionLimit/\X.e.qual++Str.ofString "<lambda>"=pM/\∃c P,X.e.code=.ref c/\lx X.K c P=true/\P ∈ bS X.K
def DG(k:List Keyword):Bool:=match k with
 | [⟨some a,.Lambda ⟨[],[⟨x,none,_⟩],none,[],[],none,[]⟩ (.Subscript (.Name r _) (.Name y _) _) sc p,_⟩]=>decide (a=Str.ofString "key") && decide (x=Str.ofString "hand") && decide (r=Str.ofString "renaming") && decide (y=Str.ofString "hand") && decide (sc=qu) && decide (p=wN)
 |_=>false
theorem DF(h:DG x=true):∃p a e s k,x=[⟨some (Str.ofString "key"),.Lambda (AR p) (wO a e s) qu wN,k⟩]:=by
 unfold DG at h;split at h
 .simp only[av,qE]at h;obtain⟨⟨⟨⟨⟨rfl,rfl⟩,rfl⟩,rfl⟩,rfl⟩,rfl⟩:=h;exact⟨_,_,_,_,_,rfl⟩
 .cases h
end Ev
namespace Ev
open PySem PySem.Spec PyProof.Rows L2
def cU(g:GF)(p:List P):Option P:=match g (p.map .p) [] with
 |some (d,S)=>(jk 9 d S).map (·.1)
 |none=>none
@[simp] noncomputable def AJ:Option (Fl×Lc×aL)->Option (D×aL)
 |some (.rt d,_,S)=>some (d,S)
 |some (.nx,_,S)=>some (.p .non,S)
 |_=>none
def jl(p n:Nat)(b:ES):GF:=λd S=>if d.length=p then AJ (b (d.map some++List.replicate (n-d.length) none) S) else none
theorem Rel.nil{K:FG}{F:Aa}{H:Y}(f:∀a,F a->H a≠none):Rel K F H [] []:=⟨rfl,by simp,by simp,by simp,by simp,f⟩
variable{K:FG}{H:Y}
theorem pk(h:Nv K (cU g) y H a s):oJ K g y H a s:=by
 obtain⟨F,f,d,t,r,q,k⟩:=h;unfold cU at q;cases e:g (f.map .p) [] with
 |none=>rw[e]at q;cases q
 |some z=>
  obtain⟨n,S⟩:=z;rw[e]at q;dsimp only at q;cases x:jk 9 n S with
  |none=>rw[x]at q;cases q
  |some o=>obtain⟨p,A⟩:=o;rw[x]at q;cases q;refine⟨F,[],f.map .p,[],n,S,.nil t,cQ.ofP r,e,λv P B c j w i=>?_⟩;obtain⟨b,l,u,_,m⟩:=my 9 x w i;exact k v b c ((j.trans l).toGrow u.ft) m
variable{k:Nat}
theorem FnOk.pure(G:FnOk a w K m base qh k f d p (oJ K g)):FnOk a w K m base qh k f d p (Nv K (cU g)):=
 FnOk.imp G λ_ _ _ _ h=>pk h
theorem cQ.toSt(r:cQ K F H m s f):RL K F H m (L2.start N f) (s.map some++List.replicate (N.length-s.length) none):=by
 have l:=r.length;refine⟨by unfold L2.start;simp[l],λi d e=>?_⟩;by_cases h:i < s.length
 .rw [bw (by simpa using h),aZ]at e;cases q:s[i]? with
  |none=>rw[q]at e;cases e
  |some v=>rw[q]at e;cases e;obtain⟨x,a,p⟩:=r.get q;refine⟨x,?_,p⟩;unfold L2.start;rw[bw (by simpa[<- l] using h),aZ,a];rfl
 .rw [bU (by simpa using h),sK]at e;split at e<;>cases e
theorem G2{P:Program}{w:World}{K:FG}{m:SV}{base:Heap}{x u:Str}{st:Stmt}{f:Addr}{n:FuncData}{N a:LS}{k:Nat}{e:Sp}(F:Fun K x u st f n)(S:FnScope N a (bp st))(len:∀v H Q E,e v H Q E->v.length=a.length)
  (b:∀(c:Value),fW K c u=true->∀(A:Around) (o:List Env) (s:Shared) (H:Y) (v:List V) (Q:VK) (E:XK),Room k (A.deeper (envOfC u (bp st) s.heap.objs.size f c))->e v H Q E ->
   ∃t,nQ (vq qh P w K m base N u (bp st) f c A o s H E).nox (eB st) t/\t { nx:=λ_ r=>Q .non r,rt:=Q } (start N v) H):FnOk P w K m base qh (k+1) f n a e:=by
 obtain⟨B,C,z,kV,g,D,j,c,y,l,rfl,lk,d⟩:=F.ex;refine M3 lk d S len λA o s H v Q E i p=>?_;obtain⟨t,h,q⟩:=b c d A o s H v Q E i p;exact⟨t,h.nox,q⟩
theorem Ki{P:Program}{w:World}{K:FG}{y:SV}{base:Heap}{x u:Str}{st:Stmt}{f:Addr}{i:FuncData}{N p:LS}{k:Nat}{b:ES}(F:Fun K x u st f i)(S:FnScope N p (bp st))
  (M:∀(c:Value),fW K c u=true->∀(A:Around) (o:List Env) (s:Shared) (H:Y) (E:XK),Room k (A.deeper (envOfC u (bp st) s.heap.objs.size f c)) ->
   nQ (vq qh P w K y base N u (bp st) f c A o s H E).nox (eB st) (k4 K b)):FnOk P w K y base qh (k+1) f i p (oJ K (jl p.length N.length b)):=by
 refine G2 F S (λV H Q E h=>?_) (λc n A o s H V Q E R h=>⟨_,M c n A o s H E R,?_⟩)
 .obtain⟨F,m,a,S,d,G,C,r,q,k⟩:=h;rw[<- r.length];unfold jl at q;split at q
  .assumption
  .cases q
 .obtain⟨F,m,a,S,d,G,C,r,q,k⟩:=h;unfold jl at q;split at q
  .cases e:b (a.map some++List.replicate (N.length-a.length) none) S with
   |none=>rw[e]at q;cases q
   |some z=>
    obtain⟨l,L,I⟩:=z;rw[e]at q;refine⟨F,m,_,S,l,L,I,C,r.toSt,e,λW t j g D B Z=>?_⟩;cases l with
    |nx=>cases q;exact k .non t j g D B rfl
    |bk=>cases q
    |ct=>cases q
    |rt X=>intro v T;cases q;exact k v t j g D B T
  .cases q
theorem D'{P:Program}{w:World}{K:FG}{g:SV}{base:Heap}{f:Addr}{x:FuncData}{p:LS}{k:Nat}:FnOk P w K g base qh k f x p (oJ K λ_ _=>none):=by
 have n:∀v H Q E,¬oJ K (λ_ _=>none) v H Q E:=λv H Q E h=>by obtain⟨F,m,b,S,d,e,_,_,q,_⟩:=h;cases q
 exact⟨λv H Q E h=>absurd h (n v H Q E),λA o s H a u v Q E _ _ _ _ h=>absurd h (n v H Q E)⟩
structure Tr where
 v:Option EV:=none
 e:Option EE:=none
 b:Option EB:=none
 w:Option EB:=none
def Tr.ofV(f:Option EV):Tr:=⟨f,f.map eV,f.map λg=>bT (eV g),f.map bV⟩
def Tr.ofC(f:Option EV):Tr:=⟨f,f.map eV,f.map bV,f.map bV⟩
def Tr.ofE(f:Option EE):Tr:=⟨f.map vE,f,f.map bT,f.map λg=>bV (vE g)⟩
def Tr.ofB(b w:Option EB):Tr:=⟨w.map vB,w.map λg=>eV (vB g),b,w⟩
structure Cn where
 N:LS
 own:LS
 deep:LS
 refs:LS
 ks:List (Str×NameKind)
 F:Str->Option GF
 G:Str->Option P
 A:Str->Str->Bool
 M:Str->Str->Option GF
 I:Str->Option GF
noncomputable def kN:LS->Str->Option Nat
 | [],_=>none
 |y::r,x=>if y=x then some 0 else (kN r x).map (·+1)
theorem pN:∀{N:LS}{x:Str}{i:Nat},kN N x=some i->N[i]? = some x
 | [],_,_,h=>by cases h
 |y::r,x,i,h=>by
  unfold kN at h;split at h
  .rename_i e;cases h;simp[e]
  .cases q:kN r x with
   |none=>rw[q]at h;cases h
   |some j=>rw[q]at h;cases h;simpa using pN q
theorem np:∀{N:LS}{x:Str}{i:Nat},N.Nodup->N[i]? = some x->kN N x=some i
 | [],_,_,_,h=>by simp at h
 |y::r,x,0,_,h=>by
  have:y=x:=by simpa using h
  unfold kN;rw[ai this]
 |y::r,x,i+1,d,h=>by
  have a:r[i]? = some x:=by simpa using h
  have n:¬y=x:=λe=>by subst e;exact(b8.mp d).1 (aM a)
  unfold kN;rw[al n,np (b8.mp d).2 a];rfl
noncomputable def cS(s:List (Str×NameKind))(x:Str)(l:List NameKind):Bool:=match s.lookup x with
 |some k=>l.contains k
 |none=>false
noncomputable def i'(x:Str):Bool:=!(x == ("__debug__":Str)) && !(x == ("__classdict__":Str))
noncomputable def EX:LS:=["Scene"]
def Qs:Operator->Option (P->P->Option P)
 | .Add=>some ky
 | .Sub=>some Km
 | .Mult=>some nz
 | .FloorDiv=>some w_
 | .Mod=>some Kr
 | .Pow=>some Ko
 |_=>none
def K8:CmpOp->Option (P->P->Option P)
 | .Lt=>some PJ
 | .LtE=>some Qq
 | .Gt=>some PL
 | .GtE=>some PM
 |_=>none
def Ks:CmpOp->Option (D->D->aL->Option P)
 | .Eq=>some A1
 | .NotEq=>some D8
 | .In=>some Kg
 | .NotIn=>some t5
 | .Is=>some PB
 | .IsNot=>some wY
 |_=>none
def qj:List (Option EV)->Option jx
 | []=>some aE
 |a::r=>a.bind λf=>(qj r).map λg=>ae f g
def uN:List (Option EE)->Option vK
 | []=>some dq
 |a::r=>a.bind λf=>(uN r).map λg=>bj f g
def uG(o:BoolOp):List (Option EB)->Option EB
 | []=>none
 | [a]=>a
 |a::r=>a.bind λf=>(uG o r).map λg=>match o with | .And=>p' f g | .Or=>HX f g
def LF(o:Option (Option EV)):Option EO:=match o with
 |none=>some pH
 |some a=>a.map ng
noncomputable def DR(t:Str):Option String:=if t=("list":Str) then some "list" else if t=("bool":Str) then some "bool" else if t=("tuple":Str) then some "tuple" else none
def Ez(f:Str):Option (List P->Option P):=
 if f=("int":Str) then some cn else if f=("list":Str) then some mU else if f=("tuple":Str) then some bC else if f=("abs":Str) then some Ai else if f=("min":Str) then some jN else none
noncomputable def Hc:LS:=["len","isinstance","int","bool","tuple","list","str","max","min","dict","range","abs","enumerate","sorted","all","any","sum","set","zip"]
noncomputable def qK(a s:List (Str×NameKind)):List (Str×NameKind):=a.map λ(n,k)=>if (k == .free && s.lookup n == some .cell) then (n,.cell) else (n,k)
def xg(j:Cn)(E:Scope)(o:LS)(Q:List Nat)(n:Nat):Bool:=
 decide (E.kind=.function) && E.names.all (λx=>x.2 != .cell) && E.names.all (λx=>x.2 != .local ||E.names.lookup x.1 == some .local)
  && E.names.all (λx=>x.2 != .free ||(E.names.lookup x.1 == some .free && (j.ks.lookup x.1 == some .cell ||j.ks.lookup x.1 == some .free)))
  && decide (j.N=o.take j.N.length) && decide (o.length=j.N.length+n)
  && E.names.all (λx=>x.2 != .local ||match kN j.N x.1 with|some i=>Q.contains i|none=>true)
def nL(j:Cn)(f g:Str):Bool:=decide (f=g) && cS j.ks f [.globalImplicit]
variable{B:Type}
noncomputable def lJ:List B->Option B
 | [a]=>some a
 |_=>none
noncomputable def pe{B:Type}:List B->Option (B×B)
 | [a,b]=>some (a,b)
 |_=>none
theorem eu{B:Type}{l:List B}{a:B}(h:lJ l=some a):l=[a]:=by
 unfold lJ at h;split at h
 .cases h;rfl
 .cases h
theorem i6{B:Type}{l:List B}{a b:B}(h:pe l=some (a,b)):l=[a,b]:=by
 unfold pe at h;split at h
 .cases h;rfl
 .cases h
theorem ak{B e:Type}{x:Option B}{f:B->Option e}{r:e}(h:x.bind f=some r):∃a,x=some a/\f a=some r:=by
 cases x with
 |none=>cases h
 |some a=>exact⟨a,rfl,h⟩
theorem au{B e:Type}{x:Option B}{f:B->e}{r:e}(h:x.map f=some r):∃a,x=some a/\r=f a:=by
 cases x with
 |none=>cases h
 |some a=>cases h;exact⟨a,rfl,rfl⟩
theorem HV{B:Type}{c:Prop}[Decidable c]{f:c->Option B}{x:B}(h:(if q:c then f q else none)=some x):c:=by
 by_cases q:c
 .exact q
 .rw [dif_neg q]at h;cases h
section
variable{e:Expr}
noncomputable def Dl(e:Expr):Option Str:=if h:e.ctorIdx=23 then Expr.Name.elim e h λx _=>some x else none
theorem mH{x:Str}(h:Dl e=some x):∃p,e=.Name x p:=by have c:=HV h;revert h;exact Expr.Name.elim e c λ_ p h=>by cases h;exact⟨p,rfl⟩
noncomputable def jC(e:Expr):Option (Ab):=if h:e.ctorIdx=25 then Expr.Tuple.elim e h λs _ _=>some s else none
theorem gO{s:Ab}(h:jC e=some s):∃c p,e=.Tuple s c p:=by have c:=HV h;revert h;exact Expr.Tuple.elim e c λ_ c p h=>by cases h;exact⟨c,p,rfl⟩
noncomputable def zS(e:Expr):Option (Ab):=if h:e.ctorIdx=24 then Expr.List.elim e h λs _=>some s else none
theorem pO{s:Ab}(h:zS e=some s):∃p,e=.List s p:=by have c:=HV h;revert h;exact Expr.List.elim e c λ_ p h=>by cases h;exact⟨p,rfl⟩
noncomputable def Ng(e:Expr):Option (Expr×Str×Pos):=if h:e.ctorIdx=20 then Expr.Attribute.elim e h λo m p=>some (o,m,p) else none
theorem EI{o:Expr}{m:Str}{p:Pos}(h:Ng e=some (o,m,p)):e=.Attribute o m p:=by have c:=HV h;revert h;exact Expr.Attribute.elim e c λ_ _ _ h=>by cases h;rfl
noncomputable def Ny(e:Expr):Option (Expr×Expr):=if h:e.ctorIdx=21 then Expr.Subscript.elim e h λo i _=>some (o,i) else none
theorem IR{o i:Expr}(h:Ny e=some (o,i)):∃p,e=.Subscript o i p:=by have c:=HV h;revert h;exact Expr.Subscript.elim e c λ_ _ p h=>by cases h;exact⟨p,rfl⟩
noncomputable def P'(e:Expr):Option (Option Expr×Option Expr×Option Expr):=if h:e.ctorIdx=26 then Expr.Slice.elim e h λi j k _=>some (i,j,k) else none
theorem IN{i j k:Option Expr}(h:P' e=some (i,j,k)):∃p,e=.Slice i j k p:=by have c:=HV h;revert h;exact Expr.Slice.elim e c λ_ _ _ p h=>by cases h;exact⟨p,rfl⟩
noncomputable def PQ(e:Expr):Option (Expr×Ab×Pos):=if h:e.ctorIdx=16 then Expr.Call.elim e h λf a k p=>if k.isEmpty=true then some (f,a,p) else none else none
theorem Kv{f:Expr}{a:Ab}{p:Pos}(h:PQ e=some (f,a,p)):e=.Call f a [] p:=by
 have c:=HV h;revert h;exact Expr.Call.elim e c λ_ _ k _ h=>by
  cases k with
  |nil=>cases h;rfl
  |cons _ _=>cases h
end
def nD(e:Expr):Option (Str×Ab):=(PQ e).bind λz=>(Dl z.1).map λr=>(r,z.2.1)
theorem gU{e:Expr}{r:Str}{a:Ab}(h:nD e=some (r,a)):∃p c,e=.Call (.Name r p) a [] c:=by obtain⟨⟨f,s,c⟩,x,n⟩:=ak h;obtain⟨m,k,b⟩:=au n;obtain⟨p,rfl⟩:=mH k;cases b;exact⟨p,c,Kv x⟩
def Qv(e:Expr):Option ((Expr×Str×Pos)×Ab×Pos):=(PQ e).bind λz=>(Ng z.1).map λr=>(r,z.2)
def HI(j:Cn)(f:Str)(a:Expr):Option Expr:=(nD a).bind λz=>(lJ z.2).bind λb=>if (decide (f=("list":Str)) && nL j z.1 "range")=true then some b else none
def BY(j:Cn)(f:Str)(a:Expr):Option (Expr×Expr):=(nD a).bind λz=>(pe z.2).bind λb=>if (decide (f=("dict":Str)) && nL j z.1 "zip")=true then some b else none
def FW(j:Cn)(T:Expr->Tr)(t e:Expr):Option jx:=(nD e).elim ((T e).v.map gv) λz=>if nL j z.1 "range"=true then (lJ z.2).bind λa=>(T a).v.map gZ
  else if nL j z.1 "enumerate"=true then (lJ z.2).bind λa=>if (jC t).isSome=true then (T a).v.map iw else none
  else if nL j z.1 "zip"=true then (pe z.2).bind λa=>if (jC t).isSome=true then (T a.1).v.bind λx=>(T a.2).v.map λy=>MO x y else none
  else (T e).v.map gv
def IB(N:LS)(s:List (Str×NameKind))(k:List NameKind)(e:Expr):Option jS:=(Dl e).bind λx=>if cS s x k=true then (kN N x).map ar else none
def Cc(N:LS)(s:List (Str×NameKind))(k:List NameKind):Ab->Option (List jS)
 | []=>some []
 |e::r=>(IB N s k e).bind λg=>(Cc N s k r).map λh=>g::h
def FV(N:LS)(s:List (Str×NameKind))(k:List NameKind)(e:Expr):Option jS:=(jC e).elim (IB N s k e) λh=>(Cc N s k h).map bZ
def gc(e:Expr):LS:=((jC e).getD [e]).filterMap Dl
noncomputable def mV(N:LS):LS->LS
 | []=>[]
 |t::r=>if (N.contains t ||(mV N r).contains t)=true then mV N r else t::mV N r
def NW(N:LS)(Q:LS):List Nat:=Q.filterMap λt=>kN N t
def Ml(j:Cn)(e:Expr):Bool:=(Dl e).any (j.own.contains ·) ||(Ny e).any λz=>(Dl z.1).any (j.deep.contains ·)
def i7(j:Cn)(T:Cn->Expr->Tr)(l t iter:Expr)(i:Ab)(E:Scope):Option EV:=
 if (xg j E (j.N++mV j.N (gc t)) (NW j.N (gc t)) (mV j.N (gc t)).length && decide (j.N++mV j.N (gc t)).Nodup)=true then
  (FV (j.N++mV j.N (gc t)) (qK E.names j.ks) [.local] t).bind λg=>
   (match i with | []=>some cE | [c]=>(T ⟨j.N++mV j.N (gc t),j.own.filter (λx=>!(gc t).contains x),[],j.refs,qK E.names j.ks,j.F,j.G,j.A,j.M,j.I⟩ c).b|_=>none).bind λc=>
   (T ⟨j.N++mV j.N (gc t),j.own.filter (λx=>!(gc t).contains x),[],j.refs,qK E.names j.ks,j.F,j.G,j.A,j.M,j.I⟩ l).v.bind λe=>
   if Ml j iter=true then (T j iter).e.map λf=>B8 f (NW j.N (gc t)) (mV j.N (gc t)).length g c e
   else (FW j (T j) t iter).map λh=>bo h (NW j.N (gc t)) (mV j.N (gc t)).length g c e
 else none
def qU(j:Cn):Nat->Expr->Bool
 |0,_=>false
 |n+1,e=>(Dl e).any (j.own.contains ·) ||(Ny e).any (λz=>qU j n z.1) ||(Ng e).any (λz=>qU j n z.1) ||(Qv e).any λz=>decide (z.1.2.1=("setdefault":Str)) && qU j n z.1.1
def Hv(a:Ab):Option Expr:=(pe a).bind λz=>(zS z.2).bind λe=>if e.isEmpty=true then some z.1 else none
def wR(e:Expr):Bool:=[20,21,23].contains e.ctorIdx ||(Qv e).isSome ||(nD e).any λz=>!z.2.isEmpty
noncomputable def gj(e:Expr):Bool:=e.ctorIdx == 8
def KZ(j:Cn)(o:Option EE)(os:Expr)(m:Str)(s:List (Option EE))(p c:Pos):Tr:=
 if (wR os && (p.endLine == c.line) && decide (s.length < 29))=true then .ofE (o.bind λx=>(uN s).map λa=>fC j.M x m a) else {}
def JI(j:Cn)(o:Expr)(m:Str)(n:Str)(a c:Pos):Bool:=decide (m=n) && qU j 4 o && wR o && (a.endLine == c.line)
def QZ(a:Ab):Option (Expr×Str):=(pe a).bind λz=>(Dl z.2).map λt=>(z.1,t)
def K9(s:List Comprehension):Option (Expr×Expr×Ab):=(lJ s).bind λg=>if g.is_async=0 then some (g.target,g.iter,g.ifs) else none
def P8(j:Cn)(T:Expr->Tr)(f:Str)(s:Ab):Tr:=if (cS j.ks f [.globalImplicit] && i' f && !s.isEmpty)=true then
  (j.I f).elim ((j.F f).elim
   ((lJ s).elim
    ((QZ s).elim {} λz=>if (decide (f=("isinstance":Str)) && cS j.ks z.2 [.globalImplicit])=true then (DR z.2).elim {} (λt=>.ofV ((T z.1).e.map λx=>zf t x)) else {})
    λa=>if f=("len":Str) then .ofV ((T a).e.map dS) else if f=("sorted":Str) then .ofV ((T a).e.map ze) else
     (HI j f a).elim ((BY j f a).elim (.ofV ((Ez f).bind λg=>(qj [(T a).v]).map λx=>aN g x)) λz=>.ofE ((T z.1).v.bind λx=>(T z.2).v.map λy=>Ee x y)) λb=>.ofV ((T b).v.map P6))
   λg=>if j.refs.contains f=true then .ofV ((uN (s.map λx=>(T x).e)).map λa=>we g a) else .ofV ((qj (s.map λx=>(T x).v)).map λa=>aN (cU g) a))
  λg=>.ofE ((uN (s.map λx=>(T x).e)).map λa=>il (if EX.contains f=true then gD g else g) f a)
 else {}
def P9(j:Cn)(T:Expr->Tr)(o:Expr)(m:Str)(p:Pos)(s:Ab)(c:Pos):Tr:=(lJ s).elim
  (if (JI j o m "clear" p c && s.isEmpty)=true then .ofE ((T o).e.map Eh) else if (decide (m=("get":Str)) && wR o && (p.endLine == c.line))=true then (pe s).elim {} (fun z=>.ofV ((T o).v.bind fun x=>(T z.1).v.bind fun y=>(T z.2).v.map fun z=>Hs x y z)) else
   (Hv s).elim (KZ j (T o).e o m (s.map λx=>(T x).e) p c) λa=>if JI j o m "setdefault" p c=true then .ofE ((T o).e.bind λx=>(T a).v.map λy=>z0 x y (ee aE)) else KZ j (T o).e o m (s.map λx=>(T x).e) p c)
  λa=>if JI j o m "append" p c=true then .ofE ((T o).e.bind λx=>(T a).e.map λy=>bW x y) else
   if JI j o m "extend" p c=true then .ofE ((T o).e.bind λx=>(T a).v.map λy=>lU x y) else
   if (decide (m=("index":Str)) && wR o && (p.endLine == c.line))=true then .ofV ((T o).v.bind λx=>(T a).v.map λy=>Ix x y) else
   (jC a).elim (KZ j (T o).e o m (s.map λx=>(T x).e) p c) λe=>if JI j o m "get" p c=true then .ofE ((T o).e.bind λx=>(qj (e.map λz=>(T z).v)).map λy=>HR x y) else KZ j (T o).e o m (s.map λx=>(T x).e) p c
def Cm(j:Cn)(f:Str)(a:Ab)(k:List Keyword):Option Expr:=if (nL j f "sorted" && j.deep.contains (Str.ofString "<lambda>") && cS j.ks (Str.ofString "renaming") [.cell] && DG k)=true then
 (lJ a).bind λe=>(nD e).bind λz=>if nL j z.1 "range"=true then lJ z.2 else none else none
def QM(j:Cn)(T:Expr->Tr)(t:Cn->Expr->Tr)(e:Expr):Tr:=match e with
  | .Constant c _ _=>match c with
   | .int i=>.ofV (some (vC (.int i)))
   | .bool i=>.ofV (some (vC (.bl i)))
   | .none=>.ofV (some (vC .non))
   | .str i=>.ofV (some (vC (.str i)))
   |_=>{}
  | .Name x _=>if (cS j.ks x [.local,.cell,.free] && i' x)=true then .ofE ((kN j.N x).map U) else
    if (cS j.ks x [.globalImplicit] && i' x)=true then .ofV ((j.G x).bind λv=>if DV v=true then none else some (vC v)) else {}
  | .BinOp a p b _=>.ofV ((Qs p).bind λg=>(T a).v.bind λx=>(T b).v.map λy=>ce g x y)
  | .UnaryOp p a _=>match p with
   | .USub=>.ofV ((T a).v.map (KU w9))
   | .Not=>.ofB ((T a).b.map EH) ((T a).w.map EH)
   |_=>{}
  | .BoolOp p s _=>.ofB (uG p (s.map λx=>(T x).b)) (uG p (s.map λx=>(T x).w))
  | .Compare a h r _=>(lJ h).elim (.ofC ((pe h).bind λo=>(pe r).bind λz=>(K8 o.1).bind λg=>(K8 o.2).bind λw=>(T a).v.bind λx=>(T z.1).v.bind λy=>(T z.2).v.map λz=>pc g w x y z))
    λp=>(lJ r).elim {} λb=>(K8 p).elim (.ofC ((Ks p).bind λg=>(T a).e.bind λx=>(T b).e.map λy=>gY g x y)) λg=>.ofC ((T a).v.bind λx=>(T b).v.map λy=>ce g x y)
  | .IfExp c a b _=>{ Tr.ofV ((T c).b.bind λq=>(T a).v.bind λx=>(T b).v.map λy=>Oy q x y) with b:=none }
  | .Tuple s _ _=>.ofV ((qj (s.map λx=>(T x).v)).map bf)
  | .List s _=>.ofV ((qj (s.map λx=>(T x).v)).map bQ)
  | .Dict k H _=>if (k.isEmpty && H.isEmpty)=true then { e:=some Ef,v:=some (vE Ef) } else {}
  | .Subscript a i _=>(P' i).elim (if qU j 4 a=true then (jC i).elim (.ofE ((T a).e.bind λx=>(T i).v.map λy=>z3 x y)) λs=>.ofE ((T a).e.bind λx=>(qj (s.map λz=>(T z).v)).map λy=>Ed x y) else .ofV ((T a).v.bind λx=>(T i).v.map λy=>ce cF x y))
    λz=>if z.2.2.isSome=true then {} else if qU j 4 a=true then .ofV ((T a).e.bind λx=>(LF (z.1.map λy=>(T y).v)).bind λy=>(LF (z.2.1.map λz=>(T z).v)).map λz=>LA x y z) else .ofV ((T a).v.bind λx=>(LF (z.1.map λy=>(T y).v)).bind λy=>(LF (z.2.1.map λz=>(T z).v)).map λz=>Av x y z)
  | .Call m n k d=>if k.isEmpty=true then (Dl m).elim ((Ng m).elim {} λz=>P9 j T z.1 z.2.1 z.2.2 n d) (λf=>P8 j T f n) else (Dl m).elim {} λf=>(Cm j f n k).elim {} λa=>.ofV ((kN j.N (Str.ofString "renaming")).bind λi=>(T a).v.map λx=>uI i x)
  | .Attribute o f _=>if wR o=true then .ofE ((T o).e.map λx=>dW j.A x f) else {}
  | .ListComp l u E _=>(K9 u).elim {} λz=>.ofV (i7 j t l z.1 z.2.1 z.2.2 E)
  |_=>{}
def tr(j:Cn):Nat->Expr->Tr
 |0,_=>{}
 |n+1,e=>QM j (λx=>tr j n x) (λh x=>tr h n x) e
def FX(j:Cn)(n _k:Nat)(e:Expr):Option EE:=(nD e).elim (tr j n e).e λz=>if (cS j.ks z.1 [.globalImplicit] && i' z.1 && !z.2.isEmpty && j.deep.contains z.1)=true then
   (j.F z.1).elim (tr j n e).e λg=>(uN (z.2.map λx=>(tr j n x).e)).map λa=>w4 g a
  else (tr j n e).e
def Nu(j:Cn)(n k:Nat)(e:Expr):Option EE:=(zS e).elim (FX j n k e) λs=>(uN (s.map λx=>FX j n k x)).map HQ
structure XOk(Γ:Cn)(X:Cx):Prop where
 hN:X.N=Γ.N
 nd:X.N.Nodup
 ks:X.e.scope.names=Γ.ks
 kd:X.e.scope.kind=.function
 calm:X.c=true
 hu:X.A.units+64 < cLine
 fns:∀x g,Γ.F x=some g->∃k f fd ps,FnOk X.p X.w X.K X.g X.b qh k f fd ps (oJ X.K g)/\Room k X.A/\X.g x=some (.ref f)/\em X.K (.ref f)=true/\Binds X.K fd ps []
 blt:∀x ∈ Hc,X.g x=none
 glb:∀x v,Γ.G x=some v->ml X.w X.K X.g x v
 attrs:N3 X.K Γ.A
 meths:N0 X Γ.M
 mks:∀c g,Γ.I c=some g->∃C k f fd ps,gX X.K c C/\X.g c=some (.ref C)/\Mk X.K C f/\FnOk X.p X.w X.K X.g X.b qh k f fd ps (oJ X.K g)/\Room (k+1) X.A/\Binds X.K fd ps (if EX.contains c=true then [.none] else [])
 lam:Γ.deep.contains (Str.ofString "<lambda>")=true->Nn X
structure Good(X:Cx)(ex:Expr)(t:Tr):Prop where
 v:∀f,t.v=some f->O X ex (tV X.K f)
 e:∀f,t.e=some f->O X ex (tE X.K f)
 b:∀f,t.b=some f->PT X ex (tQ X.K f)
 w:∀f,t.w=some f->O X ex (tV X.K (vB f))
section
variable{X:Cx}{e:Expr}
theorem Good.no:Good X e {}:=⟨λ_ h=>(by cases h),λ_ h=>(by cases h),λ_ h=>(by cases h),λ_ h=>(by cases h)⟩
theorem Good.el{B:Type}{o:Option B}{b:Tr}{f:B->Tr}(h:∀a,o=some a->Good X e (f a))(x:o=none->Good X e b):Good X e (o.elim b f):=by
 cases o with
 |none=>exact x rfl
 |some a=>exact h a rfl
theorem Good.ite{c:Prop}[Decidable c]{a b:Tr}(h:c->Good X e a)(x:Good X e b):Good X e (if c then a else b):=by
 by_cases q:c
 .rw [ai q];exact h q
 .rw [al q];exact x
def EN(e:Expr):Prop:=∀env w,isTrue e env w=(do let v <- w;standAt e.pos;holding [v] (truthy v))
theorem Good.ofV{t:Option EV}(h:∀f,t=some f->O X e (tV X.K f))(p:EN e):Good X e (.ofV t) where
 v:=h
 e:=λf q=>by
  cases t with
  |none=>cases q
  |some g=>cases q;exact KS (h _ rfl)
 b:=λf q=>by
  cases t with
  |none=>cases q
  |some g=>cases q;exact yT (KS (h _ rfl)) (p _)
 w:=λf q=>by
  cases t with
  |none=>cases q
  |some g=>cases q;exact y_ (h _ rfl)
theorem Good.ofC{t:Option EV}(h:∀f,t=some f->O X e (tV X.K f))(x:∀f,t=some f->PT X e (tQ X.K (bV f))):Good X e (.ofC t) where
 v:=h
 e:=λf q=>by
  cases t with
  |none=>cases q
  |some g=>cases q;exact KS (h _ rfl)
 b:=λf q=>by
  cases t with
  |none=>cases q
  |some g=>cases q;exact x _ rfl
 w:=λf q=>by
  cases t with
  |none=>cases q
  |some g=>cases q;exact y_ (h _ rfl)
theorem Good.ofE{t:Option EE}(h:∀f,t=some f->O X e (tE X.K f))(p:EN e):Good X e (.ofE t) where
 v:=λf q=>by
  cases t with
  |none=>cases q
  |some g=>cases q;exact Oe (h _ rfl)
 e:=h
 b:=λf q=>by
  cases t with
  |none=>cases q
  |some g=>cases q;exact yT (h _ rfl) (p _)
 w:=λf q=>by
  cases t with
  |none=>cases q
  |some g=>cases q;exact y_ (Oe (h _ rfl))
theorem Good.ofB{b w:Option EB}(h:∀f,b=some f->PT X e (tQ X.K f))(hw:∀f,w=some f->O X e (tV X.K (vB f))):Good X e (.ofB b w) where
 v:=λf q=>by
  cases w with
  |none=>cases q
  |some g=>cases q;exact hw _ rfl
 e:=λf q=>by
  cases w with
  |none=>cases q
  |some g=>cases q;exact KS (hw _ rfl)
 b:=h
 w:=hw
end
theorem jm{B x:Type}{o:Option B}{b r:x}{f:B->x}(h:o.elim b f=r):(∃a,o=some a/\f a=r)\/(o=none/\b=r):=by
 cases o with
 |none=>exact .inr ⟨rfl,h⟩
 |some a=>exact .inl ⟨a,rfl,h⟩
def fF(e:Expr):Prop:=∀s env,starEach (e::s) env=(false,eval e env)::starEach s env
structure RdE(e:Expr):Prop where
 st:fF e
 ix:mi e
 mr:∀op,behindInMarks op e=false
 ms:∀op op' b,lastMarks [op,op'] [b,e]=false
 ps:qd e
 sw:gj e=false->∀t l env,swapsWith e t l env=pure false
 fs:∀env x,foldedSetIterable e env x=pure x
theorem rd_of{j:Cn}{n:Nat}{e:Expr}(h:(tr j n e).v.isSome=true\/(tr j n e).e.isSome=true):RdE e:=by
 cases n with
 |zero=>rcases h with h|h<;>cases h
 |succ n=>cases e<;>first|(rcases h with h|h<;>cases h;done)|exact⟨λ_ _=>rfl,λ_ _=>rfl,λ_=>rfl,λ_ _ _=>rfl,λ_ _ _ _=>rfl,λc _ _ _=>(by first|rfl|cases c),λ_ _=>rfl⟩
theorem gh{j:Cn}{n:Nat}{e:Expr}{f:EV}(h:(tr j n e).v=some f):RdE e:=rd_of (.inl (by rw[h];rfl))
theorem nG{j:Cn}{n:Nat}{e:Expr}{f:EE}(h:(tr j n e).e=some f):RdE e:=rd_of (.inr (by rw[h];rfl))
variable{env:Env}{u:Pos}
theorem ji(h:∀e ∈ s,fF e):(backTo u (starEach s env)).any (·.1)=false:=by
 induction s with
 |nil=>rfl
 |cons e s i=>
  rw[h e aO s env];have:=i λx a=>h x (aR _ a)
  unfold backTo at this ⊢;rw[aF,fN,this];rfl
section
variable{j:Cn}{X:Cx}(h:XOk j X)
include h
theorem XOk.gl(q:cS j.ks x [.globalImplicit]=true):Gl X x:=by
 unfold Gl Env.kindOf;rw[h.ks];unfold cS at q;cases e:j.ks.lookup x with
 |none=>rw[e]at q;cases q
 |some k=>rw[e]at q;cases k<;>first|rfl|cases q
theorem XOk.vis(q:cS j.ks x [.local,.cell,.free]=true):K' X.e.scope x:=by
 unfold K';rw[h.ks];unfold cS at q;cases e:j.ks.lookup x with
 |none=>rw[e]at q;cases q
 |some k=>rw[e]at q;cases k<;>first|exact .inl rfl|exact .inr (.inl rfl)|exact .inr (.inr rfl)|cases q
theorem XOk.loc(q:cS j.ks x [.local,.cell]=true):L2.Loc X.e.scope x:=by
 unfold L2.Loc;rw[h.ks];unfold cS at q;cases e:j.ks.lookup x with
 |none=>rw[e]at q;cases q
 |some k=>rw[e]at q;cases k<;>first|exact .inl rfl|exact .inr rfl|cases q
theorem XOk.local(q:cS j.ks x [.local]=true):X.e.scope.names.lookup x=some .local:=by
 rw[h.ks];unfold cS at q;cases e:j.ks.lookup x with
 |none=>rw[e]at q;cases q
 |some k=>rw[e]at q;cases k<;>first|rfl|cases q
theorem XOk.cellk(q:cS j.ks x [.cell]=true):X.e.kindOf x=some .cell:=by
 show X.e.scope.names.lookup x=some .cell;rw[h.ks];unfold cS at q;cases e:j.ks.lookup x with
 |none=>rw[e]at q;cases q
 |some k=>rw[e]at q;cases k<;>first|rfl|cases q
omit h in
theorem eQ{x:Str}(q:i' x=true):(x == ("__debug__":Str))=false/\(x == ("__classdict__":Str))=false:=by unfold i' at q;rw[av]at q;exact⟨by simpa using q.1,by simpa using q.2⟩
theorem XOk.get(q:kN j.N x=some i):X.N[i]? = some x:=by rw[h.hN];exact pN q
omit h in
theorem gF{j:Cn}{n:Nat}:∀{s:Ab}{k:jx},(∀e ∈ s,Good X e (tr j n e))->qj (s.map λx=>(tr j n x).v)=some k->PA X s (pj X.K k)/\∀e ∈ s,fF e
 | [],k,_,q=>by cases q;exact⟨Hl,λ_ z=>by cases z⟩
 |e::s,k,g,q=>by
  obtain⟨f,b,p⟩:=ak q;obtain⟨r,v,rfl⟩:=au p;obtain⟨m,t⟩:=gF (λx a=>g x (aR _ a)) v;have b:(tr j n e).v=some f:=b;have c:fF e:=(gh b).st;refine⟨EM ((g e aO).v f b) m (c _ _),λx a=>?_⟩;rcases aW.mp a with a|a
  .subst a;exact c
  .exact t x a
omit h in
theorem lC{j:Cn}{n:Nat}:∀{s:Ab}{k:vK},(∀e ∈ s,Good X e (tr j n e))->uN (s.map λx=>(tr j n x).e)=some k->PA X s (vN X.K k)/\∀e ∈ s,fF e
 | [],k,_,q=>by cases q;exact⟨HW,λ_ z=>by cases z⟩
 |e::s,k,g,q=>by
  obtain⟨f,b,p⟩:=ak q;obtain⟨r,v,rfl⟩:=au p;obtain⟨m,t⟩:=lC (λx a=>g x (aR _ a)) v;have b:(tr j n e).e=some f:=b;have c:fF e:=(nG b).st;refine⟨Em ((g e aO).e f b) m (c _ _),λx a=>?_⟩;rcases aW.mp a with a|a
  .subst a;exact c
  .exact t x a
omit h in
theorem uE{o:BoolOp}{u:Pos}{j:Cn}{n:Nat}:∀{s:Ab}{f:EB},(∀e ∈ s,Good X e (tr j n e))->uG o (s.map λx=>(tr j n x).b)=some f->PW X (.BoolOp o s u) (tQ X.K f)
 | [],f,_,q=>by cases q
 | [a],f,g,q=>by
  cases o with
  |And=>exact Lm ((g a aO).b f q)
  |Or=>exact N9 ((g a aO).b f q)
 |a::b::s,f,g,q=>by
  obtain⟨x,k,m⟩:=ak q;obtain⟨r,t,rfl⟩:=au m;have i:=uE (s:=b::s) (u:=u) (λx c=>g x (aR _ c)) t;cases o with
  |And=>exact Ob ((g a aO).b x k) i
  |Or=>exact QD ((g a aO).b x k) i
omit h in
theorem uF{o:BoolOp}{u:Pos}{j:Cn}{n:Nat}:∀{s:Ab}{f:EB},(∀e ∈ s,Good X e (tr j n e))->uG o (s.map λx=>(tr j n x).w)=some f->O X (.BoolOp o s u) (tV X.K (vB f))
 | [],f,_,q=>by cases q
 | [a],f,g,q=>Ly ((g a aO).w f q)
 |a::b::s,f,g,q=>by
  obtain⟨x,k,m⟩:=ak q;obtain⟨r,t,rfl⟩:=au m;have i:=uF (s:=b::s) (u:=u) (λx c=>g x (aR _ c)) t;cases o with
  |And=>exact Ox ((g a aO).w x k) i
  |Or=>exact QE ((g a aO).w x k) i
omit h in
theorem ti{j:Cn}{n:Nat}{o:Option Expr}{f:EO}(g:∀e,Good X e (tr j n e))(q:LF (o.map λy=>(tr j n y).v)=some f):PO X o (tO X.K f):=by
 cases o with
 |none=>cases q;exact JG
 |some e=>obtain⟨x,a,rfl⟩:=au (show((tr j n e).v).map ng=some f from q);exact JF ((g e).v x a)
theorem Kw{o:Operator}{g:P->P->Option P}(q:Qs o=some g):nR X (binaryOp o) g:=by cases o<;>first|(cases q;exact Jz)|(cases q;exact Mq)|(cases q;exact Jy)|(cases q;exact GG)|(cases q;exact Mv)|(cases q;exact Mr)|cases q
omit h in
theorem mP{o:CmpOp}{g:P->P->Option P}(q:K8 o=some g):nR X (compareOp o) g:=by cases o<;>first|(cases q;exact Pb)|(cases q;exact Pc)|(cases q;exact Pd)|(cases q;exact Pe)|cases q
theorem Af{o:CmpOp}{g:D->D->aL->Option P}(q:Ks o=some g):iB X (compareOp o) (rE X.K g):=by cases o<;>first|(cases q;exact MB h.hu)|(cases q;exact Ms h.hu)|(cases q;exact Mz h.hu)|(cases q;exact Dg h.hu)|(cases q;exact Mw)|(cases q;exact Dh)|cases q
theorem G_{f:Str}{g:GF}{a:Expr}{s:Ab}{x:jx}{b u:Pos}(t:j.F f=some g)(q:cS j.ks f [.globalImplicit]=true)(d:i' f=true)(c:PA X (a::s) (pj X.K x))(n:∀e ∈ a::s,fF e) :
  O X (.Call (.Name f b) (a::s) [] u) (tV X.K (aN (cU g) x)):=by
 obtain⟨k,i,l,y,G,w,v,p,m⟩:=h.fns f g t;exact Lx (FnOk.pure G) w (h.gl q) v p m c (eQ d).1 (n a aO _ _) (ji λe r=>n e (aR _ r))
theorem vG{f:Str}{g:GF}{a:Expr}{s:Ab}{x:vK}{c u:Pos}(w:j.F f=some g)(t:cS j.ks f [.globalImplicit]=true)(v:i' f=true)(m:PA X (a::s) (vN X.K x))(n:∀e ∈ a::s,fF e) :
  O X (.Call (.Name f c) (a::s) [] u) (tV X.K (we g x))/\O X (.Call (.Name f c) (a::s) [] u) (tE X.K (w4 g x)):=by
 obtain⟨k,i,l,y,G,d,q,p,r⟩:=h.fns f g w;exact⟨FM G d (h.gl t) q p r m (eQ v).1 (n a aO _ _) (ji fun e b=>n e (aR _ b)),
  Iv G d (h.gl t) q p r m (eQ v).1 (n a aO _ _) (ji λe b=>n e (aR _ b))⟩
theorem Ky{f:Str}{g:List P->Option P}{a:Expr}{b:Ab}{c:jx}{r u:Pos}(x:Ez f=some g)(k:cS j.ks f [.globalImplicit]=true)(n:PA X (a::b) (pj X.K c))(m:∀e ∈ a::b,fF e) :
  O X (.Call (.Name f r) (a::b) [] u) (tV X.K (aN g c)):=by
 have s:=m a aO b X.e;have p:=ji (env:=X.e) (u:=u) λe s=>m e (aR _ s);unfold Ez at x;split at x
 .rename_i e;subst e;cases x;exact Ii (h.gl k) (h.blt _ (by decide)) n s p
 split at x
 .rename_i e;subst e;cases x;exact Ih (h.gl k) (h.blt _ (by decide)) n s p
 split at x
 .rename_i e;subst e;cases x;exact FJ (h.gl k) (h.blt _ (by decide)) n s p
 split at x
 .rename_i e;subst e;cases x;exact Lo (h.gl k) (h.blt _ (by decide)) n s p
 split at x
 .rename_i e;subst e;cases x;exact Ig h.hu (h.gl k) (h.blt _ (by decide)) n h.calm s p
 .cases x
theorem J8{t:Str}{T:String}{a:Expr}{b:EE}{c p u:Pos}(x:DR t=some T)(n:cS j.ks ("isinstance":Str) [.globalImplicit]=true)(k:cS j.ks t [.globalImplicit]=true)(s:O X a (tE X.K b))(r:fF a) :
  O X (.Call (.Name "isinstance" c) [a,.Name t p] [] u) (tV X.K (zf T b)):=by
 have f:starEach [a,.Name t p] X.e=[(false,eval a X.e),(false,eval (.Name t p) X.e)]:=by rw[r];rfl
 have m:=h.blt ("isinstance":Str) (by decide);unfold DR at x;split at x
 .rename_i e;subst e;cases x;exact B1 (.inl rfl) (h.gl n) m (h.gl k) (h.blt _ (by decide)) og s (by decide) (by decide) f
 split at x
 .rename_i e;subst e;cases x;exact B1 (.inr (.inl rfl)) (h.gl n) m (h.gl k) (h.blt _ (by decide)) Fz s (by decide) (by decide) f
 split at x
 .rename_i e;subst e;cases x;exact B1 (.inr (.inr rfl)) (h.gl n) m (h.gl k) (h.blt _ (by decide)) x8 s (by decide) (by decide) f
 .cases x
omit h in
theorem ie{f g:Str}(q:nL j f g=true):f=g/\cS j.ks f [.globalImplicit]=true:=by unfold nL at q;rw[av]at q;exact⟨bu q.1,q.2⟩
theorem HK{n:Nat}{v e:Expr}{f:jx}(g:∀x,Good X x (tr j n x))(q:FW j (λx=>tr j n x) v e=some f):PI X v e (tI X.K f):=by
 have plain:((tr j n e).v.map gv=some f)->PI X v e (tI X.K f):=λq=>by obtain⟨x,s,rfl⟩:=au q;exact iS ((g e).v x s)
 have H:=jm q;clear q;rcases H with ⟨⟨S,d⟩,z,q⟩|⟨_,q⟩
 .obtain⟨F,u,rfl⟩:=gU z;dsimp only at q;split at q
  .rename_i r;obtain⟨rfl,r⟩:=ie r;obtain⟨a,m,k⟩:=ak q;clear q;cases eu m;obtain⟨x,s,rfl⟩:=au k;exact Q3 (h.gl r) (h.blt ("range":Str) (by decide)) ((g a).v x s) ((gh s).st _ _)
  .split at q
   .rename_i r;obtain⟨rfl,r⟩:=ie r;obtain⟨a,m,k⟩:=ak q;clear q;cases eu m;split at k
    .rename_i t;obtain⟨x,s,rfl⟩:=au k;obtain⟨l,t⟩:=jY.mp t;obtain⟨c,p,rfl⟩:=gO t;exact Q4 (h.gl r) (h.blt ("enumerate":Str) (by decide)) ((g a).v x s) ((gh s).st _ _)
    .cases k
   .split at q
    .rename_i r;obtain⟨rfl,r⟩:=ie r;obtain⟨⟨a,b⟩,m,k⟩:=ak q;clear q;cases i6 m;split at k
     .rename_i t;obtain⟨x,s,o⟩:=ak k;obtain⟨y,w,rfl⟩:=au o;obtain⟨l,t⟩:=jY.mp t;obtain⟨c,p,rfl⟩:=gO t;have i:starEach [b] X.e=[(false,eval b X.e)]:=(gh w).st _ _;exact iZ (h.gl r) (h.blt ("zip":Str) (by decide)) ((g a).v x s) ((g b).v y w) (by rw[(gh s).st,i]) i
     .cases k
    .exact plain q
 .exact plain q
omit h in
theorem Ar{f:Str}{a b c:Expr}(q:BY j f a=some (b,c)):f="dict"/\∃r p x,a=.Call (.Name r p) [b,c] [] x/\nL j r "zip"=true:=by
 obtain⟨⟨r,m⟩,z,n⟩:=ak q;obtain⟨⟨t,v⟩,k,s⟩:=ak n;clear q n;obtain⟨p,x,rfl⟩:=gU z;cases i6 k;split at s
 .rename_i e;cases s;simp only[av]at e;exact⟨bu e.1,r,p,x,rfl,e.2⟩
 .cases s
omit h in
theorem Dz{f:Str}{a b:Expr}(q:HI j f a=some b):f="list"/\∃r p c,a=.Call (.Name r p) [b] [] c/\nL j r "range"=true:=by
 obtain⟨⟨r,m⟩,z,s⟩:=ak q;obtain⟨t,k,e⟩:=ak s;clear q s;obtain⟨p,n,rfl⟩:=gU z;cases eu k;split at e
 .rename_i x;cases e;simp only[av]at x;exact⟨bu x.1,r,p,n,rfl,x.2⟩
 .cases e
omit h in
theorem ve{n:Nat}{t e:Expr}{f:jx}(q:FW j (λx=>tr j n x) t e=some f)(env:Env)(x:Value):foldedSetIterable e env x=pure x:=by
 have s:=jm q;clear q;rcases s with ⟨⟨b,a⟩,z,q⟩|⟨_,q⟩
 .obtain⟨p,u,rfl⟩:=gU z;rfl
 .obtain⟨x,k,rfl⟩:=au q;exact(gh k).fs _ _
theorem EA(q:xg j E o Q n=true):BlockOk X E o Q n:=by
 unfold xg at q;simp only[av]at q;obtain⟨⟨⟨⟨⟨⟨f,b⟩,c⟩,m⟩,r⟩,p⟩,v⟩:=q;have s:j.N=o.take j.N.length:=bu r;refine⟨bu f,λx a=>?_,λx a l=>?_,λx a l=>?_,?_,?_,λx a l i k=>?_⟩
 .simpa using be.mp b x a
 .have:=be.mp c x a;rw[l]at this;simpa using this
 .have:=be.mp m x a;rw[l]at this;have t:E.names.lookup x.1=some .free/\(j.ks.lookup x.1=some .cell\/j.ks.lookup x.1=some .free):=by simpa using this
  refine⟨t.1,?_⟩;unfold Env.kindOf;rw[h.ks];exact t.2
 .rw [h.hN];exact s
 .rw [h.hN];exact bu p
 .have:=be.mp v x a;rw[l]at this;have e:kN j.N x.1=some i:=np (by rw[<- h.hN];exact h.nd) (by rw[<- h.hN];exact k);rw[e]at this;simpa using this
end
theorem HF{X:Cx}{N:LS}{s:List (Str×NameKind)}{k:List NameKind}{e:Expr}{g:jS}(f:X.N=N)(d:X.N.Nodup)(b:∀x,cS s x k=true->L2.Loc X.e.scope x/\(X.fn x=true\/X.e.scope.names.lookup x=some .local))(q:IB N s k e=some g):∃x p,e=.Name x p/\PG X (.Name x p) (gT X.K g):=by
 obtain⟨x,m,h⟩:=ak q;clear q;obtain⟨p,rfl⟩:=mH m;split at h
 .rename_i c;obtain⟨i,r,rfl⟩:=au h;obtain⟨a,n⟩:=b _ c;exact⟨x,p,rfl,Kf i d (by rw[f];exact pN r) a n⟩
 .cases h
theorem Ce{X:Cx}{N:LS}{n:List (Str×NameKind)}{k:List NameKind}{e:Expr}{g:jS}(v:X.c=true)(b:X.N=N)(d:X.N.Nodup)(m:∀x,cS n x k=true->L2.Loc X.e.scope x/\(X.fn x=true\/X.e.scope.names.lookup x=some .local))(q:FV N n k e=some g):PG X e (gT X.K g):=by
 have all:∀{s:Ab}{h:List jS},Cc N n k s=some h->GsOk X s h:=by
  intro s;induction s with
  |nil=>intro h q;cases q;exact .nil
  |cons e s i=>intro h q;obtain⟨g,f,t⟩:=ak q;obtain⟨r,u,rfl⟩:=au t;clear q t;obtain⟨x,p,rfl,a⟩:=HF b d m f;exact .cons a (i u)
 have w:=jm q;clear q;rcases w with ⟨s,z,q⟩|⟨_,q⟩
 .obtain⟨c,p,rfl⟩:=gO z;obtain⟨h,f,rfl⟩:=au q;exact Ke v (all f)
 .obtain⟨x,p,rfl,a⟩:=HF b d m q;exact a
variable{E:Scope}
theorem CK(h:env.scope.kind=.function):(relabel E env).names=qK E.names env.scope.names:=by unfold relabel qK Env.kindOf;rw[h];simp
variable{j:Cn}{X:Cx}{o:LS}{Q:List Nat}{n:Nat}
theorem XOk.inn(h:XOk j X)(B:BlockOk X E o Q n)(d:o.Nodup)(s:Shared)(H:Y)(C:Addr)(f:List Addr) :
  XOk ⟨o,[],[],j.refs,qK E.names j.ks,j.F,j.G,j.A,j.M,j.I⟩ (Ev.inn X E o s H C f) where
 hN:=rfl
 nd:=d
 ks:=by show(relabel E X.e).names=_;rw[CK h.kd,h.ks]
 kd:=B.kind
 calm:=h.calm
 hu:=h.hu
 fns:=h.fns
 blt:=h.blt
 glb:=h.glb
 attrs:=h.attrs
 meths:=h.meths
 mks:=h.mks
 lam:=λz=>by simp at z
theorem kS(B:BlockOk X E o Q n)(I:Inv X t J H s):closureFor E X.e=pure (l7 E X.e):=by
 have all:∀x ∈ E.names,x.2=.free->∃c,X.e.cells.lookup x.1=some c:=λx d e=>I.o.has x.1 (B.fr x d e).2;unfold closureFor l7;have b:∀(l:List (Str×NameKind))(a:List (Str×Addr)),(∀x ∈ l,x.2=.free->∃c,X.e.cells.lookup x.1=some c) ->
   (forIn l a fun (x:Str×NameKind) (r:List (Str×Addr))=>(do
    if x.2 == .free then do
     let c <- cellOf X.e x.1
     pure (ForInStep.yield ((x.1,c)::r))
    else pure (ForInStep.yield r):Sem (ForInStep (List (Str×Addr)))))=pure ((((l.filter λx=>x.2 == .free).map λx=>(x.1,(X.e.cells.lookup x.1).getD 0)).reverse)++a):=by
  intro l;induction l with
  |nil=>intro a _;rfl
  |cons x l i=>
   intro a e;rw[iY];by_cases h:(x.2 == NameKind.free)=true
   .obtain⟨c,m⟩:=e x aO (by simpa using h);rw[ai h,yI (p:=λ(x:Str×NameKind)=>x.2 == .free) h,aF,List.reverse_cons,fj];have v:cellOf X.e x.1=pure c:=by unfold cellOf;rw[m]
    rw[v,m];show(forIn l ((x.1,c)::a) _:Sem _)=_;rw[i ((x.1,c)::a) λy f=>e y (aR _ f)];rfl
   .rw [al h,yH (p:=λ(x:Str×NameKind)=>x.2 == .free) h];show(forIn l a _:Sem _)=_;rw[i a λy f=>e y (aR _ f)]
 have k:=b E.names [] all;rw [dR] at k;show (Bind.bind (forIn E.names [] fun (x:Str×NameKind) (r:List (Str×Addr))=>(do
    if x.2 == .free then do
     let c <- cellOf X.e x.1
     pure (ForInStep.yield ((x.1,c)::r))
    else pure (ForInStep.yield r):Sem (ForInStep (List (Str×Addr))))) λq=>pure q:Sem (List (Str×Addr)))=_
 rw[k];rfl
def oR(n:Nat):Prop:=∀(j:Cn)(X:Cx),XOk j X->∀e,Good X e (tr j n e)
theorem XOk.own(h:XOk j X)(o:LS):XOk ⟨j.N,o,j.deep,j.refs,j.ks,j.F,j.G,j.A,j.M,j.I⟩ X:=⟨h.hN,h.nd,h.ks,h.kd,h.calm,h.hu,h.fns,h.blt,h.glb,h.attrs,h.meths,h.mks,h.lam⟩
theorem nB{j:Cn}{X:Cx}(h:XOk j X){n:Nat}(G:oR n){l t iter:Expr}{k:Ab}{E:Scope}{f:EV}(q:i7 j (λw x=>tr w n x) l t iter k E=some f) :
  ∃o Q m g u y,BlockOk X E o Q m/\qf X t iter f Q m g u y/\(∀s H C p,PG (inn X E o s H C p) t (gT X.K g))/\(∀s H C p,PIfs (inn X E o s H C p) k u)/\(∀s H C p,O (inn X E o s H C p) l (tV X.K y)) /\
   ∀x,foldedSetIterable iter X.e x=pure x:=by
 unfold i7 at q;generalize N:j.N++mV j.N (gc t)=o at q;generalize P:NW j.N (gc t)=Q at q;generalize I:(mV j.N (gc t)).length=m at q;split at q
 .rename_i v;rw[av]at v;obtain⟨z,A,q⟩:=ak q;obtain⟨c,d,q⟩:=ak q;obtain⟨e,D,q⟩:=ak q;have B:BlockOk X E o Q m:=EA h v.1;have F:o.Nodup:=bu v.2;have i:=λs H C p=>(h.inn B F s H C p).own (j.own.filter (λx=>!(gc t).contains x))
  have W:qf X t iter f Q m z c e/\∀x,foldedSetIterable iter X.e x=pure x:=by
   split at q
   .obtain⟨K,b,rfl⟩:=au q;exact⟨Kt ((G j X h iter).e K b),(nG b).fs _⟩
   .obtain⟨L,b,rfl⟩:=au q;exact⟨Nb (HK h (G j X h) b),λx=>ve b _ x⟩
  refine⟨o,Q,m,z,c,e,B,W.1,λs H C p=>?_,λs H C p=>?_,λs H C p=>?_,W.2⟩
  .exact Ce h.calm rfl F (λx S=>⟨.inl ((i s H C p).local S),.inr ((i s H C p).local S)⟩) A
  .cases k with
   |nil=>cases d;exact PIfs.none
   |cons a r=>
    cases r with
    |nil=>exact PIfs.one ((G _ _ (i s H C p) a).b c d)
    |cons _ _=>cases d
  .exact (G _ _ (i s H C p) l).v e D
 .cases q
theorem vu{j:Cn}{X:Cx}(h:XOk j X){n:Nat}(G:oR n){l t iter:Expr}{k:Ab}{E:Scope}{u:Pos}{f:EV}(q:i7 j (λr x=>tr r n x) l t iter k E=some f) :
  O X (.ListComp l [⟨t,iter,k,0⟩] E u) (tV X.K f)/\∀(i:Nat){x:Str}{c e:Pos},X.N.Nodup->swapsWith (.ListComp l [⟨t,iter,k,0⟩] E u) (some (.Name x c)) e.line X.e=pure true->X.N[i]? = some x->L2.Loc X.e.scope x->(X.fn x=true\/X.e.scope.names.lookup x=some .local) ->
   PS X (.Assign [.Name x c] (.ListComp l [⟨t,iter,k,0⟩] E u) e) (k4 X.K (aS i (eV f))):=by
 obtain⟨o,Q,m,P,F,K,B,W,v,d,w,g⟩:=nB h G q;exact⟨λp s J H a I q=>Lv B h.calm W v d w (kS B I) g p s J H a I q,λi x c e N S b z y p s J H D I q=>Lk i N B h.calm W v d w (kS B I) S g b z y p s J H D I q⟩
theorem Bc(h:XOk j X)(G:oR n)(q:i7 j (λe x=>tr e n x) l t iter i E=some f):O X (.ListComp l [⟨t,iter,i,0⟩] E u) (tE X.K (Eg f)):=by obtain⟨o,Q,m,g,v,d,B,W,k,b,c,r⟩:=nB h G q;exact λp s J H a I q=>Iq B h.calm W k b c (kS B I) r p s J H a I q
theorem Cz{s:Ab}{a:Expr}(h:Hv s=some a):∃p,s=[a,.List [] p]:=by
 obtain⟨⟨c,b⟩,e,f⟩:=ak h;obtain⟨m,n,x⟩:=ak f;obtain⟨p,rfl⟩:=pO n;split at x
 .rename_i k;cases x;cases lp.mp k;exact⟨p,i6 e⟩
 .cases x
theorem pJ{j:Cn}{o:Expr}{m n:Str}{a c:Pos}(h:JI j o m n a c=true):m=n/\wR o=true/\(a.endLine == c.line)=true:=by unfold JI at h;simp only[av]at h;exact⟨bu h.1.1.1,h.1.2,h.2⟩
theorem cN{o:Expr}{x:Str}{env:Env}(h:wR o=true):attributeBase o x env (eval o env)=eval o env:=by
 cases o with
 |Call f a k p=>
  cases f with
  |Name x q=>
   cases k with
   |nil=>cases a with
    |nil=>cases h
    |cons _ _=>rfl
   |cons _ _=>cases h
  |_=>rfl
 |_=>rfl
theorem G4(h:∀e ∈ a,fF e)(l:a.length < 29):methodCallForm (a.length+([]:List Keyword).length) (backTo u (starEach a env)) (backToKw u (keywordEach [] env))=true:=by
 unfold methodCallForm;have s:=ji (env:=env) (u:=u) h;have n:(backTo u (starEach a env)).all (λx=>!x.1)=true:=by
  rw[be];intro x f;cases b:x.1 with
  |false=>rfl
  |true=>have:(backTo u (starEach a env)).any (·.1)=true:=oy.mpr ⟨x,f,b⟩;rw[s]at this;cases this
 rw[n];have k:(backToKw u (keywordEach [] env))=[]:=rfl;rw[k];simp;lia
theorem tj{j:Cn}{X:Cx}(h:XOk j X){n:Nat}(g:∀x,Good X x (tr j n x)){o:Expr}{m:Str}{r:Ab}{p k:Pos}:Good X (.Call (.Attribute o m p) r [] k) (KZ j (tr j n o).e o m (r.map λx=>(tr j n x).e) p k):=by
 unfold KZ;split
 .rename_i c;simp only[av]at c;have l:r.length < 29:=by have:=bu c.2;rwa [aU]at this
  refine .ofE (λf q=>?_) λ_ _=>rfl;obtain⟨x,t,q⟩:=ak q;obtain⟨a,v,rfl⟩:=au q;obtain⟨d,s⟩:=lC (λe _=>g e) v;have b:=JK (o:=o) (y:=m) (j:=p) (N:=k) (u:=r) (v:=X.e) (cN c.1.1) (G4 s l) c.1.2;cases r with
  |nil=>cases v;exact Il h.meths ((g o).e x t) b
  |cons e i=>exact Lp h.meths ((g o).e x t) d (s e aO _ _) (ji λy w=>s y (aR _ w)) b
 .exact .no
theorem GL{j:Cn}{X:Cx}(h:XOk j X){f:Str}{g:GF}{a:Expr}{s:Ab}{x:vK}{w u:Pos}(l:j.I f=some g)(m:cS j.ks f [.globalImplicit]=true)(t:i' f=true)(c:PA X (a::s) (vN X.K x))(d:∀e ∈ a::s,fF e) :
  O X (.Call (.Name f w) (a::s) [] u) (tE X.K (il (if EX.contains f=true then gD g else g) f x)):=by
 obtain⟨C,k,y,z,o,n,r,mk,G,p,b⟩:=h.mks f g l;have q:=d a aO s X.e;have v:=ji (env:=X.e) (u:=u) λe i=>d e (aR _ i);by_cases hd:EX.contains f=true
 .rw [ai hd]at b ⊢;exact Im mk G p (h.gl m) r n b c (eQ t).1 q v
 .rw [al hd]at b ⊢;exact Lq mk G p (h.gl m) r n b c (eQ t).1 q v
theorem xb{g:List Comprehension}{t iter:Expr}{i:Ab}(h:K9 g=some (t,iter,i)):g=[⟨t,iter,i,0⟩]:=by
 obtain⟨⟨a,b,c,d⟩,x,p⟩:=ak h;split at p
 .rename_i hd;cases p;cases (show d=0 from hd);exact eu x
 .cases p
section
variable{j:Cn}{X:Cx}(h:XOk j X){n:Nat}(g:∀x,Good X x (tr j n x))
include h g
theorem ID{f:Str}{w:Ab}{C B:Pos}:Good X (.Call (.Name f C) w [] B) (P8 j (λx=>tr j n x) f w):=by
 refine .ite (λk=>?_) .no;simp only[av,sg]at k;cases w with
 |nil=>cases k.2
 |cons a w=>
 refine .el (λD u=>?_) λ_=>.el (λD u=>.ite (λ_=>?_) ?_) λ_=>.el (λF i=>?_) λ_=>.el (λ⟨F,t⟩ i=>?_) λ_=>.no
 .refine .ofE (λf q=>?_) λ_ _=>rfl;obtain⟨x,s,rfl⟩:=au q;obtain⟨m,p⟩:=lC (λe _=>g e) s;exact GL h u k.1.1 k.1.2 m p
 .refine .ofV (λf q=>?_) λ_ _=>rfl;obtain⟨x,s,rfl⟩:=au q;obtain⟨m,p⟩:=lC (λe _=>g e) s;exact(vG h u k.1.1 k.1.2 m p).1
 .refine .ofV (λf q=>?_) λ_ _=>rfl;obtain⟨x,s,rfl⟩:=au q;obtain⟨m,p⟩:=gF (λe _=>g e) s;exact G_ h u k.1.1 k.1.2 m p
 .cases eu i;refine .ite (λH=>?_) (.ite (λH=>?_) (.el (λb l=>?_) λ_=>.el (λ⟨b,c⟩ l=>?_) λ_=>?_))
  .subst H;refine .ofV (λf q=>?_) λ_ _=>rfl
   obtain⟨x,s,rfl⟩:=au q;exact Op (h.gl k.1.1) (h.blt _ (by decide)) ((g _).e x s) ((nG s).st _ _)
  .subst H;refine .ofV (λf q=>?_) λ_ _=>rfl
   obtain⟨x,s,rfl⟩:=au q;exact B3 (h.gl k.1.1) (h.blt _ (by decide)) ((g _).e x s) ((nG s).st _ _)
  .obtain⟨rfl,r,I,A,rfl,v⟩:=Dz l;refine .ofV (λf q=>?_) λ_ _=>rfl;obtain⟨x,s,rfl⟩:=au q;obtain⟨rfl,v⟩:=ie v;exact FL h.calm (h.gl k.1.1) (h.blt _ (by decide)) (h.gl v) (h.blt _ (by decide)) ((g _).v x s) ((gh s).st _ _)
  .obtain⟨rfl,r,I,A,rfl,v⟩:=Ar l;refine .ofE (λf q=>?_) λ_ _=>rfl;obtain⟨x,s,q⟩:=ak q;obtain⟨y,d,rfl⟩:=au q;obtain⟨rfl,v⟩:=ie v;have S:starEach [c] X.e=[(false,eval c X.e)]:=(gh d).st _ _;exact Ip h.calm (h.gl k.1.1) (h.blt _ (by decide)) (h.gl v) (h.blt _ (by decide)) ((g _).v x s) ((g _).v y d) (by rw[(gh s).st,S]) S x6
  .refine .ofV (λf q=>?_) λ_ _=>rfl;obtain⟨o,s,q⟩:=ak q;obtain⟨x,d,rfl⟩:=au q;obtain⟨m,p⟩:=gF (s:=[a]) (λe _=>g e) d;exact Ky h s k.1.1 m p
 .refine .ite (λz=>?_) .no;rw[av]at z;cases bu z.1;obtain⟨⟨m,p⟩,K,E⟩:=ak i;obtain⟨L,P,G⟩:=au E;cases G;obtain⟨M,rfl⟩:=mH P;cases i6 K;refine .el (λT s=>?_) λ_=>.no;refine .ofV (λf q=>?_) λ_ _=>rfl;obtain⟨x,d,rfl⟩:=au q;exact J8 h s k.1.1 z.2 ((g _).e x d) (nG d).st
theorem IE{o:Expr}{m:Str}{w:Ab}{u i:Pos}:Good X (.Call (.Attribute o m u) w [] i) (P9 j (λx=>tr j n x) o m u w i):=by
 have l:X.A.units+1 < cLine:=by have:=h.hu;lia
 refine .el (λa d=>?_) λ_=>?_
 .cases eu d;refine .ite (λs=>?_) (.ite (λs=>?_) (.ite (λs=>?_) (.el (λA K=>.ite (λs=>?_) (tj h g)) λ_=>tj h g)))
  .obtain⟨rfl,t,v⟩:=pJ s;refine .ofE (λf q=>?_) λ_ _=>rfl;obtain⟨x,r,q⟩:=ak q;obtain⟨y,k,rfl⟩:=au q;exact FP ((g _).e x r) ((g _).e y k) ((nG k).st _ _) (cN t) v
  .obtain⟨rfl,t,v⟩:=pJ s;refine .ofE (λf q=>?_) λ_ _=>rfl;obtain⟨x,r,q⟩:=ak q;obtain⟨y,k,rfl⟩:=au q;exact FO ((g _).e x r) ((g _).v y k) ((gh k).st _ _) (cN t) v
  .simp only[av]at s;cases bu s.1.1;refine .ofV (λf q=>?_) λ_ _=>rfl;obtain⟨x,r,q⟩:=ak q;obtain⟨y,k,rfl⟩:=au q;exact Io h.hu ((g _).v x r) ((g _).v y k) ((gh k).st _ _) (cN s.1.2) s.2
  .obtain⟨c,p,rfl⟩:=gO K;obtain⟨rfl,t,v⟩:=pJ s;refine .ofE (λf q=>?_) λ_ _=>rfl;obtain⟨x,r,q⟩:=ak q;obtain⟨y,k,rfl⟩:=au q;exact Lu l ((g _).e x r) (gF (λe _=>g e) k).1 ⟨cN t,rfl,v,rfl⟩
 .refine .ite (λs=>?_) (.ite (λs=>.el (λ⟨a,b⟩ d=>?_) λ_=>.no) (.el (λa d=>.ite (λs=>?_) (tj h g)) λ_=>tj h g))
  .rw [av]at s;obtain⟨rfl,t,v⟩:=pJ s.1;cases w with
   |cons _ _=>cases s.2
   |nil=>refine .ofE (λf q=>?_) λ_ _=>rfl;obtain⟨x,r,rfl⟩:=au q;exact Ir ((g _).e x r) (cN t) v
  .simp only[av]at s;cases bu s.1.1;cases i6 d;refine .ofV (λf q=>?_) λ_ _=>rfl;obtain⟨x,r,q⟩:=ak q;obtain⟨y,k,q⟩:=ak q;obtain⟨z,S,rfl⟩:=au q;have P:starEach [b] X.e=[(false,eval b X.e)]:=(gh S).st _ _;have F:starEach [a,b] X.e=[(false,eval a X.e),(false,eval b X.e)]:=by rw[(gh k).st,P]
   exact Ij l ((g _).v x r) ((g _).v y k) ((g _).v z S) ⟨cN s.1.2,by rw[F];rfl,s.2,by rw[F];rfl⟩
  .obtain⟨p,rfl⟩:=Cz d;obtain⟨rfl,t,v⟩:=pJ s;refine .ofE (λf q=>?_) λ_ _=>rfl;obtain⟨x,r,q⟩:=ak q;obtain⟨y,k,rfl⟩:=au q;have H:=(gh k).st;exact FN ((g _).e x r) ((g _).v y k) (Hr Hl) ⟨cN t,by rw[H];rfl,v,by rw[H];rfl⟩
end
theorem ph:∀n,oR n
 |0=>λj X h e=>Good.no
 |n+1=>by
  have G:=ph n;intro j X h e;have g:=G j X h;cases e with
  |Constant c k p=>
   cases c with
   |int i=>exact .ofV (λf q=>by cases q;exact Ou) λ_ _=>rfl
   |bool i=>exact .ofV (λf q=>by cases q;exact QI) λ_ _=>rfl
   |none=>exact .ofV (λf q=>by cases q;exact Ol) λ_ _=>rfl
   |str i=>exact .ofV (λf q=>by cases q;exact Og) λ_ _=>rfl
   |_=>exact .no
  |Name x p=>
   refine .ite (λw=>?_) (.ite (λw=>?_) .no)
   .rw [av]at w;refine .ofE (λf q=>?_) λ_ _=>rfl;obtain⟨i,s,rfl⟩:=au q;exact Oc i (h.get s) (h.vis w.1) (eQ w.2).1 (eQ w.2).2
   .rw [av]at w;refine .ofV (λf q=>?_) λ_ _=>rfl;obtain⟨v,s,q⟩:=ak q;split at q
    .cases q
    .rename_i hd;cases q;exact Ls (h.gl w.1) ((h.glb _ v s).1 (by simpa using hd)) (eQ w.2).1
  |BinOp a l b p=>refine .ofV (λf q=>?_) λ_ _=>rfl;obtain⟨o,s,q⟩:=ak q;obtain⟨x,t,q⟩:=ak q;obtain⟨y,d,rfl⟩:=au q;exact QF (Kw h s) ((g _).v x t) ((g _).v y d)
  |UnaryOp l a p=>
   cases l with
   |USub=>refine .ofV (λf q=>?_) λ_ _=>rfl;obtain⟨x,s,rfl⟩:=au q;exact Om ((g _).v x s)
   |Not=>
    refine .ofB (λf q=>?_) λf q=>?_
    .obtain⟨x,s,rfl⟩:=au q;exact N_ ((g _).b x s)
    .obtain⟨x,s,rfl⟩:=au q;exact Oj ((g _).w x s)
   |_=>exact .no
  |BoolOp l C p=>exact .ofB (λf q=>(uE (λe _=>g e) q).pt) λf q=>uF (λe _=>g e) q
  |Compare a H A p=>
   refine .el (λl L=>?_) λ_=>?_
   .cases eu L;refine .el (λb F=>?_) λ_=>.no
    cases eu F;refine .el (λD s=>?_) λ_=>?_
    .have u:∀f,((tr j n a).v.bind λx=>(tr j n b).v.map λy=>ce D x y)=some f->O X (.Compare a [l] [b] p) (tV X.K f)/\PT X (.Compare a [l] [b] p) (tQ X.K (bV f)):=λf q=>by
      obtain⟨x,t,q⟩:=ak q;obtain⟨y,d,rfl⟩:=au q;exact⟨Ow (mP s) ((g _).v x t) ((g _).v y d) ((gh d).mr _),Oa (mP s) ((g _).v x t) ((g _).v y d) ((gh d).mr _)⟩
     exact .ofC (λf q=>(u f q).1) λf q=>(u f q).2
    .have u:∀f,((Ks l).bind λg=>(tr j n a).e.bind λx=>(tr j n b).e.map λy=>gY g x y)=some f->O X (.Compare a [l] [b] p) (tV X.K f)/\PT X (.Compare a [l] [b] p) (tQ X.K (bV f)):=λf q=>by
      obtain⟨o,s,q⟩:=ak q;obtain⟨x,t,q⟩:=ak q;obtain⟨y,d,rfl⟩:=au q;exact⟨Lw (Af h s) ((g _).e x t) ((g _).e y d) ((nG d).mr _),Ll (Af h s) ((g _).e x t) ((g _).e y d) ((nG d).mr _)⟩
     exact .ofC (λf q=>(u f q).1) λf q=>(u f q).2
   .have u:∀f,((pe H).bind λo=>(pe A).bind λz=>(K8 o.1).bind λg=>(K8 o.2).bind λD=>(tr j n a).v.bind λx=>(tr j n z.1).v.bind λy=>(tr j n z.2).v.map λz=>pc g D x y z)=some f->O X (.Compare a H A p) (tV X.K f)/\PT X (.Compare a H A p) (tQ X.K (bV f)):=λf q=>by
     obtain⟨⟨o1,o2⟩,b1,R⟩:=ak q;obtain⟨⟨b,c⟩,b2,T⟩:=ak R;clear q R;cases i6 b1;cases i6 b2;obtain⟨o,s,q⟩:=ak T;obtain⟨o',t,q⟩:=ak q;obtain⟨x,d,q⟩:=ak q;obtain⟨y,V,q⟩:=ak q;obtain⟨z,K,rfl⟩:=au q;exact⟨Iu (mP s) (mP t) ((g _).v x d) ((g _).v y V) ((g _).v z K) ((gh K).ms _ _ _),Ie (mP s) (mP t) ((g _).v x d) ((g _).v y V) ((g _).v z K) ((gh K).ms _ _ _)⟩
    exact .ofC (λf q=>(u f q).1) λf q=>(u f q).2
  |IfExp c a b p=>
   have Q:∀f,((tr j n c).b.bind λq=>(tr j n a).v.bind λx=>(tr j n b).v.map λy=>Oy q x y)=some f->O X (.IfExp c a b p) (tV X.K f):=λf q=>by obtain⟨o,s,q⟩:=ak q;obtain⟨x,t,q⟩:=ak q;obtain⟨y,d,rfl⟩:=au q;exact QH ((g _).b o s) ((g _).v x t) ((g _).v y d)
   refine⟨Q,λf q=>?_,λf q=>(by cases q),λf q=>?_⟩
   .obtain⟨x,s,rfl⟩:=au (show ol eV _=some f from q);exact KS (Q _ s)
   .obtain⟨x,s,rfl⟩:=au (show ol bV _=some f from q);exact y_ (Q _ s)
  |Tuple C c p=>refine .ofV (λf q=>?_) λ_ _=>rfl;obtain⟨x,s,rfl⟩:=au q;exact Of (gF (λe _=>g e) s).1
  |List C p=>refine .ofV (λf q=>?_) λ_ _=>rfl;obtain⟨x,s,rfl⟩:=au q;exact Oo (gF (λe _=>g e) s).1
  |Dict ks vs p=>refine .ite (λw=>?_) .no;rw[av]at w;cases lp.mp w.1;cases lp.mp w.2;exact⟨λf q=>(by cases q;exact Oe B5),λf q=>(by cases q;exact B5),λf q=>(by cases q),λf q=>(by cases q)⟩
  |Subscript a i p=>
   have N:X.A.units+1 < cLine:=by have:=h.hu;lia
   refine .el (λ⟨lo,hi,st⟩ hs=>?_) λ_=>.ite (λ_=>.el (λC et=>?_) λ_=>?_) ?_
   .obtain⟨p,rfl⟩:=IN hs;cases st with
    |some _=>exact .no
    |none=>
     refine .ite (λ_=>.no) (.ite (λ_=>.ofV (λf q=>?_) λ_ _=>rfl) (.ofV (λf q=>?_) λ_ _=>rfl))
     .obtain⟨x,s,q⟩:=ak q;obtain⟨y,t,q⟩:=ak q;obtain⟨z,d,rfl⟩:=au q;exact Oh ((g _).e x s) (ti g t) (ti g d)
     .obtain⟨x,s,q⟩:=ak q;obtain⟨y,t,q⟩:=ak q;obtain⟨z,d,rfl⟩:=au q;exact Oi ((g _).v x s) (ti g t) (ti g d)
   .obtain⟨c,p,rfl⟩:=gO et;refine .ofE (λf q=>?_) λ_ _=>rfl;obtain⟨x,s,q⟩:=ak q;obtain⟨y,t,rfl⟩:=au q;exact Oq N ((g _).e x s) (gF (λe _=>g e) t).1 λ_ _=>rfl
   .refine .ofE (λf q=>?_) λ_ _=>rfl;obtain⟨x,s,q⟩:=ak q;obtain⟨y,t,rfl⟩:=au q;exact Ot N ((g _).e x s) ((g _).v y t) (gh t).ix
   .refine .ofV (λf q=>?_) λ_ _=>rfl;obtain⟨x,s,q⟩:=ak q;obtain⟨y,t,rfl⟩:=au q;exact QG N ((g _).v x s) ((g _).v y t) (gh t).ix
  |Call fn as ks cp=>
   refine .ite (λhk=>?_) (.el (λf I=>.el (λa S=>.ofV (λfv q=>?_) λ_ _=>rfl) λ_=>.no) λ_=>.no)
   .cases lp.mp hk;refine .el (λf I=>?_) λ_=>.el (λ⟨o,m,ap⟩ L=>?_) λ_=>.no
    .obtain⟨fp,rfl⟩:=mH I;exact ID h g
    .cases EI L;exact IE h g
   .obtain⟨fp,rfl⟩:=mH I;obtain⟨i,s,q⟩:=ak q;obtain⟨x,t,rfl⟩:=au q;unfold Cm at S;split at S;case isFalse=>cases S
    rename_i w;simp only[av]at w;obtain⟨⟨⟨B,c2⟩,c3⟩,c4⟩:=w;obtain⟨e,W,F⟩:=iV.mp S;clear S;obtain⟨⟨r,as'⟩,Z,hd⟩:=iV.mp F;clear F;cases eu W;obtain⟨pr,c,rfl⟩:=gU Z;split at hd;case isFalse=>cases hd
    rename_i M;cases eu hd;obtain⟨rfl,B⟩:=ie B;obtain⟨rfl,M⟩:=ie M;obtain⟨T,p2,p3,p4,kp,rfl⟩:=DF c4;obtain⟨l1,l2,cc,P,l3,l4,l5⟩:=h.lam c2;exact FK h.calm l1 l3 l4 l5 l2 (h.get s) (h.cellk c3) (h.gl B) (h.blt _ (by decide)) (h.gl M) (h.blt _ (by decide)) ((g _).v x t) ((gh t).st _ _)
  |Attribute o f p=>refine .ite (λw=>?_) .no;refine .ofE (λf q=>?_) λ_ _=>rfl;obtain⟨x,s,rfl⟩:=au q;exact Ov h.attrs ((g _).e x s) (cN w)
  |ListComp elt gs E p=>refine .el (λ⟨tg,iter,ifs⟩ hz=>?_) λ_=>.no;cases xb hz;exact .ofV (λf q=>(vu h G q).1) λ_ _=>rfl
  |_=>exact .no
theorem tm(h:XOk j X)(q:FX j n k e=some f):O X e (tE X.K f)/\(gj e=false->∀t l env,swapsWith e t l env=pure false)/\fF e:=by
 have g:=ph n j X h;have p:∀{e},(tr j n e).e=some f->O X e (tE X.K f)/\(gj e=false->∀t l env,swapsWith e t l env=pure false)/\fF e:=λq=>⟨(g _).e f q,(nG q).sw,(nG q).st⟩;have v:=jm q;clear q;rcases v with ⟨⟨i,r⟩,z,q⟩|⟨_,q⟩
 .obtain⟨y,u,rfl⟩:=gU z;dsimp only at q;split at q
  .rename_i c;simp only[av,sg]at c;rcases jm q with ⟨o,m,q⟩|⟨_,q⟩
   .refine⟨?_,(λ_ _ _ _=>rfl),λ_ _=>rfl⟩;cases r with
    |nil=>cases c.1.2
    |cons a w=>obtain⟨x,d,rfl⟩:=au q;obtain⟨s,b⟩:=lC (λe _=>g e) d;exact(vG h m c.1.1.1 c.1.1.2 s b).2
   .exact p q
  .exact p q
 .exact p q
theorem uM(h:XOk j X):∀{a:Ab}{s:vK},uN (a.map λx=>FX j n k x)=some s->PA X a (vN X.K s)
 | [],s,q=>by cases q;exact HW
 |e::a,s,q=>by obtain⟨f,c,m⟩:=ak q;obtain⟨r,t,rfl⟩:=au m;obtain⟨p,_,b⟩:=tm h c;exact Em p (uM h t) (b _ _)
theorem pi{j:Cn}{X:Cx}(h:XOk j X){n k:Nat}{e:Expr}{f:EE}(q:Nu j n k e=some f):O X e (tE X.K f)/\(gj e=false->∀t l env,swapsWith e t l env=pure false):=by
 have a:=jm q;clear q;rcases a with ⟨b,x,q⟩|⟨_,q⟩
 .obtain⟨p,rfl⟩:=pO x;obtain⟨c,s,rfl⟩:=au q;exact⟨Lr (uM h s),λ_ _ _ _=>rfl⟩
 .exact⟨(tm h q).1,(tm h q).2.1⟩
def wn(T:Stmt->Option ES):List Stmt->Option ES
 | []=>some m_
 | [s]=>T s
 |s::r=>(T s).bind λf=>(wn T r).map λg=>aD f g
noncomputable def J_(e:Expr):Option Unit:=if h:e.ctorIdx=6 then Expr.Dict.elim e h λk v _=>if (k.isEmpty && v.isEmpty)=true then some () else none else none
theorem zT{e:Expr}{u:Unit}(h:J_ e=some u):∃p,e=.Dict [] [] p:=by
 have c:=HV h;revert h;exact Expr.Dict.elim e c λk v p h=>by
  cases k with
  |cons _ _=>cases h
  |nil=>
   cases v with
   |cons _ _=>cases h
   |nil=>exact⟨p,rfl⟩
def PP(j:Cn)(e:Expr):Option Expr:=(nD e).bind λz=>(lJ z.2).bind λa=>if nL j z.1 "list"=true then some a else none
def P7(j:Cn)(n:Nat)(t v:Expr):Option ES:=
 (Dl t).elim ((Ny t).elim ((Ng t).elim (if gj v=true then none else (jC t).bind fun _=>if (jC v).isSome=true then none else (FV j.N j.ks [.local,.cell] t).bind fun g=>(tr j n v).v.map fun z=>IS g z)
   λz=>if ((J_ v).isSome && j.deep.contains z.2.1)=true then (tr j n z.1).e.map λx=>lF j.A x z.2.1 ue else (tr j n z.1).e.bind λx=>(Nu j n 5 v).map λy=>lF j.A x z.2.1 y)
  λz=>if gj v=true then none else (tr j n z.1).e.bind λx=>(tr j n v).v.bind λw=>(jC z.2).elim ((tr j n z.2).v.map λy=>zq x y w) λe=>(qj (e.map λz=>(tr j n z).v)).map λy=>CA x y w)
 λx=>if cS j.ks x [.local,.cell]=true then (kN j.N x).bind λi=>if (j.deep.contains x && (J_ v).isSome)=true then some (aS i ue) else if (j.deep.contains x && !gj v)=true then (Nu j n 5 v).map (aS i) else (if j.own.contains x=true then PP j v else none).elim ((if j.own.contains x=true then zS v else none).elim ((tr j n v).e.map (aS i)) λe=>(qj (e.map λy=>(tr j n y).v)).map λa=>aS i (ee a)) λa=>(tr j n a).v.map λf=>aS i (HS f)
  else none
def OA(j:Cn)(n:Nat)(e:Expr):Option ES:=if gj e=true then (tr j n e).v.map λf=>b0 (Eg f) else
 (Nu j n 5 e).map b0
def KY(j:Cn):Nat->Stmt->Option ES
 |0,_=>none
 |n+1,st=>match st with
  | .Assign Q v _=>(lJ Q).bind λt=>P7 j n t v
  | .Return r _=>r.bind λe=>if j.own.contains ("return":Str)=true then OA j n e else (tr j n e).e.map b0
  | .Continue _=>some Qa
  | .Raise ..=>some wy
  | .Expr e _=>if gj e=true then none else (tr j n e).e.map dj
  | .If c a b _=>(tr j n c).b.bind λq=>(wn (KY j n) a).bind λx=>(wn (KY j n) b).map λy=>kJ q x y
  | .For h iter o l _=>if l.isEmpty=false then none else (FV j.N j.ks [.local,.cell] h).bind λg=>(FW j (λy=>tr j n y) h iter).bind λi=>(wn (KY j n) o).map λb=>cf i g b
  |_=>none
theorem Dk{e:Ab}{c:Nat}{p:Pos}{v:Expr}{env:Env}(h:¬(jC v).isSome=true):swappedStores [.Tuple e c p] v env=pure none:=by cases v<;>first|rfl|exact absurd rfl h
theorem FU{j:Cn}{n:Nat}{l:Expr}{g:List Comprehension}{E:Scope}{u:Pos}{f:EE}(h:(tr j n (.ListComp l g E u)).e=some f) :
  ∃k t iter i s,n=k+1/\g=[⟨t,iter,i,0⟩]/\i7 j (λa x=>tr a k x) l t iter i E=some s/\f=eV s:=by
 cases n with
 |zero=>cases h
 |succ n=>
  replace h:((K9 g).elim {} λz=>Tr.ofV (i7 j (λa x=>tr a n x) l z.1 z.2.1 z.2.2 E)).e=some f:=h;cases e:K9 g with
  |none=>rw[e]at h;cases h
  |some z=>rw[e]at h;obtain⟨x,q,rfl⟩:=au (show ol eV _=some f from h);exact⟨n,_,_,_,x,rfl,xb e,q,rfl⟩
theorem lB{X:Cx}{T:Stmt->Option ES}(h:∀st f,T st=some f->PS X st (k4 X.K f)):∀{a:List Stmt}{f:ES},wn T a=some f->nQ X a (k4 X.K f)
 | [],f,q=>by cases q;exact N7
 | [s],f,q=>N6 (h s f q)
 |s::t::r,f,q=>by obtain⟨x,e,q⟩:=ak q;obtain⟨y,n,rfl⟩:=au q;exact Lj (h s x e) (lB h n)
theorem Ca(h:(tr j n (.ListComp l s E u)).v=some f) :
  ∃k t iter i,n=k+1/\s=[⟨t,iter,i,0⟩]/\i7 j (λa x=>tr a k x) l t iter i E=some f:=by
 cases n with
 |zero=>cases h
 |succ n=>
  replace h:((K9 s).elim {} λz=>Tr.ofV (i7 j (λa x=>tr a n x) l z.1 z.2.1 z.2.2 E)).v=some f:=h;cases e:K9 s with
  |none=>rw[e]at h;cases h
  |some z=>rw[e]at h;exact⟨n,_,_,_,rfl,xb e,h⟩
theorem IA(h:XOk j X)(q:OA j n e=some f):PS X (.Return (some e) p) (k4 X.K f):=by
 have g:=ph n j X h;unfold OA at q;split at q
 .rename_i l;have c:e.ctorIdx=8:=eq_of_beq l;obtain⟨m,s,rfl⟩:=au q;clear q l;revert s;refine Expr.ListComp.elim e c λa r c d s=>?_
  obtain⟨k,t,iter,i,rfl,rfl,b⟩:=Ca s;exact Ib (Bc h (ph k) b)
 .obtain⟨x,s,rfl⟩:=au q;exact Ib (pi h s).1
theorem IC{j:Cn}{X:Cx}(h:XOk j X)(H:∀x,X.fn x=true){n:Nat}{t l:Expr}{Q:Pos}{f:ES}(q:P7 j n t l=some f):PS X (.Assign [t] l Q) (k4 X.K f):=by
 have g:=ph n j X h;have N:X.A.units+1 < cLine:=by have:=h.hu;lia
 rcases jm q with ⟨x,Z,A⟩|⟨_,A⟩
 .clear q;obtain⟨px,rfl⟩:=mH Z;split at A
  .rename_i B;obtain⟨i,qi,q⟩:=ak A;split at q
   .rename_i hd;rw[av]at hd;obtain⟨s,W⟩:=jY.mp hd.2;obtain⟨p,rfl⟩:=zT W;cases q;exact As i h.nd B4 (h.get qi) (h.loc B) rfl (.inl (H x))
   split at q
   .rename_i hd;rw[av]at hd;obtain⟨fe,m,rfl⟩:=au q;exact As i h.nd (pi h m).1 (h.get qi) (h.loc B) ((pi h m).2 (by simpa using hd.2) _ _ _) (.inl (H x))
   .have qq:=jm q;clear q A;rcases qq with ⟨a,M,q⟩|⟨_,q⟩
    .split at M
     .obtain⟨⟨r,as⟩,b1,S⟩:=ak M;obtain⟨a',b2,S⟩:=ak S;clear M;obtain⟨fp,cp,rfl⟩:=gU b1;cases eu b2;split at S
      .rename_i T;cases S;obtain⟨rfl,T⟩:=ie T;obtain⟨z,m,rfl⟩:=au q;exact As i h.nd (Ik (h.gl T) (h.blt ("list":Str) (by decide)) ((g _).v z m) ((gh m).st _ _)) (h.get qi) (h.loc B) rfl (.inl (H x))
      .cases S
     .cases M
    rcases jm q with ⟨R,K,q⟩|⟨_,q⟩
    .split at K
     .obtain⟨a,m,rfl⟩:=au q;obtain⟨p,rfl⟩:=pO K;exact As i h.nd (Hr (gF (λe _=>g e) m).1) (h.get qi) (h.loc B) rfl (.inl (H x))
     .cases K
    .obtain⟨fe,m,rfl⟩:=au q;cases C:gj l with
     |false=>exact As i h.nd ((g l).e fe m) (h.get qi) (h.loc B) ((nG m).sw C _ _ _) (.inl (H x))
     |true=>
      have c:l.ctorIdx=8:=eq_of_beq C;clear q C;revert m;refine Expr.ListComp.elim l c fun a gs c d m=>?_;obtain⟨k,tg,iter,E,f',rfl,rfl,P,rfl⟩:=FU m;have cu:=vu (u:=d) h (ph k) P;have G:swapsWith (.ListComp a [⟨tg,iter,E,0⟩] c d) (some (.Name x px)) Q.line X.e=pure (X.e.blockKind == .function && X.e.kindOf x == some .local && px.line == (Expr.ListComp a [⟨tg,iter,E,0⟩] c d).pos.line
       && !(c.names.any λ(n,k)=>n == x && (k == .local ||k == .cell))):=rfl
      revert G;generalize (X.e.blockKind == .function && X.e.kindOf x == some .local && px.line == (Expr.ListComp a [⟨tg,iter,E,0⟩] c d).pos.line && !(c.names.any λ(n,k)=>n == x && (k == .local ||k == .cell)))=b;intro G;cases b with
      |true=>exact cu.2 i h.nd G (h.get qi) (h.loc B) (.inl (H x))
      |false=>exact As i h.nd (KS cu.1) (h.get qi) (h.loc B) G (.inl (H x))
  .cases A
 rcases jm A with ⟨⟨o,i⟩,hz,S⟩|⟨_,S⟩
 .clear q A;obtain⟨p,rfl⟩:=IR hz;split at S
  .cases S
  rename_i D;obtain⟨x,m,F⟩:=ak S;obtain⟨w,L,I⟩:=ak F;have G:=(gh L).sw (by simpa using D);clear S F;have q0:=jm I;clear I;rcases q0 with ⟨R,et,q⟩|⟨_,q⟩
  .obtain⟨c,p,rfl⟩:=gO et;obtain⟨y,P,rfl⟩:=au q;exact Le N ((g o).e x m) (gF (λe _=>g e) P).1 ((g l).v w L) (G _ _ _)
  .obtain⟨y,P,rfl⟩:=au q;exact Lg N ((g o).e x m) ((g i).v y P) ((g l).v w L) (G _ _ _) rfl (gh P).ps
 rcases jm S with ⟨⟨o,f,ap⟩,hz,F⟩|⟨_,F⟩
 .clear q A S;cases EI hz;split at F
  .rename_i hd;rw[av]at hd;obtain⟨s,N⟩:=jY.mp hd.1;obtain⟨p,rfl⟩:=zT N;obtain⟨x,m,rfl⟩:=au F;exact Lh h.attrs ((g o).e x m) B4 rfl
  obtain⟨x,m,q⟩:=ak F;obtain⟨z,P,rfl⟩:=au q;refine Lh h.attrs ((g o).e x m) (pi h P).1 ?_;cases C:gj l with
  |false=>exact(pi h P).2 C _ _ _
  |true=>have c:l.ctorIdx=8:=eq_of_beq C;clear q P F C;exact Expr.ListComp.elim (motive_1:=λv=>swapsWith v (some (.Attribute o f ap)) Q.line X.e=pure false) l c λ_ _ _ _=>rfl
 .clear q A S;split at F
  .cases F
  rename_i D;obtain⟨R,K,I⟩:=ak F;clear F;obtain⟨c,p,rfl⟩:=gO K;split at I
  .cases I
  .rename_i V;obtain⟨gg,m,q⟩:=ak I;obtain⟨z,L,rfl⟩:=au q;exact N4 ((g l).v z L) (Ce h.calm h.hN h.nd (λx Z=>⟨h.loc Z,.inl (H x)⟩) m) (show swapsWith l (some (.Tuple R c p)) Q.line X.e=pure false from(gh L).sw (by simpa using D) _ _ _) (Dk V) rfl
theorem Cb{j:Cn}{X:Cx}(h:XOk j X)(k:∀x,X.fn x=true)(z:PassesOwn (model X.p X.w) X.A X.e X.xe):∀n (st:Stmt) (f:ES),KY j n st=some f->PS X st (k4 X.K f)
 |0,st,f,q=>by cases q
 |n+1,st,f,q=>by
  have i:=Cb h k z n;have g:=ph n j X h;cases st with
  |Assign Q u A=>obtain⟨t,v,m⟩:=ak q;clear q;cases eu v;exact IC h k m
  |Return r p=>
   obtain⟨e,v,m⟩:=ak q;cases (show r=some e from v);clear q v;split at m
   .exact IA h m
   .obtain⟨x,s,rfl⟩:=au m;exact Ib ((g _).e x s)
  |Continue p=>cases q;exact QC
  |Raise a b p=>cases q;exact Ic
  |Expr e p=>
   replace q:(if gj e=true then none else (tr j n e).e.map dj)=some f:=q;split at q
   .cases q
   .rename_i d;obtain⟨x,s,rfl⟩:=au q;exact Li ((g _).e x s) ((nG s).sw (by simpa using d) _ _ _)
  |If c a b p=>obtain⟨c,s,q⟩:=ak q;obtain⟨x,w,q⟩:=ak q;obtain⟨y,F,rfl⟩:=au q;exact QB ((g _).b c s) (lB i w) (lB i F)
  |For B iter o l p=>
   cases l with
   |cons _ _=>cases q
   |nil=>obtain⟨K,S,q⟩:=ak q;obtain⟨P,s,q⟩:=ak q;obtain⟨b,w,rfl⟩:=au q;exact N8 z h.calm (HK h g s) (Ce h.calm h.hN h.nd (λx H=>⟨h.loc H,.inl (k x)⟩) S) (lB i w) λx=>ve s _ x
  |_=>cases q
structure Df where
 name:Str
 short:Str
 cls:Str
 st:Stmt
 N:LS
 ps:LS
 own:LS
 deep:LS
 refs:LS
noncomputable abbrev At:=List (Str×LS)
noncomputable def aT(T:At)(c f:Str):Bool:=T.any λx=>decide (x.1=c) && x.2.contains f
noncomputable def fT(D:List Df)(h:Str->GF)(x:Str):Option GF:=if (D.any λd=>decide (d.name=x) && d.cls.cps.isEmpty)=true then some (h x) else none
noncomputable def NK(c m:Str)(d:Df):Bool:=decide (d.cls=c) && decide (d.short=m) && !d.cls.cps.isEmpty
def mT(D:List Df)(h:Str->GF)(c m:Str):Option GF:=if m=("__init__":Str) then none else (D.find? (NK c m)).map λd=>h d.name
def Pt(D:List Df)(h:Str->GF)(c:Str):Option GF:=(D.find? (NK c "__init__")).map λd=>h d.name
noncomputable abbrev P3:=(Str->GF)×(Str->Option GF)
def Pw(G:Str->Option P)(T:At)(D:List Df)(p:P3)(d:Df):Cn:=⟨d.N,d.own,d.deep,d.refs,(bp d.st).names,fT D p.1,G,aT T,mT D p.1,p.2⟩
def um(G:Str->Option P)(T:At)(D:List Df)(p:P3)(d:Df):ES:=(wn (KY (Pw G T D p d) 60) (eB d.st)).getD wy
noncomputable def Hu(n:Nat)(x:Str):Bool:=(decide (x=("ends_on":Str)) && Nat.ble 14 n) ||((decide (x=("hand_ends":Str)) ||decide (x=("flaw_ends":Str))) && Nat.ble 13 n)
def qD(G:Str->Option P)(T:At)(D:List Df):Nat->P3
 |0=>(λ_ _ _=>none,λ_=>none)
 | n+1=>(fun x=>cond (Hu n x) ((qD G T D n).1 x) (match D.find? fun d=>decide (d.name=x) with
  |some d=>jl d.ps.length d.N.length (um G T D (qD G T D n) d)
  |none=>λ_ _=>none),Pt D (qD G T D n).1)
noncomputable def Lb(G:Str->Option P)(T:At)(D:List Df)(n:Nat):Str->GF:=(qD G T D n).1
theorem cond_ok{B:Type}{c:Bool}{a b:B}{p:B->Prop}(h:p b)(x:p a):p (cond c a b):=by cases c<;>assumption
def Nx(d:Df):Bool:=decide ((bp d.st).kind=.function) && !(bp d.st).isCoroutine && !(bp d.st).isGenerator && decide d.N.Nodup && decide (d.N.take d.ps.length=d.ps)
 && d.ps.all (λx=>(bp d.st).names.lookup x == some .local ||(bp d.st).names.lookup x == some .cell) && (bp d.st).names.all (λy=>y.2 != .free)
theorem IQ{d:Df}(h:Nx d=true):FnScope d.N d.ps (bp d.st):=by
 unfold Nx at h;simp only[av]at h;obtain⟨⟨⟨⟨⟨⟨a,e⟩,s⟩,n⟩,k⟩,f⟩,b⟩:=h;refine⟨bu a,by simpa using e,by simpa using s,bu n,bu k,λx c=>?_,λy m=>?_⟩
 .have:=be.mp f x c;simpa using this
 .have:=be.mp b y m;simpa using this
structure DOk(K:FG)(mg:SV)(d:Df)(f:Addr)(fd:FuncData):Prop where
 fn:Fun K d.short d.name d.st f fd
 bd:Binds K fd d.ps []
 pl:d.cls.cps.isEmpty=true->∃kV doc pm an cdv ct,fd=fV d.short d.name (gI d.st) (eB d.st) (bp d.st) .none kV doc pm an cdv ct
 bn:d.short=("__init__":Str)->EX.contains d.cls=true->Binds K fd d.ps [.none]
 gl:d.cls.cps.isEmpty=true->mg d.name=some (.ref f)
 cl:d.cls.cps.isEmpty=false->∃C,gX K d.cls C/\mg d.cls=some (.ref C)/\Cls K C/\(d.short=("__init__":Str)->Mk K C f)/\(d.short≠("__init__":Str)->Meth K C d.short f)
def tU(o:Obj):Bool:=match o.data with
 | .fields v=>(match v.toList with|_::.str n _::_=>n == DI|_=>false)
 |_=>false
def zN(K:FG):Bool:=K.all λp=>!tU p.2 ||(match Cf p with|some P=>lx K p.1 P|none=>false)
theorem DH(h:zN K=true)(x:fW K d DI=true):∃c P,d=.ref c/\lx K c P=true/\P ∈ bS K:=by
 unfold fW at x;split at x
 .rename_i c;split at x
  .rename_i l i v n k;have m:=y4 k;have a:=be.mp h _ m;have e:tU ⟨l,i,.fields v,n⟩=true:=x;rw[e]at a;simp only[yb,lg]at a;split at a
   .rename_i P s;exact⟨c,P,rfl,a,j1.mpr ⟨_,m,s⟩⟩
   .cases a
  .cases x
 .cases x
structure TOk(w:World)(G:Str->Option P)(T:At)(D:List Df)(K:FG)(mg:SV):Prop where
 fn:∀d ∈ D,∃f fd,DOk K mg d f fd
 sc:D.all Nx=true
 un:(D.map (·.name)).Nodup
 z:∀x ∈ Hc,mg x=none
 gl:∀x v,G x=some v->ml w K mg x v
 at':N3 K (aT T)
 lam:zN K=true
 lm:∀d ∈ D,d.deep.contains (Str.ofString "<lambda>")=true->d.name=DI
theorem pV:∀{D:List Df}{d:Df},(D.map (·.name)).Nodup->d ∈ D->(D.find? λe=>decide (e.name=d.name))=some d
 | [],_,_,h=>by cases h
 |a::r,d,x,h=>by
  rw[aF,b8]at x;rcases aW.mp h with h|h
  .subst h;simp
  .have n:¬a.name=d.name:=λz=>x.1 (by rw[z];exact a_.mpr ⟨d,h,rfl⟩);rw[List.find?_cons_of_neg (by simpa using n)];exact pV x.2 h
theorem EJ{D:List Df}{x:Str}{a:Str->GF}{g:GF}(h:fT D a x=some g):∃d ∈ D,d.name=x/\d.cls.cps.isEmpty=true/\g=a x:=by
 unfold fT at h;split at h
 .rename_i c;cases h;obtain⟨d,hd,e⟩:=oy.mp c;rw[av]at e;exact⟨d,hd,bu e.1,e.2,rfl⟩
 .cases h
theorem DT(h:NK c m d=true):d.cls=c/\d.short=m/\d.cls.cps.isEmpty=false:=by unfold NK at h;simp only[av]at h;exact⟨bu h.1.1,bu h.1.2,by simpa using h.2⟩
theorem EK{D:List Df}{x:Str->GF}{c m:Str}{g:GF}(h:mT D x c m=some g):m≠("__init__":Str)/\∃d ∈ D,d.cls=c/\d.short=m/\d.cls.cps.isEmpty=false/\g=x d.name:=by
 unfold mT at h;split at h
 .cases h
 .rename_i n;obtain⟨d,q,rfl⟩:=au h;obtain⟨a,e,s⟩:=DT (yw q);exact⟨n,d,yM q,a,e,s,rfl⟩
theorem EL{D:List Df}{x:Str->GF}{c:Str}{g:GF}(h:Pt D x c=some g):∃d ∈ D,d.cls=c/\d.short=("__init__":Str)/\d.cls.cps.isEmpty=false/\g=x d.name:=by unfold Pt at h;obtain⟨d,q,rfl⟩:=au h;obtain⟨a,e,s⟩:=DT (yw q);exact⟨d,yM q,a,e,s,rfl⟩
theorem z4 {G:Str->Option P}{T:At}{D:List Df}{Pg:Program}{w:World}{K:FG}{mg:SV}{base:Heap} (Tk:TOk w G T D K mg):∀n,(∀d ∈ D,
  ∀f fd,Fun K d.short d.name d.st f fd->FnOk Pg w K mg base qh n f fd d.ps (oJ K (Lb G T D n d.name))) /\
  ∀c g,(qD G T D n).2 c=some g->∃m,n=m+1/\∃C f fd ps,gX K c C/\mg c=some (.ref C)/\Mk K C f/\FnOk Pg w K mg base qh m f fd ps (oJ K g)/\Binds K fd ps (if EX.contains c=true then [.none] else [])
 |0=>⟨λd hd f fd hF=>D',λc g h=>(by cases (show(none:Option GF)=some g from h))⟩
 |n+1=>by
  have ih:=z4 (Pg:=Pg) (w:=w) (base:=base) Tk n;refine⟨λd hd f fd hF=>?_,λc g h=>?_⟩
  .have e:Lb G T D (n+1) d.name=cond (Hu n d.name) (Lb G T D n d.name) (jl d.ps.length d.N.length (um G T D (qD G T D n) d)):=by
    show cond _ _ (match D.find? λd'=>decide (d'.name=d.name) with|some d=>jl d.ps.length d.N.length (um G T D (qD G T D n) d)|none=>λ_ _=>none)=_;rw[pV Tk.un hd];rfl
   rw[e];have hsc:=IQ (be.mp Tk.sc d hd);have XO:∀(cdv:Value),fW K cdv d.name=true->∀(A:Around)(outer:List Env)(s:Shared)(H:Y)(E':XK),Room n (A.deeper (envOfC d.name (bp d.st) s.heap.objs.size f cdv)) ->
     XOk (Pw G T D (qD G T D n) d) (vq qh Pg w K mg base d.N d.name (bp d.st) f cdv A outer s H E').nox:=fun cdv hcd A outer s H E' hr=>{
    hN:=rfl
    nd:=hsc.nd
    ks:=rfl
    kd:=hsc.kind
    calm:=rfl
    hu:=by have:=hr.un;show(A.deeper (envOfC d.name (bp d.st) s.heap.objs.size f cdv)).units+64 < _;lia
    fns:=λx g hg=>by obtain⟨d',hd',hn,hc,rfl⟩:=EJ hg;obtain⟨f',fd',h1⟩:=Tk.fn d' hd';subst hn;exact⟨n,f',fd',d'.ps,(ih.1 d' hd' f' fd' h1.fn),hr,h1.gl hc,h1.fn.kp,h1.bd⟩
    blt:=Tk.z
    glb:=Tk.gl
    attrs:=Tk.at'
    meths:=λc m g hg=>by obtain⟨hm,d',hd',rfl,rfl,hc,rfl⟩:=EK hg;obtain⟨f',fd',h1⟩:=Tk.fn d' hd';obtain⟨C,c1,c2,c3,c4,c5⟩:=h1.cl hc;exact⟨C,n,f',fd',d'.ps,c1,c3,c5 hm,(ih.1 d' hd' f' fd' h1.fn),hr,h1.bd⟩
    mks:=λc g hg=>by obtain⟨m,rfl,C,f',fd',ps,c1,c2,c3,c4,c5⟩:=ih.2 c g hg;exact⟨C,m,f',fd',ps,c1,c2,c3,c4,hr,c5⟩
    lam:=λz=>by
     have hn:=Tk.lm d hd z;rw[hn]at hcd;obtain⟨c,P,e1,e2,e3⟩:=DH Tk.lam hcd;have:=hr.dp
     exact⟨by show(A.deeper (envOfC d.name (bp d.st) s.heap.objs.size f cdv)).depth < _;lia,by show d.name++Str.ofString ".<locals>."++Str.ofString "<lambda>"=pM;rw[hn];decide,c,P,e1,e2,e3⟩ }
   refine cond_ok (p:=λg=>FnOk Pg w K mg base qh (n+1) f fd d.ps (oJ K g)) (Ki (N:=d.N) hF hsc λcdv hcd A outer s H E' hr=>?_) ((ih.1 d hd f fd hF).mono (hW n));have X:=XO cdv hcd A outer s H E' hr;unfold um;cases q:wn (KY (Pw G T D (qD G T D n) d) 60) (eB d.st) with
   |none=>exact AF.imp' λD J H hz=>by obtain⟨F,m,L,S,fl,L',S',r,l,q,k⟩:=hz;cases q
   |some b=>exact lB (λst f q=>Cb X (λ_=>rfl) PassesOwn.never 60 st f q) q
  .obtain⟨d,hd,rfl,hs,hc,rfl⟩:=EL (x:=(qD G T D n).1) h;obtain⟨f,fd,h1⟩:=Tk.fn d hd;obtain⟨C,c1,c2,c3,c4,c5⟩:=h1.cl hc;refine⟨n,rfl,C,f,fd,d.ps,c1,c2,c4 hs,(ih.1 d hd f fd h1.fn),?_⟩;by_cases hn:EX.contains d.cls=true
   .rw [ai hn];exact h1.bn hs hn
   .rw [al hn];exact h1.bd
theorem vg:∀s:List Int,b7 K F H (s.map .int) (s.map V.int)
 | []=>rfl
 |n::r=>⟨_,_,rfl,rfl,vg r⟩
theorem JU{K:FG}{H:Y}{a:Addr}{n:List Int}{g:GF}{E:XK}(e:Bn H)(S:fG K H a (n.map V.int))(h:cU g [.ro (n.map .int)]=some (.bl true)):oJ K g [.ref a] H (λv _=>v=.bl true) E:=by
 refine pk ⟨λb=>b=a/\H a≠none,[.ro (n.map .int)],.bl true,λb x=>(by rw[x.1];exact x.2),⟨_,_,rfl,⟨a,_,rfl,?_,vg n⟩,rfl⟩,h,λv F k _ r=>r⟩;rcases S with S|S
 .rcases e a with z|z|⟨o,f,z⟩
  .rcases S with S|⟨o,S⟩<;>rw[z]at S<;>cases S
  .rcases S with S|⟨o,S⟩<;>rw[z]at S<;>cases S
  .rcases S with S|⟨s,S⟩
   .rw [z]at S;cases S
   .exact .inl ⟨⟨rfl,by rw[z];exact λq=>nomatch q⟩,s,S⟩
 .exact .inr (.inr S)
open PySem L2
section
variable(L:Lc)(S:aL)
@[simp] theorem NP(i:Nat):U i L S=match L[i]? with|some (some d)=>some (d,S)|_=>none:=rfl
@[simp] theorem Nr(r:EE):dS r L S=bO (r L S) λd h=>match dM d h with|some n=>some (.int (n:Int),h)|none=>none:=by
 unfold dS;cases r L S with
 |none=>rfl
 |some z=>obtain⟨d,h⟩:=z;rw[aB,aB];cases dM d h<;>rfl
@[simp] theorem NM(i:Nat)(v:P):ar i v L=some (L.set i (some (.p v))):=rfl
end
@[simp] theorem jc(x:List B):(few x=true)=(x.length≤1000000):=by unfold few;simp
@[simp] theorem ui(n:Nat):(g6 n=true)=(n≤1000000):=by unfold g6;simp
theorem cO{B:Type}{s:List B}{i:Int}{x:B}(a:0≤i)(h:s[i.toNat]? = some x):L2.atI s i=some x:=by have l:=(aP.mp h).1;unfold L2.atI L2.AU;rw[ai a,ai (by lia)];exact h
@[simp] theorem Nf(x:B)(s:List B):L2.atI (x::s) 0=some x:=cO (by lia) rfl
@[simp] theorem NY(x y:B)(s:List B):L2.atI (x::y::s) 1=some y:=cO (by lia) rfl
@[simp] theorem NX(x y z:B)(s:List B):L2.atI (x::y::z::s) 2=some z:=cO (by lia) rfl
@[simp] theorem K_(x y z w:B)(s:List B):L2.atI (x::y::z::w::s) 3=some w:=cO (by lia) rfl
@[simp] theorem NS(x:List P)(i:Int):cF (.tup x) (.int i)=L2.atI x i:=rfl
@[simp] theorem NT(x:List P)(i:Int):cF (.lst x) (.int i)=L2.atI x i:=rfl
@[simp] theorem PK(x:List P)(i:Int):cF (.ro x) (.int i)=L2.atI x i:=rfl
@[simp] theorem NU(k:List dJ)(v:List P)(x:Str):cF (.dct k v) (.str x)=iJ (.inr x) k v:=rfl
@[simp] theorem M_(i j:Int):Ba (.int i) (.int j)=some (.bl (decide (i=j))):=rfl
@[simp] theorem M9(i j:Str):Ba (.str i) (.str j)=some (.bl (decide (i=j))):=rfl
@[simp] theorem NV(i j:Bool):Ba (.bl i) (.bl j)=some (.bl (decide (i=j))):=rfl
@[simp] theorem NR(i j:Int):Kq (.int i) (.int j)=some (.bl (!decide (i=j))):=rfl
@[simp] theorem NQ(i j:Str):Kq (.str i) (.str j)=some (.bl (!decide (i=j))):=rfl
@[simp] theorem PH(i j:Bool):Kq (.bl i) (.bl j)=some (.bl (!decide (i=j))):=rfl
@[simp] theorem M'(i j:Int):p0 (.int i) (.int j)=some (.int (i+j)):=rfl
@[simp] theorem M8(i j:Int):ug (.int i) (.int j)=if gf i j=true then some (.int (i * j)) else none:=rfl
@[simp] theorem K1(x:List P)(n:Int):nz (.tup x) (.int n)=if (g6 (x.length * n.toNat) && decide (n.natAbs < 1000000))=true then some (.tup (List.replicate n.toNat x).flatten) else none:=rfl
@[simp] theorem K2(x:Str)(n:Int):nz (.str x) (.int n)=ug (.str x) (.int n):=rfl
@[simp] theorem M7(i:Int):w9 (.int i)=some (.int (-i)):=rfl
theorem bx(a n:Nat)(b:ES)(s:List P):cU (jl a n b) s=if s.length=a then match b (s.map (λp=>some (.p p))++List.replicate (n-s.length) none) [] with
 |some (.rt d,_,S)=>(jk 9 d S).map (·.1)
 |some (.nx,_,_)=>some .non
 |_=>none else none:=by
 unfold cU jl;rw[aU,gx];by_cases h:s.length=a
 .rw [ai h,ai h];show (match AJ (b (s.map (fun p=>some (D.p p))++List.replicate (n-s.length) none) []) with
   |some (d,S)=>(jk 9 d S).map (λ(x:P×aL)=>x.1)
   |none=>none)=_
  cases b (s.map (λp=>some (D.p p))++List.replicate (n-s.length) none) [] with
  |none=>rfl
  |some z=>obtain⟨f,L,S⟩:=z;cases f<;>simp[AJ]
 .rw [al h,al h]
theorem cz{g:jS}{b:ES}{v:P}{r:List P}{L h L2:Lc}{S x:aL}(a:g v L=some h)(e:b h S=some (.nx,L2,x)):bR g b (v::r) L S=bR g b r L2 x:=by simp[bR,a,e]
section
variable(L:Lc)(S:aL)
@[simp] theorem GY(a:EV):gZ a L S=bO (a L S) λx h=>match x with | .int n=>if (decide (n.natAbs < 1000000))=true then some (intsFrom 0 n.toNat,h) else none|_=>none:=by
 unfold gZ;cases a L S with
 |none=>rfl
 |some z=>obtain⟨x,h⟩:=z;cases x<;>first|rfl|simp
@[simp] theorem MY(g:List jS)(v:List P):bZ g (.tup v) L=pR g v L:=rfl
@[simp] theorem MW:pR [] [] L=some L:=rfl
@[simp] theorem K0(g:jS)(s:List jS)(v:P)(h:List P):pR (g::s) (v::h) L=match g v L with|some a=>pR s h a|none=>none:=rfl
@[simp] theorem Oz(v:P):FT (.p v) S=wm v:=rfl
@[simp] theorem Nt(b:Bool):wm (.bl b)=some b:=rfl
@[simp] theorem LD(i:Int):wm (.int i)=some (i != 0):=rfl
@[simp] theorem Qn(x y:P):A1 (.p x) (.p y) S=(Ec x y).map .bl:=rfl
@[simp] theorem Qm(x y:P):D8 (.p x) (.p y) S=(Bo x y).map .bl:=rfl
end
@[simp] theorem NO(i j:Int):Ec (.int i) (.int j)=some (decide (i=j)):=rfl
@[simp] theorem NN(i j:Str):Ec (.str i) (.str j)=some (decide (i=j)):=rfl
@[simp] theorem PD(i j:Bool):Ec (.bl i) (.bl j)=some (decide (i=j)):=rfl
@[simp] theorem NI(i j:Int):Bo (.int i) (.int j)=some (!decide (i=j)):=rfl
@[simp] theorem NH(i j:Str):Bo (.str i) (.str j)=some (!decide (i=j)):=rfl
@[simp] theorem Pl(i j:Bool):Bo (.bl i) (.bl j)=some (!decide (i=j)):=rfl
@[simp] theorem K7(i j:Int):ky (.int i) (.int j)=some (.int (i+j)):=rfl
@[simp] theorem K5(x y:Str):ky (.str x) (.str y)=p0 (.str x) (.str y):=rfl
@[simp] theorem K6(x y:List P):ky (.lst x) (.lst y)=if g6 (x.length+y.length)=true then some (.lst (x++y)) else none:=rfl
@[simp] theorem K4(i j:Int):nz (.int i) (.int j)=if gf i j=true then some (.int (i * j)) else none:=rfl
@[simp] theorem K3(x:List P)(n:Int):nz (.lst x) (.int n)=if (g6 (x.length * n.toNat) && decide (n.natAbs < 1000000))=true then some (.lst (List.replicate n.toNat x).flatten) else none:=rfl
theorem lL(h:di 20 v=true):Bo v v=some false:=by
 unfold Bo;have e:bB (pd v) (pd v)=true:=E4 _ (fw 20 v h).1;cases q:Kq v v with
 |none=>simp[h,e]
 |some z=>
  cases v with
  |int i=>cases q;simp
  |str i=>cases q;simp
  |bl i=>cases q;simp
  |non=>cases q
  |tup _=>cases q
  |lst _=>cases q
  |ro _=>cases q
  |dct _ _=>cases h
  |obj _ _ _=>cases h
theorem zY(h:di 20 (.lst s)=true):Ec (.lst s) (.lst [])=some s.isEmpty:=by unfold Ec;have e:di 20 (.lst [])=true:=rfl;show(if (di 20 (.lst s) && di 20 (.lst []))=true then some (bB (pd (.lst s)) (pd (.lst []))) else none)=_;rw[h,e];cases s<;>rfl
theorem lM(h:di 20 (.lst s)=true):Bo (.lst s) (.lst [])=some (!s.isEmpty):=by unfold Bo;have e:di 20 (.lst [])=true:=rfl;show(if (di 20 (.lst s) && di 20 (.lst []))=true then some (!PyData.eqv (pd (.lst s)) (pd (.lst []))) else none)=_;rw[h,e];cases s<;>rfl
section
variable{L:Lc}{S:aL}
@[simp high] theorem Rg(d:D):U 0 (some d::L) S=some (d,S):=rfl
@[simp high] theorem Rf(a:Option D)(i:Nat):U (i+1) (a::L) S=U i L S:=rfl
@[simp ↓ high] theorem Rb(x y:a):(if few ([]:List B)=true then x else y)=x:=rfl
@[simp ↓ high] theorem Ra(a:B)(x y:s):(if few ([a]:List B)=true then x else y)=x:=rfl
@[simp ↓ high] theorem Q'(a h:B)(x y:s):(if few ([a,h]:List B)=true then x else y)=x:=rfl
@[simp ↓ high] theorem Q_(a h e:B)(x y:s):(if few ([a,h,e]:List B)=true then x else y)=x:=rfl
@[simp ↓ high] theorem Q9(a h e s:B)(x y:f):(if few ([a,h,e,s]:List B)=true then x else y)=x:=rfl
@[simp ↓ high] theorem Q8(a h e s n:B)(x y:f):(if few ([a,h,e,s,n]:List B)=true then x else y)=x:=rfl
@[simp ↓ high] theorem Q7(a h e s n k:B)(x y:f):(if few ([a,h,e,s,n,k]:List B)=true then x else y)=x:=rfl
@[simp ↓ high] theorem Q6(a h e s n k f:B)(x y:b):(if few ([a,h,e,s,n,k,f]:List B)=true then x else y)=x:=rfl
@[simp high] theorem Rj(v:P)(S:aL):jk 9 (.p v) S=some (v,S):=rfl
@[simp ↓ high] theorem Qt(x:Option (B×aL))(f:B->aL->Option s):bO x f=match x with|some (a,S)=>f a S|none=>none:=rfl
@[simp ↓ high] theorem Q0(x y:a):(if true=true then x else y)=x:=rfl
@[simp ↓ high] theorem Q1(x y:a):(if false=true then x else y)=y:=rfl
end
@[simp] theorem O_(a b:String):(Str.ofString a=Str.ofString b)=(a=b):=by rw[xu,xu];exact propext ⟨λh=>String.toList_inj.mp ((List.map_inj_right λ_ _=>Char.toNat_inj.mp).mp (by simpa using h)),λh=>by rw[h]⟩
end Ev
set_option tactic.hygienic false
namespace My
open PySem L2 Ev
noncomputable abbrev qp(x:P):Option D:=some (.p x)
noncomputable abbrev qi(x:Int):Option D:=some (.p (.int x))
noncomputable abbrev qs(x:Str):Option D:=some (.p (.str x))
noncomputable abbrev ql(x:List P):Option D:=some (.p (.lst x))
noncomputable abbrev qt(x:List P):Option D:=some (.p (.tup x))
noncomputable abbrev qr(x:Nat):Option D:=some (.ref x)
@[simp] abbrev vv(k:Nat):EV:=vE (U k)
@[simp] abbrev vi(i:Int):EV:=vC (.int i)
@[simp] abbrev vt(x:Str):EV:=vC (.str x)
@[simp] abbrev v1(a:EV):jx:=ae a aE
@[simp] abbrev v2(a b:EV):jx:=ae a (ae b aE)
@[simp] abbrev v3(a b c:EV):jx:=ae a (ae b (ae c aE))
@[simp] abbrev v4(a b c d:EV):jx:=ae a (ae b (ae c (ae d aE)))
@[simp] abbrev v6(a b c d e f:EV):jx:=ae a (ae b (ae c (ae d (ae e (ae f aE)))))
@[simp] abbrev v8(a b c d e f g h:EV):jx:=ae a (ae b (ae c (ae d (ae e (ae f (ae g (ae h aE)))))))
@[simp] abbrev dC(a b:EE):EB:=bV (gY A1 a b)
@[simp] abbrev m5(a b:EE):EB:=bV (gY D8 a b)
@[simp] abbrev y9:EV->EV->EV:=ce PJ
@[simp] abbrev ao:EV->EV->EV:=ce cF
@[simp] abbrev aH:EV->EV->EV:=ce w_
@[simp] abbrev Ln:EV->EV->EV:=ce PM
@[simp] abbrev B2:EV->EV->EV:=ce Ko
@[simp] abbrev mw:EV->EV->EV:=ce Km
@[simp] abbrev aC:EV->EV->EV:=ce Kr
@[simp] abbrev dA:EV->EV->EV:=ce nz
@[simp] abbrev az:EV->EV->EV:=ce ky
@[simp] abbrev Hq:EV->EV->EV:=ce PL
@[simp] abbrev fY(g:GF):jx->EV:=aN (cU g)
@[simp] abbrev kg:EV:=vE (U 1)
@[simp] abbrev dH:EV:=vE (U 0)
@[simp] abbrev mY:EV:=vE (U 3)
@[simp] abbrev uD:EV:=vE (U 4)
@[simp] abbrev nE:EV:=vE (U 6)
@[simp] abbrev uu:EV:=vE (U 8)
@[simp] abbrev uC:EV:=vE (U 5)
@[simp] abbrev uv:EV:=vE (U 7)
@[simp] abbrev y8:EV:=vE (U 9)
@[simp] abbrev kI:EV:=vE (U 2)
@[simp] abbrev lz:EV:=vE (U 12)
@[simp] abbrev mv:EV:=vE (U 13)
@[simp] abbrev iA:EV:=vC (.int 0)
@[simp] abbrev fX:EV:=vC (.int 1)
@[simp] abbrev jt:EV:=vC (.int 2)
@[simp] abbrev oH:EV:=vC (.int 4)
@[simp] abbrev mZ:EV:=vC (.int 3)
@[simp] abbrev vM:EV:=vC (.int 5)
@[simp] abbrev wc:EE:=U 1
noncomputable def IF(i:Nat):Stmt:=PySem.Challenge.pw_roadsall_k37_least_ones.main.body.getD i (.Pass ⟨0,0,0,0⟩)
noncomputable def Gv(x:Str):Option P:=if x=("NOBODY":Str) then some (.int (-1)) else none
noncomputable def Nz:LS:=["Renamer.whos_at","Renamer.standing_behind","Renamer.__init__"]
def nh(x:Str)(t k:Nat)(N o d:LS):Df:=⟨x,x,"",IF t,N,N.take k,o,d,Nz⟩
def jp:Df:=nh "_law_cell_at" 14 2 ["_law_script","_law_k"] [] []
def ny:Df:=nh "_law_mix" 15 2 ["_law_cell","_law_k","_law_turn","_law_number"] [] []
def kt:Df:=nh "_law_roads" 20 3 ["_law_script","_law_families_here","_law_room","_law_roads_here","_law_k","_law_one","_law_j","_law_other","_law_drawn","_law_kind"] ["_law_roads_here"] []
def lZ:Df:=nh "_law_name" 16 2 ["_law_script","_law_k","_law_drawn"] [] []
def kx:Df:=nh "_law_cells" 17 3 ["_law_script","_law_family_here","_law_most","_law_cells_here","_law_k","_law_drawn","_law_low","_law_high"] ["_law_cells_here"] []
def nw:Df:=nh "_law_sum" 18 2 ["_law_drawn","_law_names","_law_name_here"] [] []
def kr:Df:=nh "_law_sends" 21 6 ["_law_drawn","_law_family_here","_law_names","_law_whos","_law_roads_here","_law_most","_law_goals","_law_sends_here","_law_k","_law_some","_law_tree","_law_mark"] ["_law_sends_here"] []
def io:Df:=nh "_law_condition" 19 2 ["_law_drawn","_law_names","_law_word","_law_plain"] [] []
def lX:Df:=nh "_law_step" 22 6 ["_law_drawn","_law_family_here","_law_rooms","_law_cells_here","_law_whos","_law_roads_here","_law_names","_law_senders","_law_take","_law_free","_law_more","_law_into","_law_who","_law_changes","_law_k","_law_name_here","_law_sends_here","_law_when"] ["_law_changes"] []
def jM:Df:=nh "_law_family" 23 6 ["_law_script","_law_k","_law_name_here","_law_crew_here","_law_wide","_law_roads_here","_law_cells_here","_law_drawn","_law_rooms","_law_whos","_law_steps","_law_j","_law_first"] ["_law_steps"] []
def lY:Df:=nh "_law_plan" 24 2 ["_law_script","_law_most","_law_total","_law_wide","_law_many","_law_names","_law_roads_here","_law_families_here","_law_k","_law_name_here","_law_crew_here","_law_wishes","_law_drawn","_law_family_here"] ["_law_families_here","_law_wishes"] []
def iI:Df:=nh "_law_families" 25 1 ["_law_plan_here","_law_found","_law_family_here"] [] []
def l0:Df:=nh "_law_crew" 26 2 ["_law_plan_here","_law_name_here"] [] []
def ku:Df:=nh "_law_pairs" 27 1 ["_law_plan_here","_law_found","_law_road","_law_one","_law_other"] ["_law_found"] []
def iH:Df:=nh "_law_standing" 28 2 ["_law_script","_law_plan_here","_law_hands","_law_families_here","_law_hand","_law_family_here","_law_drawn","_law_cells_here","_law_k","_law_cell","_law_whos","_law_roads_here","_law_place","_law_pair","_law_letters","_law_number"] ["_law_cells_here","_law_hands","_law_letters","_law_roads_here","_law_whos"] []
def jq:Df:=nh "families_of" 2 1 ["plan","homes","place","family"] ["homes"] []
def lV:Df:=nh "pairs_of" 3 1 ["plan","names","pairs","road","one","name","others"] ["pairs"] []
def re:Df:=nh "begin" 4 1 ["plan","hands","place","cells","whos"] ["hands"] []
def kq:Df:=nh "renamings" 7 1 ["plan","homes","found","home","likes","longer","start"] ["longer"] []
def pZ:Df:=nh "sifted" 12 2 ["renamers","things","first"] [] []
def ke:Df:=⟨"Renamer.whos_at","whos_at","Renamer",(L2.j9 (IF 6) 1),["self","standing","place"],["self","standing","place"],["self"],[],Nz⟩
def gJ:Df:=⟨"Renamer.standing_behind","standing_behind","Renamer",(L2.j9 (IF 6) 2),["self","standing","hands","place","source","room","cells","whos"],["self","standing"],["hands","self"],[],Nz⟩
def lW:Df:=nh "least_by" 11 2 ["renamers","standing","left","owns","place"] [] []
def mO:Df:=⟨"Renamer.__init__","__init__","Renamer",(L2.j9 (IF 6) 0),["self","pairs","renaming","places","place","pair"],["self","pairs","renaming"],["places","self"],["<lambda>","places"],Nz⟩
def jo:Df:=nh "renamers_of" 10 1 ["plan","pairs"] [] []
def rc:Df:=nh "least" 9 2 ["plan","standing"] [] []
def nv:Df:=nh "renamed" 8 3 ["plan","standing","renaming"] [] []
def oQ:Df:=nh "law" 29 1 ["_law_script","_law_plan_here","_law_standing_here","_law_some","_law_others","_law_found","_law_other","_law_told"] [] []
noncomputable def Att:At:=[("Renamer",["becomes","renaming","road_sources","sources"])]
def La:List Df:=[jp,ny,kt,lZ,kx,nw,kr,io,lX,jM,lY,iI,l0,ku,iH,jq,lV,re,kq,pZ,lW,jo,rc,nv,oQ]
def Qw:List Df:=[ke,gJ,mO]
noncomputable def Tb:List Df:=La++Qw
noncomputable def Ph(n:Nat):Str->GF:=Lb Gv Att Tb n
def gp (h:Str->GF):ES:=(aD (kJ (bV (y9 kg (dS (U 0)))) (b0 (eV (ao dH kg))) m_)
  (b0 (eV iA)))
theorem jn(n:Nat):Ph (n+2) "_law_cell_at"=jl 2 2 (gp (Ph (n+1))):=by kernel_rfl
def gW(h:Str->GF):ES:=(aS 0 (eV (aH dH (vi 2147483648))))
def jQ (h:Str->GF):ES:=(aD (kJ (bV (Ln dH (B2 (vi 10) (vi 12)))) (aD (aS 0 (eV (mw (aH dH (B2 (vi 10) (vi 12))) fX)))
  (aD (cf (gZ (aC kg (vi 61))) (ar 2) (gW h))
  (b0 (eV (aC dH (vi 2147483648)))))) m_)
  (aD (aS 3 (eV (aC (dA (az (az (aC dH (vi 1000003)) (dA (dA kg kg) (vi 7919))) kg) (vi 48271)) (vi 2147483629))))
  (aD (aS 3 (eV (aC (dA mY mY) (vi 2147483587))))
  (b0 (eV (aH (aC (dA mY (az mY jt)) (vi 2147483579)) (vi 7)))))))
theorem nq(n:Nat):Ph (n+2) "_law_mix"=jl 2 4 (jQ (Ph (n+1))):=by kernel_rfl
def dg (h:Str->GF):ES:=(aD (aS 8 (eV (fY (h "_law_mix") (v2 (fY (h "_law_cell_at") (v2 dH oH)) (az (az (vi 30) (dA oH uD)) nE)))))
  (kJ (p' (bV (Hq (aC uu oH) iA)) (bV (y9 (dS (U 3)) (vi 8)))) (aD (aS 9 (eV (ao (bQ (v2 (vt "row") (vt "heap"))) (aC (aH uu oH) jt))))
  (dj (bW (U 3) (eV (bf (v6 uC uv y8 (az fX (aC (aH uu (vi 8)) kI)) (gY A1 (eV (aC (aH uu (vi 24)) mZ)) (eV fX)) (gY A1 (eV (aC (aH uu (vi 72)) mZ)) (eV fX)))))))) m_))
def fJ(h:Str->GF):ES:=(cf (iw kg) (bZ [ar 6,ar 7]) (dg h))
def kC (h:Str->GF):ES:=(aD (aS 3 (ee aE))
  (aD (cf (iw kg) (bZ [ar 4,ar 5]) (fJ h))
  (b0 (U 3))))
theorem qy(n:Nat):Ph (n+2) "_law_roads"=jl 3 10 (kC (Ph (n+1))):=by kernel_rfl
def me (h:Str->GF):ES:=(aD (aS 2 (eV (fY (h "_law_mix") (v2 (fY (h "_law_cell_at") (v2 dH fX)) kg))))
  (b0 (eV (az (dA (ao (vt "abcdefghijklmnop") kg) (az fX (aC kI oH))) (ao (vt "xyz") (aC (aH kI oH) mZ))))))
theorem uc(n:Nat):Ph (n+2) "_law_name"=jl 2 3 (me (Ph (n+1))):=by kernel_rfl
def fK (h:Str->GF):ES:=(aD (aS 5 (eV (fY (h "_law_mix") (v2 (fY (h "_law_cell_at") (v2 dH (az jt kg))) (az jt uD)))))
  (aD (aS 6 (eV (ao (bQ (v4 iA iA (KU w9 fX) vM)) (aC uC oH))))
  (aD (aS 7 (eV (az nE (ao (bQ (v4 fX jt iA fX)) (aC (aH uC oH) oH)))))
  (dj (bW (U 3) (eV (bf (v4 (fY (h "_law_name") (v2 dH (az jt uD))) nE uv (az nE (aC (aH uC (vi 16)) (az (mw uv nE) fX)))))))))))
def kE (h:Str->GF):ES:=(aD (aS 3 (ee aE))
  (aD (cf (gZ (aC (fY (h "_law_mix") (v2 (fY (h "_law_cell_at") (v2 dH (az jt kg))) fX)) (az kI fX))) (ar 4) (fK h))
  (b0 (U 3))))
theorem qA(n:Nat):Ph (n+2) "_law_cells"=jl 3 8 (kE (Ph (n+1))):=by kernel_rfl
def dQ (h:Str->GF):ES:=(aD (kJ (HX (dC wc (eV (bQ aE))) (dC (eV (aC dH vM)) (eV iA))) (b0 (eV (bf (v2 (vt "number") (aC (aH dH vM) mZ))))) m_)
  (aD (aS 2 (eV (bf (v2 (vt "name") (ao kg (aC (aH dH vM) (dS wc)))))))
  (aD (kJ (dC (eV (aC dH vM)) (eV fX)) (b0 (U 2)) m_)
  (aD (kJ (dC (eV (aC dH vM)) (eV jt)) (b0 (eV (bf (v3 (vt "plus") kI (bf (v2 (vt "number") (aC (aH dH (vi 20)) mZ))))))) m_)
  (aD (kJ (dC (eV (aC dH vM)) (eV mZ)) (b0 (eV (bf (v3 (vt "minus") (bf (v3 (vt "times") kI (bf (v2 (vt "number") (aC (aH dH (vi 20)) mZ))))) (bf (v2 (vt "number") (aC (aH dH (vi 60)) jt))))))) m_)
  (b0 (eV (bf (v3 (vt "minus") (bf (v2 (vt "number") fX)) kI)))))))))
theorem eS(n:Nat):Ph (n+2) "_law_sum"=jl 2 3 (dQ (Ph (n+1))):=by kernel_rfl
def dX (h:Str->GF):ES:=(aD (aS 9 (eV (aH dH (ao (bQ (v3 oH (vi 1000) (vi 100000))) uu))))
  (aD (aS 10 (eV (fY (h "_law_sum") (v2 (aC (aH y8 (vi 12)) (vi 300)) kI))))
  (aD (aS 11 (eV (ao (bQ (v2 (vt "ma") (vt "mb"))) (aC y8 jt))))
  (kJ (p' (m5 (U 3) (eV (bQ aE))) (dC (eV (aC (aH y8 jt) mZ)) (eV fX))) (dj (bW (U 7) (eV (bf (v4 (vv 11) (vv 10) (vt "who") (ao mY (aC (aH y8 (vi 50)) (dS (U 3))))))))) (kJ (m5 (U 6) (eV (bQ aE))) (dj (bW (U 7) (eV (bf (v4 (vv 11) (vv 10) (ao (bQ (v2 (vt "all") (vt "any"))) (dA (aC (aH y8 (vi 6)) jt) (aN cn (v1 (y9 uu jt))))) (ao nE (aC (aH y8 mZ) (dS (U 6))))))))) m_)))))
def kB (h:Str->GF):ES:=(aD (aS 6 (eV (bo (gv uD) [] 1 (ar 12) (dC (eV (ao lz iA)) wc) (ao lz fX))))
  (aD (aS 7 (ee aE))
  (aD (cf (gZ (aC dH (az uC fX))) (ar 8) (dX h))
  (b0 (U 7)))))
theorem qx(n:Nat):Ph (n+2) "_law_sends"=jl 6 12 (kB (Ph (n+1))):=by kernel_rfl
def b_ (h:Str->GF):ES:=(aD (kJ (HX (dC wc (eV (bQ aE))) (bV (y9 (aC dH vM) jt))) (b0 (eV (bf (v1 (vt "true"))))) m_)
  (aD (aS 2 (eV (ao (bQ (v6 (vt "=") (vt "!=") (vt "<") (vt "<=") (vt ">") (vt ">="))) (aC (aH dH vM) (vi 6)))))
  (aD (aS 3 (eV (bf (v4 (vt "is") kI (bf (v2 (vt "name") (ao kg (aC (aH dH (vi 30)) (dS wc))))) (fY (h "_law_sum") (v2 (aH dH (vi 90)) kg))))))
  (aD (kJ (dC (eV (aC dH vM)) (eV jt)) (b0 (eV (bf (v2 (vt "not") mY)))) m_)
  (aD (kJ (dC (eV (aC dH vM)) (eV mZ)) (b0 (eV (bf (v3 (vt "or") mY (bf (v3 (vt "and") (bf (v1 (vt "true"))) (bf (v4 (vt "is") (vt "=") (bf (v2 (vt "number") fX)) (bf (v2 (vt "name") (ao kg iA))))))))))) m_)
  (b0 (U 3)))))))
theorem cM(n:Nat):Ph (n+2) "_law_condition"=jl 2 4 (b_ (Ph (n+1))):=by kernel_rfl
def eJ (h:Str->GF):ES:=(kJ (p' (m5 (U 7) (eV (bQ aE))) (dC (eV (aC (ao dH iA) mZ)) (eV fX))) (aD (aS 11 (eV (vt "")))
  (aD (kJ (p' (m5 (U 6) (eV (bQ aE))) (dC (eV (aC (aH (ao dH iA) mZ) jt)) (eV fX))) (aD (aS 11 (eV (ao nE (KU w9 fX))))
  (aS 9 (eV (Av nE pH (ng (KU w9 fX)))))) m_)
  (aD (aS 12 (eV (vt "")))
  (aD (kJ (p' (m5 (U 4) (eV (bQ aE))) (dC (eV (aC (aH (ao dH iA) (vi 6)) jt)) (eV fX))) (aS 12 (eV (ao uD (aC (aH (ao dH iA) (vi 200)) (dS (U 4)))))) m_)
  (aD (aS 8 (eV (bf (v4 (ao (bQ (v2 (vt "ma") (vt "mb"))) (aC (aH (ao dH iA) (vi 12)) jt)) (ao uv (aC (aH (ao dH iA) (vi 24)) (dS (U 7)))) (vv 11) lz))))
  (aS 10 (eV (bQ (v1 (vt "it")))))))))) m_)
def eI(h:Str->GF):ES:=(kJ (dC (eV (aC (aH (ao dH fX) (ao (bQ (v3 fX (vi 1000) (vi 1000000))) (vv 14))) jt)) (eV fX)) (dj (bW (U 13) (eV (bf (v2 (vv 15) (fY (h "_law_sum") (v2 (aC (aH (ao dH fX) (ao (bQ (v3 jt (vi 2000) (vi 2000000))) (vv 14))) (vi 300)) (az nE (vv 10))))))))) m_)
def ma (h:Str->GF):ES:=(aD (aS 6 (eV (bo (gv mY) [] 1 (ar 18) cE (ao (vv 18) iA))))
  (aD (aS 7 (eV (bo (gv uC) [] 1 (ar 18) (dC (eV (ao (vv 18) fX)) wc) (ao (vv 18) iA))))
  (aD (aS 8 (eV (vC (.non))))
  (aD (aS 9 (eV (aN mU (v1 nE))))
  (aD (aS 10 (eV (bQ aE)))
  (aD (eJ h)
  (aD (aS 13 (ee aE))
  (aD (cf (iw y8) (bZ [ar 14,ar 15]) (eI h))
  (aD (aS 16 (eV (fY (h "_law_sends") (v6 (ao dH jt) kg (az nE (vv 10)) uD uC (az jt (aN cn (v1 (Hq (dS (U 2)) mZ))))))))
  (aD (aS 17 (eV (fY (h "_law_condition") (v2 (aC (ao dH mZ) (vi 27000)) nE))))
  (b0 (eV (bf (v6 (ao kI (aC (aH (ao dH mZ) (vi 27000)) (dS (U 2)))) (vv 17) uu mv (vv 16) (ao kI (aC (aH (ao dH mZ) (vi 216000)) (dS (U 2))))))))))))))))))
theorem ua(n:Nat):Ph (n+2) "_law_step"=jl 6 18 (ma (Ph (n+1))):=by kernel_rfl
def fD (h:Str->GF):ES:=(aD (aS 12 (eV (dA oH (az (dA (vi 8) kg) (vv 11)))))
  (aD (aS 7 (eV (bo (gZ oH) [] 1 (ar 13) cE (fY (h "_law_mix") (v2 (fY (h "_law_cell_at") (v2 dH (az vM (aC (az lz mv) (vi 24))))) (az (az (vi 11) lz) mv))))))
  (dj (bW (U 10) (eV (az (bf (v1 (fY (h "_law_name") (v2 dH (az (vi 8) (vv 11)))))) (fY (h "_law_step") (v6 uv kI uu nE y8 uC))))))))
def jR (h:Str->GF):ES:=(aD (aS 6 (eV (fY (h "_law_cells") (v3 dH kg (az jt (aN cn (v1 uD)))))))
  (aD (aS 7 (eV (fY (h "_law_mix") (v2 (fY (h "_law_cell_at") (v2 dH (az jt kg))) (vi 9)))))
  (aD (aS 8 (eV (bo (gZ (az fX (aC uv (ao (bQ (v2 mZ (vi 8))) (aN cn (v1 uD)))))) [11] 0 (ar 11) cE (fY (h "_law_name") (v2 dH (az oH (vv 11)))))))
  (aD (aS 7 (eV (fY (h "_law_mix") (v2 (fY (h "_law_cell_at") (v2 dH (az jt kg))) (vi 8)))))
  (aD (aS 9 (eV (bo (gZ (aC uv (az jt (aN cn (v1 uD))))) [11] 0 (ar 11) cE (fY (h "_law_name") (v2 dH (az (vi 10) (vv 11)))))))
  (aD (aS 10 (ee aE))
  (aD (cf (gZ (az fX (aC (fY (h "_law_mix") (v2 (fY (h "_law_cell_at") (v2 dH (az jt kg))) (vi 7))) (ao (bQ (v2 mZ (vi 8))) (aN cn (v1 uD)))))) (ar 11) (fD h))
  (b0 (eV (bf (v6 kI mY uu nE y8 (vv 10))))))))))))
theorem pX(n:Nat):Ph (n+2) "_law_family"=jl 6 13 (jR (Ph (n+1))):=by kernel_rfl
def gn (h:Str->GF):ES:=(aD (aS 10 (eV (az fX (aC (aH kI (ao (bQ (v4 oH (vi 12) (vi 16) (vi 16))) uu)) (ao (bQ (v4 (az kg (aN cn (v1 mY))) jt fX fX)) (mw uD fX))))))
  (dj (bW (U 7) (eV (fY (h "_law_family") (v6 dH uu y8 (vv 10) mY nE))))))
def gm (h:Str->GF):ES:=(aD (aS 12 (eV (fY (h "_law_mix") (v2 (fY (h "_law_cell_at") (v2 dH oH)) (az (vi 20) uu)))))
  (aD (aS 13 (z3 (U 7) (aC lz uD)))
  (dj (bW (U 11) (eV (bf (v3 (ao (bQ (v2 (vt "weak") (vt "strong"))) (aC (aH lz oH) jt)) (ao mv iA) (ao (ao (ao mv vM) (aC (aH lz (vi 8)) (dS (eV (ao mv vM))))) iA))))))))
def jg (h:Str->GF):ES:=(aD (aS 2 (eV (fY (h "_law_cell_at") (v2 dH iA))))
  (aD (aS 3 (eV (gY A1 (eV (aC (aH kI (vi 64)) (vi 8))) (eV fX))))
  (aD (aS 4 (eV (az fX (aC kI (ao (bQ (v2 jt oH)) (aN cn (v1 mY)))))))
  (aD (aS 5 (eV (bo (gZ uD) [8] 0 (ar 8) cE (fY (h "_law_name") (v2 dH uu)))))
  (aD (aS 6 (eV (fY (h "_law_roads") (v3 dH uC (az jt (aN cn (v1 mY)))))))
  (aD (aS 7 (ee aE))
  (aD (cf (iw uC) (bZ [ar 8,ar 9]) (gn h))
  (aD (aS 11 (ee aE))
  (aD (cf (gZ (az (aC (aH kI (vi 48)) mZ) (dA oH (aN cn (v1 (vB (p' (bV mY) (dC (eV (aC kI mZ)) (eV fX))))))))) (ar 8) (gm h))
  (b0 (eV (bf (v3 uv nE (vv 11))))))))))))))
theorem ub(n:Nat):Ph (n+2) "_law_plan"=jl 2 14 (jg (Ph (n+1))):=by kernel_rfl
def d5(h:Str->GF):ES:=(aS 1 (eV (az kg (dA (bQ (v1 kI)) (ao kI fX)))))
def iP (h:Str->GF):ES:=(aD (aS 1 (eV (bQ aE)))
  (aD (cf (gv (ao dH iA)) (ar 2) (d5 h))
  (b0 wc)))
theorem mM(n:Nat):Ph (n+2) "_law_families"=jl 1 3 (iP (Ph (n+1))):=by kernel_rfl
def mf(h:Str->GF):ES:=(b0 (eV (bo (iw (fY (h "_law_families") (v1 dH))) [] 2 (bZ [ar 2,ar 3]) (dC (eV (ao mY iA)) wc) kI)))
theorem ud(n:Nat):Ph (n+2) "_law_crew"=jl 2 2 (mf (Ph (n+1))):=by kernel_rfl
def dY(h:Str->GF):ES:=(kJ (m5 (U 3) (U 4)) (dj (bW wc (eV (bf (v3 kI mY uD))))) m_)
def iN(h:Str->GF):ES:=(cf (gv (fY (h "_law_crew") (v2 dH (ao kI fX)))) (ar 4) (dY h))
def iM(h:Str->GF):ES:=(cf (gv (fY (h "_law_crew") (v2 dH (ao kI iA)))) (ar 3) (iN h))
def kD (h:Str->GF):ES:=(aD (aS 1 (ee aE))
  (aD (cf (gv (ao dH fX)) (ar 2) (iM h))
  (b0 wc)))
theorem qz(n:Nat):Ph (n+2) "_law_pairs"=jl 1 5 (kD (Ph (n+1))):=by kernel_rfl
def c_(h:Str->GF):ES:=(dj (bW (U 7) (eV (az (ao y8 fX) (aC (aH nE (ao (bQ (v3 (vi 8) (vi 32) (vi 128))) uu)) (az (mw (ao y8 jt) (ao y8 fX)) fX))))))
def cZ(h:Str->GF):ES:=(dj (bW (U 10) (eV (mw (aC (aH nE (ao (bQ (v2 (vi 512) (vi 4096))) uu)) (az (dS (U 3)) fX)) fX))))
def cY (h:Str->GF):ES:=(aD (aS 6 (eV (fY (h "_law_mix") (v2 (fY (h "_law_cell_at") (v2 dH (az (vi 29) uD))) (vi 31)))))
  (aD (aS 7 (ee aE))
  (aD (cf (iw (ao uC mZ)) (bZ [ar 8,ar 9]) (c_ h))
  (aD (aS 10 (ee aE))
  (aD (cf (gZ (dS (eV (ao uC oH)))) (ar 8) (cZ h))
  (dj (bW (U 2) (eV (bf (v3 (aC nE (dS (eV (ao uC jt)))) (aN bC (v1 uv)) (aN bC (v1 (vv 10)))))))))))))
def cX (h:Str->GF):ES:=(aD (aS 15 (eV (az (mw (aC (aH nE (ao (bQ (v3 (vi 8) (vi 800) (vi 80000))) uu)) oH) fX) (ao (bQ (v4 iA (vi 997) iA (KU w9 (vi 998)))) (aC (aH nE (vi 8000000)) oH)))))
  (dj (bW (U 14) (eV (bf (v2 (ao (bQ (v2 (vt "ma") (vt "mb"))) (aC (aH nE (ao (bQ (v3 oH (vi 400) (vi 40000))) uu)) jt)) (vv 15)))))))
def cW (h:Str->GF):ES:=(aD (aS 6 (eV (fY (h "_law_mix") (v2 (fY (h "_law_cell_at") (v2 dH (az (vi 34) (aC lz (vi 20))))) (az (vi 33) (aH lz (vi 20)))))))
  (aD (aS 14 (ee aE))
  (aD (cf (gZ (aC nE (az (ao (ao mv iA) mZ) fX))) (ar 8) (cX h))
  (aD (kJ (dC (eV (ao (ao mv iA) jt)) (eV (vt "heap"))) (aS 14 (eV (ze (U 14)))) m_)
  (dj (bW (U 11) (eV (aN bC (v1 (vv 14))))))))))
def fI (h:Str->GF):ES:=(aD (aS 2 (ee aE))
  (aD (aS 3 (eV (fY (h "_law_families") (v1 kg))))
  (aD (cf (iw mY) (bZ [ar 4,ar 5]) (cY h))
  (aD (aS 11 (ee aE))
  (aD (cf (iw (fY (h "_law_pairs") (v1 kg))) (bZ [ar 12,ar 13]) (cW h))
  (b0 (eV (bf (v2 (aN bC (v1 kI)) (aN bC (v1 (vv 11))))))))))))
theorem mL(n:Nat):Ph (n+2) "_law_standing"=jl 2 16 (fI (Ph (n+1))):=by kernel_rfl
def eN(h:Str->GF):ES:=(dj (lU wc (dA (bQ (v1 kI)) (ao mY fX))))
def js (h:Str->GF):ES:=(aD (aS 1 (ee aE))
  (aD (cf (iw (ao dH iA)) (bZ [ar 2,ar 3]) (eN h))
  (b0 wc)))
theorem nP(n:Nat):Ph (n+2) "families_of"=jl 1 4 (js (Ph (n+1))):=by kernel_rfl
def eC (h:Str->GF):ES:=(kJ (dC (U 5) (eV (ao mY iA))) (aD (aS 6 (eV (bo (gZ (dS wc)) [] 1 (ar 7) (p' (m5 (U 7) (U 4)) (dC (eV (ao kg uv)) (eV (ao mY fX)))) uv)))
  (dj (lU (U 2) (bo (gv nE) [] 1 (ar 7) cE (bf (v3 mY uD uv)))))) m_)
def jr(h:Str->GF):ES:=(cf (iw kg) (bZ [ar 4,ar 5]) (eC h))
def l_ (h:Str->GF):ES:=(aD (aS 1 (eV (bo (gv (fY (h "families_of") (v1 dH))) [] 1 (ar 7) cE (ao (ao (ao dH iA) uv) iA))))
  (aD (aS 2 (ee aE))
  (aD (cf (gv (ao dH fX)) (ar 3) (jr h))
  (b0 (U 2)))))
theorem t8(n:Nat):Ph (n+2) "pairs_of"=jl 1 7 (l_ (Ph (n+1))):=by kernel_rfl
def jh (h:Str->GF):ES:=(aD (aS 3 (eV (ao (ao (ao dH iA) kI) mZ)))
  (aD (aS 4 (eV (ao (ao (ao dH iA) kI) oH)))
  (dj (bW wc (eV (bf (v3 iA (aN bC (v1 (bo (gv mY) [] 1 (ar 5) cE (ao uC mZ)))) (dA (bf (v1 (vi (-1)))) (dS (U 4))))))))))
def rG (h:Str->GF):ES:=(aD (aS 1 (ee aE))
  (aD (cf (gv (fY (h "families_of") (v1 dH))) (ar 2) (jh h))
  (b0 (eV (bf (v2 (aN bC (v1 kg)) (dA (bf (v1 (bf aE))) (dS (eV (fY (h "pairs_of") (v1 dH)))))))))))
theorem A7(n:Nat):Ph (n+2) "begin"=jl 1 5 (rG (Ph (n+1))):=by kernel_rfl
def mW(h:Str->GF):ES:=(dj (lU (U 5) (bo (gv (vE (U 4))) [] 1 (ar 7) (bV (gY t5 (U 7) (U 6))) (ce ky (vE (U 6)) (bf (ae (vE (U 7)) aE))))))
def iL (h:Str->GF):ES:=(aD (aS 4 (eV (bo (gZ (dS (U 1))) [] 1 (ar 7) (bV (gY A1 (eV (ce cF (vE (U 1)) (vE (U 7)))) (U 3))) (vE (U 7)))))
  (aD (aS 5 (ee aE))
  (aD (cf (gv (vE (U 2))) (ar 6) (mW h))
  (aS 2 (U 5)))))
def iz (h:Str->GF):ES:=(aD (aS 1 (eV (aN (cU (h "families_of")) (ae (vE (U 0)) aE))))
  (aD (aS 2 (eV (bQ (ae (bf aE) aE))))
  (aD (cf (gv (vE (U 1))) (ar 3) (iL h))
  (b0 (U 2)))))
theorem qw(n:Nat):Ph (n+2) "renamings"=jl 1 7 (iz (Ph (n+1))):=by kernel_rfl
def je (h:Str->GF):ES:=(aD (kJ (bV (gY A1 (eV (dS (U 0))) (eV (vC (.int 1))))) (b0 (U 0)) m_)
  (aD (aS 2 (eV (aN jN (ae (vE (U 1)) aE))))
  (b0 (eV (bo (MO (vE (U 0)) (vE (U 1))) [] 2 (bZ [ar 3,ar 4]) (bV (gY A1 (U 4) (U 2))) (vE (U 3)))))))
theorem pW(n:Nat):Ph (n+2) "sifted"=jl 2 3 (je (Ph (n+1))):=by kernel_rfl
def d6(h:Str->GF):ES:=(b0 (eV (aN bC (ae (bo (gv (ce cF (ce cF (ce cF (vE (U 1)) (vC (.int 0))) (vE (z3 (dW (aT Att) (U 0) "sources") (vE (U 2))))) (vC (.int 2)))) [] 1 (ar 3) cE (vE (z3 (dW (aT Att) (U 0) "becomes") (vE (U 3))))) aE))))
theorem kc(n:Nat):Ph (n+2) "Renamer.whos_at"=jl 3 3 (d6 (Ph (n+1))):=by kernel_rfl
def bA (h:Str->GF):ES:=(aD (IS (bZ [ar 5,ar 6,ar 7]) (ce cF (ce cF (vE (U 1)) (vC (.int 0))) (vE (U 4))))
  (dj (bW (U 2) (eV (bf (ae (vE (U 5)) (ae (vE (U 6)) (ae (vE (fC (mT Tb h) (U 0) "whos_at" (bj (U 1) (bj (U 3) dq)))) aE))))))))
def cq (h:Str->GF):ES:=(aD (aS 2 (ee aE))
  (aD (cf (iw (vE (dW (aT Att) (U 0) "sources"))) (bZ [ar 3,ar 4]) (bA h))
  (b0 (eV (bf (ae (aN bC (ae (vE (U 2)) aE)) (ae (aN bC (ae (bo (gv (vE (dW (aT Att) (U 0) "road_sources"))) [4] 0 (ar 4) cE (ce cF (ce cF (vE (U 1)) (vC (.int 1))) (vE (U 4)))) aE)) aE)))))))
theorem gH(n:Nat):Ph (n+2) "Renamer.standing_behind"=jl 2 8 (cq (Ph (n+1))):=by kernel_rfl
def eE (h:Str->GF):ES:=(aD (aS 2 (eV (aN (cU (h "sifted")) (ae (vE (U 2)) (ae (bo (gv (vE (U 2))) [] 1 (ar 5) cE (ce cF (vE (U 3)) (ce cF (vE (dW (aT Att) (U 5) "sources")) (vE (U 4))))) aE)))))
  (aS 2 (eV (aN (cU (h "sifted")) (ae (vE (U 2)) (ae (bo (gv (vE (U 2))) [] 1 (ar 5) cE (vE (fC (mT Tb h) (U 5) "whos_at" (bj (U 1) (bj (U 4) dq))))) aE))))))
def eD(h:Str->GF):ES:=(aS 2 (eV (aN (cU (h "sifted")) (ae (vE (U 2)) (ae (bo (gv (vE (U 2))) [] 1 (ar 5) cE (ce cF (ce cF (vE (U 1)) (vC (.int 1))) (ce cF (vE (dW (aT Att) (U 5) "road_sources")) (vE (U 4))))) aE)))))
def jf (h:Str->GF):ES:=(aD (aS 2 (U 0))
  (aD (aS 3 (eV (bo (gv (ce cF (vE (U 1)) (vC (.int 0)))) [] 1 (ar 5) cE (Av (vE (U 5)) pH (ng (vC (.int 2)))))))
  (aD (cf (gZ (dS (U 3))) (ar 4) (eE h))
  (aD (cf (gZ (dS (eV (ce cF (vE (U 1)) (vC (.int 1)))))) (ar 4) (eD h))
  (b0 (eV (bf (ae (vE (fC (mT Tb h) (eV (ce cF (vE (U 2)) (vC (.int 0)))) "standing_behind" (bj (U 1) dq))) (ae (vE (dW (aT Att) (eV (ce cF (vE (U 2)) (vC (.int 0)))) "renaming")) aE)))))))))
theorem t_(n:Nat):Ph (n+2) "least_by"=jl 2 5 (jf (Ph (n+1))):=by kernel_rfl
def d7(h:Str->GF):ES:=(CA (U 3) (ae (ce cF (vE (U 2)) (ce cF (vE (U 5)) (vC (.int 1)))) (ae (ce cF (vE (U 2)) (ce cF (vE (U 5)) (vC (.int 2)))) aE)) (vE (U 4)))
def fL (h:Str->GF):ES:=(aD (lF (aT Att) (U 0) "renaming" (U 2))
  (aD (lF (aT Att) (U 0) "becomes" (eV (ce ky (vE (U 2)) (bf (ae (vC (.int (-1))) aE)))))
  (aD (lF (aT Att) (U 0) "sources" (eV (uI 2 (dS (U 2)))))
  (aD (aS 3 ue)
  (aD (cf (iw (vE (U 1))) (bZ [ar 4,ar 5]) (d7 h))
  (lF (aT Att) (U 0) "road_sources" (eV (bo (gv (vE (U 1))) [5] 0 (ar 5) cE (vE (Ed (U 3) (ae (ce cF (vE (U 5)) (vC (.int 1))) (ae (ce cF (vE (U 5)) (vC (.int 2))) aE))))))))))))
theorem mN(n:Nat):Ph (n+2) "Renamer.__init__"=jl 3 6 (fL (Ph (n+1))):=by kernel_rfl
def gk (h x:Str->GF):ES:=(aD (aS 1 (eV (aN (cU (h "pairs_of")) (ae (vE (U 0)) aE))))
  (b0 (eV (bo (gv (aN (cU (h "renamings")) (ae (vE (U 0)) aE))) [] 1 (ar 2) cE (vE (il (x "Renamer.__init__") "Renamer" (bj (U 1) (bj (U 2) dq))))))))
theorem nO(n:Nat):Ph (n+2) "renamers_of"=jl 1 2 (gk (Ph (n+1)) (Ph n)):=by kernel_rfl
def rF(h:Str->GF):ES:=(b0 (eV (aN (cU (h "least_by")) (ae (aN (cU (h "renamers_of")) (ae (vE (U 0)) aE)) (ae (vE (U 1)) aE)))))
theorem A6(n:Nat):Ph (n+2) "least"=jl 2 2 (rF (Ph (n+1))):=by kernel_rfl
def jP(h x:Str->GF):ES:=(b0 (fC (mT Tb h) (il (x "Renamer.__init__") "Renamer" (bj (eV (aN (cU (h "pairs_of")) (ae (vE (U 0)) aE))) (bj (U 2) dq))) "standing_behind" (bj (U 1) dq)))
theorem vp(n:Nat):Ph (n+2) "renamed"=jl 3 3 (jP (Ph (n+1)) (Ph n)):=by kernel_rfl
def kU (h:Str->GF):ES:=(aD (aS 7 (eV (aN (cU (h "least")) (ae (vE (U 1)) (ae (vE (U 6)) aE)))))
  (kJ (HX (bV (gY D8 (eV (ce cF (vE (U 7)) (vC (.int 0)))) (eV (ce cF (vE (U 5)) (vC (.int 0)))))) (bV (gY D8 (eV (aN (cU (h "renamed")) (ae (vE (U 1)) (ae (vE (U 6)) (ae (ce cF (vE (U 7)) (vC (.int 1))) aE))))) (eV (ce cF (vE (U 5)) (vC (.int 0))))))) (b0 (eV (vC (.bl false)))) m_))
def kT (h:Str->GF):ES:=(aD (aS 3 (eV (aN (cU (h "renamings")) (ae (vE (U 1)) aE))))
  (aD (aS 4 (eV (bo (gv (vE (U 3))) [] 1 (ar 8) cE (aN (cU (h "renamed")) (ae (vE (U 1)) (ae (vE (U 2)) (ae (vE (U 8)) aE)))))))
  (aD (aS 5 (eV (aN (cU (h "least")) (ae (vE (U 1)) (ae (vE (U 2)) aE)))))
  (aD (kJ (HX (EH (bT (eV (zf "tuple" (U 5))))) (HX (bV (gY D8 (eV (dS (U 5))) (eV (vC (.int 2))))) (bV (gY D8 (eV (ce cF (vE (U 5)) (vC (.int 0)))) (eV (aN jN (ae (vE (U 4)) aE))))))) (b0 (eV (vC (.bl false)))) m_)
  (aD (kJ (bV (gY D8 (eV (ce cF (vE (U 5)) (vC (.int 1)))) (eV (ce cF (vE (U 3)) (Ix (vE (U 4)) (ce cF (vE (U 5)) (vC (.int 0)))))))) (b0 (eV (vC (.bl false)))) m_)
  (aD (cf (gv (vE (U 4))) (ar 6) (kU h))
  (kJ (bV (gY D8 (eV (aN (cU (h "least")) (ae (vE (U 1)) (ae (ce cF (vE (U 5)) (vC (.int 0))) aE)))) (eV (bf (ae (ce cF (vE (U 5)) (vC (.int 0))) (ae (ce cF (vE (U 3)) (vC (.int 0))) aE)))))) (b0 (eV (vC (.bl false)))) m_)))))))
def uq (h:Str->GF):ES:=(aD (aS 1 (eV (aN (cU (h "_law_plan")) (ae (vE (U 0)) (ae (vC (.int 3)) aE)))))
  (aD (cf (gv (bQ (ae (aN (cU (h "_law_standing")) (ae (vE (U 0)) (ae (vE (U 1)) aE))) (ae (aN (cU (h "begin")) (ae (vE (U 1)) aE)) aE)))) (ar 2) (kT h))
  (b0 (eV (vC (.bl true))))))
theorem G6(n:Nat):Ph (n+2) "law"=jl 1 8 (uq (Ph (n+1))):=by kernel_rfl
variable{a:Type}{m:List a}{n:Nat}
theorem Pp(h:m.length=n+1):∃a r,m=a::r/\r.length=n:=by
 cases m with
 |nil=>cases h
 |cons a r=>exact⟨a,r,rfl,Nat.succ.inj h⟩
theorem QW(h:m.length=1):∃a,m=[a]:=by obtain⟨a,r,rfl,x⟩:=Pp h;exact⟨a,by rw[hV x]⟩
theorem Qi(h:m.length=2):∃a b,m=[a,b]:=by obtain⟨a,r,rfl,x⟩:=Pp h;obtain⟨b,rfl⟩:=QW x;exact⟨a,b,rfl⟩
theorem Qh(h:m.length=3):∃a b c,m=[a,b,c]:=by obtain⟨a,r,rfl,x⟩:=Pp h;obtain⟨b,c,rfl⟩:=Qi x;exact⟨a,b,c,rfl⟩
theorem uA:∀{s:LS}{m:LV},s.Nodup->m.length=s.length->(s.filterMap λn=>((s.zip m).lookup n).map (n,·))=s.zip m/\∀n ∈ s,((s.zip m).lookup n).isNone=false
 | [],m,_,l=>by cases hV l;simp
 |p::s,[],_,l=>by cases l
 |p::s,u::m,x,l=>by
  obtain⟨k,f⟩:=b8.mp x;obtain⟨i,t⟩:=uA f (Nat.succ.inj l);have a:∀n ∈ s,(n == p)=false:=λn h=>beq_false_of_ne λz=>k (z ▸ h);refine⟨?_,λn r=>?_⟩
  .have c:∀{qs:LS},(∀n ∈ qs,(n == p)=false)->(qs.filterMap λn=>(((p,u)::s.zip m).lookup n).map (n,·))=qs.filterMap λn=>((s.zip m).lookup n).map (n,·):=λ{qs} h=>by
    induction qs with
    |nil=>rfl
    |cons q qs v=>rw[lq,lq,v λn x=>h n (aR _ x)];simp[e_,h q aO]
   rw[yD,List.filterMap_cons_some (b:=(p,u)) (by simp[List.lookup_cons_self]),c a,i]
  .rw [yD];by_cases e:n=p
   .subst e;simp[e_]
   .simp only[e_,beq_false_of_ne e];exact t n ((aW.mp r).resolve_left e)
noncomputable def wD(a:Arguments)(p:LS):Bool:=a.posonlyargs.isEmpty && a.kwonlyargs.isEmpty && a.vararg.isNone && a.kwarg.isNone && decide (a.args.map (·.arg)=p) && decide p.Nodup
theorem EC{f:FuncData}{p:LS}(h:wD f.params p=true)(hd:f.defaults=.none){m:LV}(l:m.length=p.length):bindArgs f ⟨m,[]⟩=pure (p.zip m):=by
 simp only[wD,av,qE,lp,Option.isNone_iff_eq_none]at h;obtain⟨⟨⟨⟨⟨x,a⟩,e⟩,s⟩,k⟩,b⟩:=h;obtain⟨t,q⟩:=uA b l;have c:(p.filter λn=>((p.zip m).lookup n).isNone)=[]:=List.filter_eq_nil_iff.mpr λn r=>by simp[q n r]
 have v:p.take p.length=p:=yA;have z:p.drop p.length=[]:=sm;unfold bindArgs;simp only[x,a,e,s,k,hd,gy,fh,dR,l];simp[seqItems?,c,t,z];rfl
theorem sc:Tb.all Nx=true:=by decide +kernel
theorem un:(Tb.map (·.name)).Nodup:=by decide +kernel
inductive Fn(K:FG)(x:Str)(st:Stmt):Prop
 |mk (f:Addr) (oc:Value) (od:Option Addr) (kV dc pm:Value) (an:Option Addr) (cd ct:Value) (sl:Array (OV)):j6 K mainGlobals x=some (some (.ref f))->K.lookup f=some ⟨oc,od,.func (fV x x (gI st) (eB st) (bp st) .none kV dc pm an cd ct),sl⟩->fW K cd x=true->em K (.ref f)=true->Fn K x st
def JB(d:Df):Bool:=d.cls.cps.isEmpty && decide (d.short=d.name) && !EX.contains d.cls && wD (gI d.st) d.ps
theorem Pk:La.all JB=true:=by decide +kernel
structure Ck(K:FG)(x:Str)(C:Addr):Prop where
 ns:j6 K mainGlobals x=some (some (.ref C))
 get:ly K C Str.empty=true
 dct:oG K C=true
 ovr:sU K C=true
 set:dN K (.ref C) "__setattr__"=some (some (.builtin "object.__setattr__"))
 mak:sR K C=true
 kp:em K (.ref C)=true
inductive Mt(K:FG)(C:Addr)(st:Stmt)(m q:Str)(dV:Value):Prop
 |mk (f:Addr) (oc:Value) (od:Option Addr) (kV dc pm:Value) (an:Option Addr) (cd ct:Value) (sl:Array (OV)):dN K (.ref C) m=some (some (.ref f))->oD K (.ref f)=true->K.lookup f=some ⟨oc,od,.func (fV m q (gI st) (eB st) (bp st) dV kV dc pm an cd ct),sl⟩->fW K cd q=true->em K (.ref f)=true->Mt K C st m q dV
section
variable{K:FG}{h:Heap}{b:SV}(X:K.In h)(G:h.Ns mainGlobals b)
include X G
theorem dk{d:Df}(H:Fn K d.name d.st)(p:JB d=true):∃f s,DOk K b d f s:=by obtain⟨x,P,e,st,N,S,y,i,F⟩:=d;simp only[JB,av,sg,qE]at p;obtain⟨⟨⟨n,rfl⟩,r⟩,t⟩:=p;obtain⟨f,o,j,kV,g,z,v,w,u,A,a,l,c,k⟩:=H;exact⟨_,_,⟨D9 l c k,.all λm q=>EC t rfl q,λ_=>⟨_,_,_,_,_,_,rfl⟩,λ_ (h:EX.contains e=true)=>absurd h (by rw[r];decide),λ_=>sO X G a,λ(h:e.cps.isEmpty=false)=>absurd h (by rw[n];decide)⟩⟩
theorem dm(c:Ck K x C)(M:Mt K C st e q r)(j:x.cps.isEmpty=false)
  (m:∀(kV o p:Value)(n:Option Addr)(d t:Value),Binds K (fV e q (gI st) (eB st) (bp st) r kV o p n d t) u []/\(e=("__init__":Str)->EX.contains x=true->Binds K (fV e q (gI st) (eB st) (bp st) r kV o p n d t) u [.none])):∃f i,DOk K b ⟨q,e,x,st,N,u,A,y,B⟩ f i:=by
 obtain⟨f,H,S,kV,s,p,n,h,t,F,a,w,l,g,k⟩:=M;have v:x.cps.isEmpty=true->False:=λz=>by rw[j]at z;cases z
 exact⟨_,_,⟨D9 l g k,(m kV s p n h t).1,λz=>(v z).elim,(m kV s p n h t).2,λz=>(v z).elim,λ_=>⟨C,c.ns,sO X G c.ns,⟨c.get,c.dct,c.ovr,c.set⟩,λz=>⟨c.mak,z ▸ a,w,c.kp⟩,λ_=>⟨a,w,k⟩⟩⟩⟩
end
def Gi(K:FG)(x:Str)(i:Int):Prop:=∃t,j6 K mainGlobals x=some (some (.int i t))
variable{x:Str}
theorem MX(X:K.In h)(G:h.Ns mainGlobals b){i:Int}(H:Gi K x i):ml w K b x (.int i):=by obtain⟨t,a⟩:=H;exact .plain ⟨_,.int i,sO X G a,⟨_,rfl⟩,λ_ _=>rfl⟩ rfl
structure RenOk(K:FG)(C:Addr):Prop where
 ck:Ck K "Renamer" C
 a_becomes:dN K (.ref C) "becomes"=some none
 a_renaming:dN K (.ref C) "renaming"=some none
 a_road_sources:dN K (.ref C) "road_sources"=some none
 a_sources:dN K (.ref C) "sources"=some none
 m_whos_at:Mt K C (L2.j9 (IF 6) 1) "whos_at" "Renamer.whos_at" .none
 m_standing_behind:Mt K C (L2.j9 (IF 6) 2) "standing_behind" "Renamer.standing_behind" .none
 m_init:Mt K C (L2.j9 (IF 6) 0) "__init__" "Renamer.__init__" .none
theorem QX:(Tb.all λd=>!d.deep.contains (Str.ofString "<lambda>") ||decide (d.name=DI))=true:=by decide +kernel
set_option tactic.hygienic true in
theorem FY(k:(PySem.W.kmHook K i e u).says w h)(l:zN (K w.params)=true)(p:((bS (K w.params)).all λP=>u.contains P)=true) :
  ∀P ∈ bS (K w.params),h.get? P=some (lw #[])/\∃c,lv h c P:=λP f=>by
 refine⟨PySem.W.km_tabs_of k P (by simpa using be.mp p P f),?_⟩;obtain⟨⟨c,o⟩,m,x⟩:=j1.mp f;have a:=be.mp l _ m;have b:tU o=true:=by
  unfold Cf at x;split at x
  .rename_i v hd;split at x
   .rename_i q t g n j;split at x
    .rename_i r;unfold tU;have d:o.data=.fields v:=hd;rw[d];obtain⟨s⟩:=v;match s,n with
     |_::_::_,n=>cases (show _=_ from du n);simpa using r
    .cases x
   .cases x
  .cases x
 rw[b]at a;simp only[yb,lg]at a;rw[x]at a;exact⟨c,y1 (PySem.W.km_in_of k) a⟩
open PySem.W in
theorem KH{w:World}{K:Frag}{h:Heap}{b:SV}(X:K.In h)(G:h.Ns mainGlobals b){C:Addr}(a:RenOk K C)
  (q:∀d ∈ La,Fn K d.name d.st) (l:zN K=true)
  (g:Gi K "NOBODY" (-1)) (z:∀x ∈ Hc,nsIn K mainGlobals x=some none):TOk w Gv Att Tb K b:=by
 refine⟨λd hd=>?_,sc,un,λx k=>mg_none_of X G (z x k),λx v n=>?_,λc f p=>?_,l,λd hd u=>?_⟩
 .rcases fO.mp hd with hd|hd
  .exact dk X G (q d hd) (be.mp Pk d hd)
  simp only[Qw,aW,cm,eX]at hd;rcases hd with rfl|rfl|rfl;all_goals first
   |exact dm X G a.ck a.m_whos_at (by decide +kernel) λ_ _ _ _ _ _=>⟨.all λm l=>by obtain⟨_,_,_,rfl⟩:=Qh l;rfl,λh s=>by first|exact absurd h (by decide +kernel)|exact absurd s (by decide +kernel)⟩
   |exact dm X G a.ck a.m_standing_behind (by decide +kernel) λ_ _ _ _ _ _=>⟨.all λm l=>by obtain⟨_,_,rfl⟩:=Qi l;rfl,λh s=>by first|exact absurd h (by decide +kernel)|exact absurd s (by decide +kernel)⟩
   |exact dm X G a.ck a.m_init (by decide +kernel) λ_ _ _ _ _ _=>⟨.all λm l=>by obtain⟨_,_,_,rfl⟩:=Qh l;rfl,λh s=>by first|exact absurd h (by decide +kernel)|exact absurd s (by decide +kernel)⟩
 .unfold Gv at n;by_cases e:x=("NOBODY":Str)
  .subst e;rw[ai rfl]at n;cases n;exact MX X G g
  .rw [al e]at n;cases n
 .obtain⟨x,k,e⟩:=oy.mp p;rw[av]at e;have t:=bu e.1;have r:f ∈ x.2:=by simpa using e.2
  subst t;simp only[Att,aW,cm,eX]at k;rcases k with rfl
  .simp only[aW,cm,eX]at r;rcases r with rfl|rfl|rfl|rfl
   .exact⟨_,a.ck.ns,⟨a.ck.get,a.ck.dct,a.ck.ovr,a.ck.set⟩,a.a_becomes⟩
   .exact⟨_,a.ck.ns,⟨a.ck.get,a.ck.dct,a.ck.ovr,a.ck.set⟩,a.a_renaming⟩
   .exact⟨_,a.ck.ns,⟨a.ck.get,a.ck.dct,a.ck.ovr,a.ck.set⟩,a.a_road_sources⟩
   .exact⟨_,a.ck.ns,⟨a.ck.get,a.ck.dct,a.ck.ovr,a.ck.set⟩,a.a_sources⟩
 .have:=be.mp QX d hd;rw[u]at this;simpa using this
theorem log2_small{i:Int}(h:i.natAbs < 2 ^ 60):i.natAbs.log2 < 60:=by
 by_cases e:i.natAbs=0
 .rw [e];decide
 .exact (yQ e).mpr h
theorem bY{i j:Int}(h:i.natAbs < 2 ^ 60)(x:j.natAbs < 2 ^ 60):gf i j=true:=by unfold gf;have a:=log2_small h;have b:=log2_small x;exact jy (by lia)
def strOk(x:Str):Prop:=aA x=true
@[simp] theorem NF(n:Nat)(i:Int):di n (.int i)=true:=by cases n<;>rfl
@[simp] theorem Pj(n:Nat)(i:Bool):di n (.bl i)=true:=by cases n<;>rfl
@[simp] theorem ND(n:Nat):di n .non=true:=by cases n<;>rfl
@[simp] theorem NC(n:Nat)(x:Str):di n (.str x)=aA x:=by cases n<;>rfl
@[simp] theorem NB(n:Nat)(s:List P):di (n+1) (.tup s)=s.all (di n):=rfl
@[simp] theorem NE(n:Nat)(s:List P):di (n+1) (.lst s)=s.all (di n):=rfl
theorem QV(h:∀x ∈ s,di n x=true):di (n+1) (.lst s)=true:=be.mpr h
@[simp] theorem zL(c:Nat):lf ⟨#[c]⟩=1:=rfl
theorem AB(h:strOk x)(a:strOk y):strOk (x++y):=by show(x.cps++y.cps).all (λc=>decide (c < 0x110000))=true;rw[yf,av];exact⟨h,a⟩
theorem AA(e:strOk x)(n:Nat):strOk (dO x n):=by
 have k:∀(n:Nat)(a:Array Nat),a.all (λc=>decide (c < 0x110000))=true->((List.replicate n x.cps).foldl (·++·) a).all (λc=>decide (c < 0x110000))=true:=by
  intro n;induction n with
  |zero=>intro a h;exact h
  |succ n i=>intro a h;rw[cA,ff];exact i _ (by rw[yf,av];exact⟨h,e⟩)
 exact k n #[] (by simp)
variable{k:Int}
theorem Ep(f:strOk x)(a:0≤k)(s:k < x.length)(n:x.length≤1000000):∃c,strOk ⟨#[c]⟩/\cF (.str x) (.int k)=some (.str ⟨#[c]⟩):=by
 have l:k.toNat < x.cps.toList.length:=by simp only[jV];unfold lf at s;lia
 have h:k.toNat < x.cps.size:=by simpa using l
 refine⟨x.cps.toList[k.toNat],?_,?_⟩
 .have:=Array.all_eq_true.mp f k.toNat h;show(#[x.cps.toList[k.toNat]].all λc=>decide (c < 0x110000))=true;simpa using this
 .have e:L2.atI x.cps.toList k=some (x.cps.toList[k.toNat]):=cO a (by simp[h]);show(if g6 x.length=true then (L2.atI x.cps.toList k).map λc=>P.str ⟨#[c]⟩ else none)=_;rw[ai (by simp only[ui];exact n),e];rfl
theorem Bb(h:x.length+y.length≤1000000):p0 (.str x) (.str y)=some (.str (x++y)):=by show(if g6 (x.length+y.length)=true then some (P.str (x++y)) else none)=_;rw[ai (by rw[ui];exact h)]
variable{s:List a}
theorem eh(h:s≠[])(a:Int):∃x ∈ s,L2.atI s (a % (s.length:Int))=some x:=by
 have l:(0:Int) < (s.length:Int):=by cases s with|nil=>exact absurd rfl h|cons _ _=>simp
 have e:=ci a (Int.ne_of_gt l);have n:=cJ a l;have k:(a % (s.length:Int)).toNat < s.length:=by lia
 exact⟨s[(a % (s.length:Int)).toNat],ej _,cO e (by simp[k])⟩
theorem xi(h:0≤k)(e:k < (s.length:Int)):∃x ∈ s,L2.atI s k=some x:=by
 have a:k.toNat < s.length:=by lia
 exact⟨s[k.toNat],ej _,cO h (by simp[a])⟩
theorem atI_last(h:s≠[]):∃x ∈ s,L2.atI s (-1)=some x:=by
 have l:0 < s.length:=sG.mpr h;refine⟨s[s.length-1],ej _,?_⟩;unfold L2.atI L2.AU;rw[al (by lia),ai (by lia)];have e:(-1+(s.length:Int)).toNat=s.length-1:=by lia
 simp[e,l]
theorem bJ{g:jS}{b:ES}{Inv:Nat->Lc->aL->Prop}:∀{s:List P}{k:Nat}{L:Lc}{S:aL},(∀i v L S,s[i]? = some v->Inv (k+i) L S->∃f L2 n,g v L=some f/\b f S=some (.nx,L2,n)/\Inv (k+i+1) L2 n)->Inv k L S ->
  ∃x a,bR g b s L S=some (.nx,x,a)/\Inv (k+s.length) x a
 | [],k,L,S,_,h=>⟨L,S,rfl,h⟩
 |v::r,k,L,S,c,h=>by
  obtain⟨f,L2,n,m,t,d⟩:=c 0 v L S rfl h;obtain⟨x,a,p,u⟩:=bJ (g:=g) (b:=b) (Inv:=Inv) (s:=r) (k:=k+1) (L:=L2) (S:=n) (λi w L S e q=>by have:=c (i+1) w L S (by simpa using e) (by rw[show k+(i+1)=k+1+i by lia];exact q);rwa [show k+(i+1)+1=k+1+i+1 by lia]at this) d
  exact⟨x,a,by rw[cz m t];exact p,by rw[aX,show k+(r.length+1)=k+1+r.length by lia];exact u⟩
theorem mR{g:jS}{c:EB}{e:EV}{Inv:Lc->Prop}{Q:P->Prop}{S:aL}:∀{s:List P}{L:Lc},(∀v ∈ s,∀L,Inv L->∃x k,g v L=some x/\Inv x/\c x S=some (k,S)/\(k=true->∃y,e x S=some (y,S)/\Q y))->Inv L ->
  ∃a,bt g c e s L S=some (a,S)/\(∀y ∈ a,Q y)/\a.length≤s.length
 | [],L,_,h=>⟨[],rfl,λ_ z=>(by cases z),ag _⟩
 |v::r,L,t,h=>by
  obtain⟨x,k,n,i,f,d⟩:=t v aO L h;obtain⟨a,b,m,j⟩:=mR (s:=r) (L:=x) (λw hw=>t w (aR _ hw)) i;cases k with
  |false=>exact⟨a,by simp[bt,n,f,b],m,by simp;lia⟩
  |true=>obtain⟨y,p,q⟩:=d rfl;exact⟨y::a,by simp[bt,n,f,b,p],λz u=>(aW.mp u).elim (λe=>e ▸ q) (m z),by simp;lia⟩
theorem kQ{g:jS}{e:EV}{Inv:Lc->Prop}{Q:P->Prop}{S:aL}:∀{s:List P}{L:Lc},(∀v ∈ s,∀L,Inv L->∃x y,g v L=some x/\Inv x/\e x S=some (y,S)/\Q y)->Inv L ->
  ∃a,bt g cE e s L S=some (a,S)/\(∀y ∈ a,Q y)/\a.length=s.length
 | [],L,_,h=>⟨[],rfl,λ_ z=>(by cases z),rfl⟩
 |v::r,L,n,h=>by obtain⟨x,y,k,i,f,q⟩:=n v aO L h;obtain⟨a,b,c,m⟩:=kQ (s:=r) (L:=x) (λw hw=>n w (aR _ hw)) i;exact⟨y::a,by simp[bt,k,f,b],λz t=>(aW.mp t).elim (λe=>e ▸ q) (c z),by simp[m]⟩
theorem cx{g:jS}{c:EB}{e:EV}{Inv:Lc->Prop}{S:aL}{p:P->Bool}{f:P->P}:∀{s:List P}{L:Lc},(∀v ∈ s,∀L,Inv L->∃x,g v L=some x/\Inv x/\c x S=some (p v,S)/\(p v=true->e x S=some (f v,S)))->Inv L ->
  bt g c e s L S=some ((s.filter p).map f,S)
 | [],L,_,h=>rfl
 |v::r,L,m,h=>by
  obtain⟨x,n,i,a,t⟩:=m v aO L h;have b:=cx (s:=r) (L:=x) (λw hw=>m w (aR _ hw)) i;cases k:p v with
  |false=>rw[k]at a;simp[bt,n,a,b,k]
  |true=>rw[k]at a;simp[bt,n,a,b,k,t k]
theorem ints_get{lo:Int}{n i:Nat}{v:P}(h:(intsFrom lo n)[i]? = some v):v=.int (lo+i)/\i < n:=by
 unfold Ev.intsFrom at h;rw[aZ]at h;cases e:(List.range n)[i]? with
 |none=>rw[e]at h;cases h
 |some j=>
  rw[e]at h;cases h;have:=aP.mp e
  obtain⟨x,a⟩:=this;simp at x a;subst a;exact⟨rfl,x⟩
theorem jH{lo:Int}{n:Nat}{v:P}(h:v ∈ intsFrom lo n):∃i:Nat,v=.int (lo+i)/\i < n:=by obtain⟨i,x,e⟩:=lu.mp h;exact⟨i,ints_get (by rw[bq x,e])⟩
theorem cg(lo:Int)(n:Nat):(intsFrom lo n).length=n:=by simp[Ev.intsFrom]
theorem Dq(n k:Str->GF)(s:List P):∀(a:Int)(p t q:Option D),∃(r:Int)(e:Option D),bR (ar 2) (gW n) s [qi a,p,t,q] []=some (.nx,[qi r,p,e,q],[]):=by
 induction s with
 |nil=>intro a p t q;exact⟨a,t,rfl⟩
 |cons x s i=>intro a p t q;obtain⟨r,e,h⟩:=i (a / 2147483648) p (qp x) q;exact⟨r,e,by simpa[bR,gW] using h⟩
theorem tL(a:Int){p:Int}(s:0≤p)(k:p < 1000):∃r:Int,0≤r/\cU (Ph (n+2) "_law_mix") [.int a,.int p]=some (.int r):=by
 by_cases h:(1000000000000:Int)≤a
 .obtain⟨r,i,e⟩:=Dq (Ph (n+1)) (Ph n) (intsFrom 0 (p % 61).toNat) (a / 1000000000000-1) (qi p) none none;refine⟨r % 2147483648,ci _ (by decide),?_⟩;have c:(p % 61).natAbs < 1000000:=by lia
  rw[nq,bx];simp[jQ,h,c,e]
 .have m:0≤p * p/\p * p≤1000000:=⟨Int.mul_nonneg s s,Int.le_trans (Int.mul_le_mul (xo k) (xo k) s (by decide)) (by decide)⟩;have v:gf p p=true:=bY (by lia) (by lia);have d:gf (p * p) 7919=true:=bY (by lia) (by decide);have w:gf (a % 1000003+p * p * 7919+p) 48271=true:=bY (by lia) (by decide);generalize f:(a % 1000003+p * p * 7919+p) * 48271 % 2147483629=x;have t:0≤x/\x < 2147483629:=by subst f;exact⟨ci _ (by decide),cJ _ (by decide)⟩
  have u:gf x x=true:=bY (by lia) (by lia);generalize b:x * x % 2147483587=y;have q:0≤y/\y < 2147483587:=by subst b;exact⟨ci _ (by decide),cJ _ (by decide)⟩
  have g:gf y (y+2)=true:=bY (by lia) (by lia);refine⟨y * (y+2) % 2147483579 / 7,Int.ediv_nonneg (ci _ (by decide)) (by decide),?_⟩;rw[nq,bx];simp[jQ,h,v,d,w,f,u,b,g]
noncomputable def eU(n:List Int):P:=.ro (n.map .int)
theorem uh(s:List Int)(x:0≤k):∃r:Int,cU (Ph (n+2) "_law_cell_at") [eU s,.int k]=some (.int r):=by
 by_cases h:k < (s.length:Int)
 .have a:k.toNat < s.length:=by lia
  refine⟨s[k.toNat],?_⟩;have e:L2.atI (s.map P.int) k=some (.int s[k.toNat]):=cO x (by simp[a]);rw[jn,bx];simp[gp,eU,dM,d9,h,e]
 .refine⟨0,?_⟩;rw[jn,bx];simp[gp,eU,dM,d9,h]
inductive Drw(n:Nat)(ns:List Int)(k p:Int):Prop
 |mk (c r:Int):0≤r->cU (Ph (n+2) "_law_cell_at") [eU ns,.int k]=some (.int c)->cU (Ph (n+2) "_law_mix") [.int c,.int p]=some (.int r)->Drw n ns k p
theorem im{n:Nat}(s:List Int){k p:Int}(x:0≤k)(a:0≤p)(f:p < 1000):Drw n s k p:=by obtain⟨c,e⟩:=uh (n:=n) s x;obtain⟨r,b,h⟩:=tL (n:=n) c a f;exact⟨c,r,b,e,h⟩
theorem JA:strOk "xyz":=by unfold strOk;decide +kernel
theorem zK:("xyz":Str).length=3:=by decide +kernel
theorem Nh:∀k:Nat,k < 16->cF (.str "abcdefghijklmnop") (.int (k:Int))=some (.str ⟨#[97+k]⟩):=by
 intro k h;have e:∀k:Nat,k < 16->L2.atI ((("abcdefghijklmnop":Str)).cps.toList) (k:Int)=some (97+k):=by decide +kernel
 show(if g6 (("abcdefghijklmnop":Str)).length=true then (L2.atI ((("abcdefghijklmnop":Str)).cps.toList) (k:Int)).map λc=>P.str ⟨#[c]⟩ else none)=_;rw[e k h,ai (by decide +kernel)];rfl
noncomputable def hd(x:Str):Option Nat:=x.cps[0]?
theorem IV(c n:Nat)(x:Str):hd (dO ⟨#[c]⟩ (n+1)++x)=some c:=by
 have k:∀(n:Nat)(a:Array Nat),a[0]? = some c->((List.replicate n #[c]).foldl (·++·) a)[0]? = some c:=by
  intro n;induction n with
  |zero=>intro a h;exact h
  |succ n i=>intro a h;rw[cA,ff];refine i _ ?_;have s:0 < a.size:=(si.mp h).1;rw[yj s];exact h
 have h:=k n (#[]++#[c]) (by simp);have s:0 < ((List.replicate n #[c]).foldl (·++·) (#[]++#[c])).size:=(si.mp h).1;show(((List.replicate (n+1) #[c]).foldl (·++·) #[])++x.cps)[0]? = some c;rw[cA,ff,yj s];exact h
theorem oM{n:Nat}(s:List Int){k:Nat}(r:k < 16):∃x:Str,strOk x/\hd x=some (97+k)/\cU (Ph (n+3) "_law_name") [eU s,.int (k:Int)]=some (.str x):=by
 obtain⟨c,a,q,e,b⟩:=im (n:=n) s (k:=1) (p:=(k:Int)) (by lia) (by lia) (by lia);have u:=Nh k r;obtain⟨d,h,f⟩:=Ep (k:=a / 4 % 3) JA (by lia) (by rw[zK];lia) (by rw[zK];lia);have t:strOk ⟨#[97+k]⟩:=by show(#[97+k].all λc=>decide (c < 0x110000))=true;simp;lia
 have m:ug (.str ⟨#[97+k]⟩) (.int (1+a % 4))=some (.str (dO ⟨#[97+k]⟩ ((a % 4).toNat+1))):=by show(if (g6 ((1+a % 4).toNat * 1) && decide ((1+a % 4).natAbs < 1000000))=true then some (P.str (dO ⟨#[97+k]⟩ (1+a % 4).toNat)) else none)=_;rw[ai (by rw[av,ui];exact⟨by lia,jy (by lia)⟩),show(1+a % 4).toNat=(a % 4).toNat+1 by lia]
 have z:=Bb (x:=dO ⟨#[97+k]⟩ ((a % 4).toNat+1)) (y:=⟨#[d]⟩) (by rw[ki,zL,zL];lia);refine⟨dO ⟨#[97+k]⟩ ((a % 4).toNat+1)++⟨#[d]⟩,AB (AA t _) h,IV _ _ _,?_⟩;rw[uc,bx];simp[me,e,b,u,f,m,z]
theorem aY(h:f L S=some (.nx,e,c)):aD f g L S=g e c:=by rw[aD,h]
theorem wV{c:EB}{x y:ES}{L:Lc}{S:aL}(h:c L S=some (true,S)):kJ c x y L S=x L S:=by rw[kJ,h];rfl
theorem zV{c:EB}{x y:ES}{L:Lc}{S:aL}(h:c L S=some (false,S)):kJ c x y L S=y L S:=by rw[kJ,h];rfl
theorem uP{A R:ES}{L:Lc}{S:aL}{p:Lc->Prop}{G:zi->Prop}(h:∃x,p x/\A L S=some (.nx,x,S))(k:∀x,p x->G (R x S)):G (aD A R L S):=by obtain⟨x,a,e⟩:=h;rw[aY e];exact k x a
theorem Po(a:Int):∃r:Int,-1≤r/\r≤5/\L2.atI [P.int 0,.int 0,.int (-1),.int 5] (a % 4)=some (.int r):=by
 have h:a % 4=0\/a % 4=1\/a % 4=2\/a % 4=3:=by lia
 rcases h with h|h|h|h<;>rw[h]<;>simp
theorem MT(a:Int):∃r:Int,0≤r/\r≤2/\L2.atI [P.int 1,.int 2,.int 0,.int 1] (a % 4)=some (.int r):=by
 have h:a % 4=0\/a % 4=1\/a % 4=2\/a % 4=3:=by lia
 rcases h with h|h|h|h<;>rw[h]<;>simp
inductive isCel(v:P):Prop
 |mk (x:Str) (lo hi at':Int):strOk x->-1≤lo->lo≤at'->at'≤hi->hi≤7->v=.tup [.str x,.int lo,.int hi,.int at']->isCel v
noncomputable def sZ:P->List P
 | .tup s=>s
 | .lst s=>s
 |_=>[]
def kL(v:P)(k:Nat):P:=(sZ v)[k]?.getD .non
noncomputable def iv:P->Int
 | .int i=>i
 |_=>0
@[simp] theorem QJ(s:List P):sZ (.tup s)=s:=rfl
@[simp] theorem QK(s:List P):sZ (.lst s)=s:=rfl
@[simp] theorem Qc(s:List P)(k:Nat):kL (.tup s) k=s[k]?.getD .non:=rfl
@[simp] theorem QY(i:Int):iv (.int i)=i:=rfl
noncomputable def eR:P->Str
 | .tup (.str s::_)=>s
 |_=>""
def EW(v:List P):Prop:=(∀c ∈ v,isCel c)/\∀i c,v[i]? = some c->hd (eR c)=some (99+i)
@[simp] theorem Cd(v:List P):jk 9 (.ref 0) [.lst (v.map .p)]=some (.lst v,[.fz (.lst v)]):=fZ rfl
theorem dE(s:List P)(v:P):s.map D.p++[.p v]=(s++[v]).map .p:=by simp
theorem dF{Q:P->Prop}{s:List P}{v:P}(h:∀x ∈ s,Q x)(e:Q v):∀x ∈ s++[v],Q x:=λx a=>(fO.mp a).elim (h x) λa=>by rw[g_.mp a];exact e
theorem vl{Q:Nat->P->Prop}{s:List P}{v:P}(h:∀i x,s[i]? = some x->Q i x)(n:Q s.length v):∀i x,(s++[v])[i]? = some x->Q i x:=λi x a=>by
 by_cases e:i < s.length
 .rw [bw e]at a;exact h i x a
 .rw [bU (by lia)]at a;have:i-s.length=0:=by
   have:=(aP.mp a).1;simp at this;lia
  rw[this]at a;cases a;rw[show i=s.length by lia];exact n
theorem Et{n:Nat}(t:List Int){f m:Int}(h0:0≤f)(h1:0≤m)(h2:m≤3):∃r:List P,r.length≤m.toNat/\EW r/\cU (Ph (n+4) "_law_cells") [eU t,.int f,.int m]=some (.lst r):=by
 obtain⟨c,a,ha,G,I⟩:=im (n:=n+1) t (k:=2+f) (p:=1) (by lia) (by lia) (by lia);have hm:a % (m+1) < m+1:=cJ _ (by lia);have W:0≤a % (m+1):=ci _ (by lia);let Inv:Nat->Lc->aL->Prop:=λi L S=>∃(r:List P)(H F K A:Option D),r.length=i/\EW r/\L=[qp (eU t),qi f,qi m,qr 0,H,F,K,A]/\S=[.lst (r.map .p)]
 obtain⟨L',S',e,r,H,F,K,A,j,o,rfl,rfl⟩:=bJ (g:=ar 4) (b:=fK (Ph (n+3))) (Inv:=Inv) (s:=Ev.intsFrom 0 (a % (m+1)).toNat) (k:=0)
  (L:=[qp (eU t),qi f,qi m,qr 0,none,none,none,none]) (S:=[.lst []]) (fun i v L S hv R=>by
   obtain⟨rfl,hi⟩:=ints_get hv;obtain⟨r,H,F,K,A,j,o,rfl,rfl⟩:=R;obtain⟨c2,d,hd,C,E⟩:=im (n:=n+1) t (k:=2+f) (p:=2+(i:Int)) (by lia) (by lia) (by lia);obtain⟨x,hx,y,Q⟩:=oM (n:=n) t (k:=2+i) (by lia);obtain⟨lo,l,V,M⟩:=Po d;obtain⟨u,Z,B,N⟩:=MT (d / 4);have z:0 < lo+u-lo+1:=by lia
   have T:r.length≤1000000:=by lia
   generalize hw:d / 16 % (lo+u-lo+1)=w;have hw0:0≤w/\w < lo+u-lo+1:=by subst hw;exact⟨ci _ (by lia),cJ _ z⟩
   refine⟨_,[qp (eU t),qi f,qi m,qr 0,qi (i:Int),qi d,qi lo,qi (lo+u)],[.lst ((r++[P.tup [.str x,.int lo,.int (lo+u),.int (lo+w)]]).map D.p)],rfl,?_,_,_,_,_,_,by simp;lia,⟨dF o.1 ⟨x,lo,lo+u,lo+w,hx,l,by lia,by lia,by lia,rfl⟩,vl o.2 ?_⟩,rfl,rfl⟩
   .rw [<- dE];have q:cU (Ph (n+3) "_law_name") [eU t,.int (2+(i:Int))]=some (.str x):=by rw[<- Q];rfl
    simp[fK,C,E,q,M,N,z,d4,T,hw]
   .show My.hd x=_;rw[y,j];congr 1;lia) ⟨[],none,none,none,none,rfl,⟨λ_ h=>(by cases h),λ_ _ h=>(by cases h)⟩,rfl,rfl⟩
 refine⟨r,by rw[j,cg];lia,o,?_⟩;have X:(a % (m+1)).natAbs < 1000000:=by lia
 have z:0 < m+1:=by lia
 rw[qA,bx];simp[kE,G,I,X,z,e]
@[simp] theorem Nw:aA "number"=true/\aA "name"=true/\aA "plus"=true/\aA "minus"=true/\aA "times"=true/\aA "true"=true/\aA "not"=true/\aA "or"=true/\aA "and"=true/\aA "is"=true/\aA "="=true/\aA "!="=true/\aA "<"=true/\aA "<="=true/\aA ">"=true/\aA ">="=true/\aA "row"=true/\aA "heap"=true/\aA "ma"=true/\aA "mb"=true/\aA "who"=true/\aA "all"=true/\aA "any"=true/\aA ""=true/\aA "it"=true/\aA "weak"=true/\aA "strong"=true/\aA "step"=true/\aA "lose"=true/\aA "double"=true:=by decide +kernel
def nK(v:P):Prop:=∃s:Str,aA s=true/\v=.str s
theorem nK.ok(h:nK v)(n:Nat):di n v=true:=by obtain⟨s,h,rfl⟩:=h;simpa using h
theorem gQ{s:List P}(h:∀x ∈ s,nK x)(n:Nat):di (n+1) (.lst s)=true:=QV λx a=>(h x a).ok n
theorem cP(h:s≠[]):s.isEmpty=false:=by cases s with|nil=>exact absurd rfl h|cons _ _=>rfl
theorem len_pos(h:s≠[]):0 < s.length:=sG.mpr h
noncomputable abbrev nH(k:Int):P:=.tup [.str "number",.int k]
noncomputable abbrev pE(y:P):P:=.tup [.str "name",y]
def zQ(N:List P)(v:P):Prop:=(∃k,v=nH k)\/∃y ∈ N,v=pE y\/(∃k,v=.tup [.str "plus",pE y,nH k])\/(∃k j:Int,0≤k/\k≤2/\v=.tup [.str "minus",.tup [.str "times",pE y,nH k],nH j])\/v=.tup [.str "minus",nH 1,pE y]
theorem wt{n:Nat}(d:Int){s:List P}(c:∀x ∈ s,nK x):∃v,zQ s v/\cU (Ph (n+2) "_law_sum") [.int d,.lst s]=some v:=by
 have e:=zY (gQ c 19);by_cases k:s=[]
 .subst k;refine⟨nH (d / 5 % 3),.inl ⟨_,rfl⟩,?_⟩;rw[eS,bx];simp[dQ,e]
 rw[cP k]at e;have l:=len_pos k;obtain⟨y,f,a⟩:=eh k (d / 5);have b:d % 5=0\/d % 5=1\/d % 5=2\/d % 5=3\/d % 5=4:=by lia
 rcases b with h|h|h|h|h
 .refine⟨nH (d / 5 % 3),.inl ⟨_,rfl⟩,?_⟩;rw[eS,bx];simp[dQ,e,h]
 .refine⟨pE y,.inr ⟨y,f,.inl rfl⟩,?_⟩;rw[eS,bx];simp[dQ,e,h,dM,d9,l,a]
 .refine⟨.tup [.str "plus",pE y,nH (d / 20 % 3)],.inr ⟨y,f,.inr (.inl ⟨_,rfl⟩)⟩,?_⟩;rw[eS,bx];simp[dQ,e,h,dM,d9,l,a]
 .refine⟨.tup [.str "minus",.tup [.str "times",pE y,nH (d / 20 % 3)],nH (d / 60 % 2)],.inr ⟨y,f,.inr (.inr (.inl ⟨_,_,by lia,by lia,rfl⟩))⟩,?_⟩;rw[eS,bx];simp[dQ,e,h,dM,d9,l,a]
 .refine⟨.tup [.str "minus",nH 1,pE y],.inr ⟨y,f,.inr (.inr (.inr rfl))⟩,?_⟩;rw[eS,bx];simp[dQ,e,h,dM,d9,l,a]
def oP(N:List P)(v:P):Prop:=∃w y s,y ∈ N/\zQ N s/\aA w=true/\v=.tup [.str "is",.str w,pE y,s]
def DW(N:List P)(v:P):Prop:=v=.tup [.str "true"]\/oP N v\/(∃p,oP N p/\v=.tup [.str "not",p])\/∃p z,oP N p/\z ∈ N/\v=.tup [.str "or",p,.tup [.str "and",.tup [.str "true"],.tup [.str "is",.str "=",nH 1,pE z]]]
theorem w6(a:Int):∃w:Str,aA w=true/\L2.atI [P.str "=",.str "!=",.str "<",.str "<=",.str ">",.str ">="] (a % 6)=some (.str w):=by obtain⟨w,hw,e⟩:=xi (s:=[P.str "=",.str "!=",.str "<",.str "<=",.str ">",.str ">="]) (k:=a % 6) (by lia) (by simp;lia);simp only[aW,cm,eX]at hw;rcases hw with rfl|rfl|rfl|rfl|rfl|rfl<;>exact⟨_,by simp,e⟩
theorem cond_ok{n:Nat}(d:Int){s:List P}(m:∀x ∈ s,nK x):∃v,DW s v/\cU (Ph (n+3) "_law_condition") [.int d,.lst s]=some v:=by
 have e:=zY (gQ m 19);by_cases a:s=[]
 .subst a;refine⟨.tup [.str "true"],.inl rfl,?_⟩;rw[cM,bx];simp[b_,e]
 rw[cP a]at e;have l:=len_pos a;obtain⟨y,g,c⟩:=eh a (d / 30);obtain⟨z,i,r⟩:=xi (s:=s) (k:=0) (by lia) (by lia);obtain⟨w,hw,b⟩:=w6 (d / 5);obtain⟨v,u,f⟩:=wt (n:=n) (d / 90) m;have p:oP s (.tup [.str "is",.str w,pE y,v]):=⟨w,y,v,g,u,hw,rfl⟩;by_cases t:d % 5 < 2
 .refine⟨.tup [.str "true"],.inl rfl,?_⟩;rw[cM,bx];simp[b_,e,t]
 have q:d % 5=2\/d % 5=3\/d % 5=4:=by lia
 rcases q with h|h|h
 .refine⟨_,.inr (.inr (.inl ⟨_,p,rfl⟩)),?_⟩;rw[cM,bx];simp[b_,e,h,dM,d9,l,c,b,f]
 .refine⟨_,.inr (.inr (.inr ⟨_,z,p,i,rfl⟩)),?_⟩;rw[cM,bx];simp[b_,e,h,dM,d9,l,c,r,b,f]
 .refine⟨_,.inr (.inl p),?_⟩;rw[cM,bx];simp[b_,e,h,dM,d9,l,c,b,f]
inductive isRoad(v:P):Prop
 |mk (a b k:Str) (c:Int) (d e:Bool):aA a=true->aA b=true->(k="row"\/k="heap")->1≤c->c≤3->v=.tup [.str a,.str b,.str k,.int c,.bl d,.bl e]->isRoad v
noncomputable def rA:P->Str
 | .tup (.str a::_)=>a
 |_=>""
noncomputable def rB:P->Str
 | .tup (_::.str b::_)=>b
 |_=>""
def RD(r h:P):Prop:=¬(rA r=rA h/\rB r=rB h)
def HZ(F:List P)(v:List P):Prop:=v.length≤8/\(∀r ∈ v,isRoad r/\.str (rA r) ∈ F/\.str (rB r) ∈ F)/\v.Pairwise RD
def O3(F:List P)(v:List P)(i j:Nat):Prop:=∀r ∈ v,∃h x,F[h]? = some (.str (rA r))/\F[x]? = some (.str (rB r))/\(h < i\/(h=i/\x < j))
theorem HA{a b:P}(d:Int):∃w,(w=a\/w=b)/\L2.atI [a,b] (d % 2)=some w:=by obtain⟨w,hw,e⟩:=xi (s:=[a,b]) (k:=d % 2) (by lia) (by simp;lia);exact⟨w,by simpa using hw,e⟩
theorem fB{s:List P}{i:Nat}{v:P}(h:(bG 0 s)[i]? = some v):∃x,s[i]? = some x/\v=.tup [.int (i:Int),x]:=by obtain⟨x,a,e⟩:=j' h;exact⟨x,a,by rw[e];simp⟩
theorem dB{a:Type}{s:List a}{i:Nat}{x:a}(h:s[i]? = some x):i < s.length:=(aP.mp h).1
theorem CF{n:Nat}(A:List Int){s:List P}(hx:∀x ∈ s,nK x)(W:∀(i j:Nat) x,s[i]? = some x->s[j]? = some x->i=j)(hl:s.length≤4){m:Int}(h1:0 < m)(h3:m≤3):∃f:List P,HZ s f/\cU (Ph (n+3) "_law_roads") [eU A,.lst s,.int m]=some (.lst f):=by
 let I:Nat->Option D->Option D->Nat->Lc->aL->Prop:=λii k B j L S=>∃(f:List P)(M N Q C:Option D),(HZ s f/\O3 s f ii j)/\L=[qp (eU A),ql s,qi m,qr 0,k,B,M,N,Q,C]/\S=[.lst (f.map .p)]
 let Inv:Nat->Lc->aL->Prop:=λi L S=>∃k B,I i k B 0 L S
 obtain⟨L',S',e,k0,one0,f,M,N,Q,C,⟨H,_⟩,rfl,rfl⟩:=bJ (g:=bZ [ar 4,ar 5]) (b:=fJ (Ph (n+2))) (Inv:=Inv) (s:=bG 0 s) (k:=0)
  (L:=[qp (eU A),ql s,qi m,qr 0,none,none,none,none,none,none]) (S:=[.lst []]) (fun i v L S hv hI=>by
   obtain⟨x,q,rfl⟩:=fB hv;have hi:=dB q;have Z:=aM q;obtain⟨a,ha,rfl⟩:=hx x Z;obtain⟨_,_,f,M,N,Q,C,H,rfl,rfl⟩:=hI;rw[cD]at H ⊢;obtain⟨L',S',e,hI2⟩:=bJ (g:=bZ [ar 6,ar 7]) (b:=dg (Ph (n+2))) (Inv:=I i (qi (i:Int)) (qs a)) (s:=bG 0 s) (k:=0)
    (L:=[qp (eU A),ql s,qi m,qr 0,qi (i:Int),qs a,M,N,Q,C]) (S:=[.lst (f.map .p)]) (fun j v L S hv hI=>by
     obtain⟨y,u,rfl⟩:=fB hv;have hj:=dB u;have hym:=aM u;obtain⟨b,hb,rfl⟩:=hx y hym;obtain⟨f,M,N,Q,C,⟨H,t⟩,rfl,rfl⟩:=hI;rw[cD]at t ⊢;obtain⟨c,d,hd,R,T⟩:=im (n:=n) A (k:=4) (p:=30+4 * (i:Int)+(j:Int)) (by lia) (by lia) (by lia);have m4:gf 4 (i:Int)=true:=bY (by decide) (by lia);by_cases hg:0 < d % 4/\f.length < 8
     .obtain⟨w,hw,ew⟩:∃w:Str,(w="row"\/w="heap")/\L2.atI [P.str "row",.str "heap"] (d / 4 % 2)=some (.str w):=by
       obtain⟨w,hw,ew⟩:=HA (a:=.str "row") (b:=.str "heap") (d / 4);rcases hw with rfl|rfl
       .exact⟨_,.inl rfl,ew⟩
       .exact⟨_,.inr rfl,ew⟩
      have X:f.length≤1000000:=by lia
      have c0:0≤d / 8 % m:=ci _ (by lia);have c1:d / 8 % m < m:=cJ _ h1;refine⟨_,[qp (eU A),ql s,qi m,qr 0,qi (i:Int),qs a,qi (j:Int),qs b,qi d,qs w],[.lst ((f++[P.tup [.str a,.str b,.str w,.int (1+d / 8 % m),.bl (decide (d / 24 % 3=1)),.bl (decide (d / 72 % 3=1))]]).map D.p)],rfl,?_,_,_,_,_,_,⟨⟨by simp;lia,dF H.2.1 ⟨⟨a,b,w,_,_,_,ha,hb,hw,by lia,by lia,rfl⟩,Z,hym⟩,List.pairwise_append.mpr ⟨H.2.2,List.pairwise_singleton _ _,λr K z hz=>?_⟩⟩,dF (λr K=>?_) ⟨i,j,q,u,.inr ⟨rfl,by lia⟩⟩⟩,rfl,rfl⟩;rotate_left
      .rw [g_.mp hz];rintro ⟨R,T⟩;obtain⟨E,G,l,o,g3⟩:=t r K;rw[R]at l;rw[T]at o;have:=W _ _ _ l q
       have:=W _ _ _ o u;lia
      .obtain⟨E,G,l,o,g3⟩:=t r K;exact⟨E,G,l,o,by lia⟩
      rw[<- dE];have F:(f.length:Int) < 8:=by lia
      simp[dg,R,T,m4,hg.1,dM,F,ew,h1,d4,X]
     .refine⟨_,[qp (eU A),ql s,qi m,qr 0,qi (i:Int),qs a,qi (j:Int),qs b,qi d,C],[.lst (f.map D.p)],rfl,?_,f,_,_,_,_,⟨H,λr K=>?_⟩,rfl,rfl⟩;rotate_left
      .obtain⟨E,G,l,o,g3⟩:=t r K;exact⟨E,G,l,o,by lia⟩
      by_cases V:0 < d % 4
      .have F:¬(f.length:Int) < 8:=by lia
       simp[dg,R,T,m4,V,dM,F]
      .simp [dg,R,T,m4,V,dM]) ⟨f,M,N,Q,C,H,rfl,rfl⟩
   obtain⟨vs',z6,z7,z8,z9,⟨hi1,hi2⟩,hi3,hi4⟩:=hI2;exact⟨_,L',S',rfl,by simpa[fJ] using e,_,_,vs',z6,z7,z8,z9,⟨hi1,λr K=>by obtain⟨E,G,l,o,g3⟩:=hi2 r K;exact⟨E,G,l,o,by lia⟩⟩,hi3,hi4⟩) ⟨none,none,[],none,none,none,none,⟨⟨by simp,λ_ h=>(by cases h),List.Pairwise.nil⟩,λ_ h=>(by cases h)⟩,rfl,rfl⟩
 refine⟨f,H,?_⟩;rw[qy,bx];simp[kC,e]
end My
namespace My
open PySem L2 Ev
variable{s:Str}{l:List P}
theorem wB(H:∀c ∈ l,isRoad c)(L:Lc)(j k:Nat)(t:j < L.length)(h:k≠j)(z:L[k]? = some (qs s))(S:aL) :
  ∃f,bt (ar j) (dC (eV (ao (vv j) iA)) (U k)) (ao (vv j) fX) l L S=some (f,S)/\(∀y ∈ f,nK y/\∃r ∈ l,rA r=s/\y=.str (rB r))/\f.length≤l.length:=by
 refine mR (Inv:=λm=>∃d,m=L.set j d) (λv p m u=>?_) ⟨L[j],(gA t).symm⟩;obtain⟨d,rfl⟩:=u;obtain⟨a,b,n,c,x,e,F,i,o,_,_,rfl⟩:=H v p;have g:((L.set j d).set j (qt [.str a,.str b,.str n,.int c,.bl x,.bl e]))[j]? = some (qt [.str a,.str b,.str n,.int c,.bl x,.bl e]):=by rw[cC (by simpa using t)]
 have w:((L.set j d).set j (qt [.str a,.str b,.str n,.int c,.bl x,.bl e]))[k]? = some (qs s):=by rw[bg (aK h),bg (aK h)];exact z
 exact⟨_,decide (a=s),rfl,⟨_,cj ..⟩,by simp[-cj,g,w],λq=>⟨.str b,by simp[-cj,g],⟨b,i,rfl⟩,_,p,bu q,rfl⟩⟩
theorem AE(H:∀c ∈ l,isRoad c)(L:Lc)(j k:Nat)(t:j < L.length)(h:k≠j)(z:L[k]? = some (qs s))(S:aL) :
  ∃f,bt (ar j) (dC (eV (ao (vv j) fX)) (U k)) (ao (vv j) iA) l L S=some (f,S)/\(∀y ∈ f,nK y/\∃r ∈ l,rB r=s/\y=.str (rA r))/\f.length≤l.length:=by
 refine mR (Inv:=λm=>∃d,m=L.set j d) (λv p m u=>?_) ⟨L[j],(gA t).symm⟩;obtain⟨d,rfl⟩:=u;obtain⟨a,b,n,c,x,e,i,F,o,_,_,rfl⟩:=H v p;have g:((L.set j d).set j (qt [.str a,.str b,.str n,.int c,.bl x,.bl e]))[j]? = some (qt [.str a,.str b,.str n,.int c,.bl x,.bl e]):=by rw[cC (by simpa using t)]
 have w:((L.set j d).set j (qt [.str a,.str b,.str n,.int c,.bl x,.bl e]))[k]? = some (qs s):=by rw[bg (aK h),bg (aK h)];exact z
 exact⟨_,decide (b=s),rfl,⟨_,cj ..⟩,by simp[-cj,g,w],λq=>⟨.str a,by simp[-cj,g],⟨a,i,rfl⟩,_,p,bu q,rfl⟩⟩
theorem uU(h:l.length≤8):l.length≤1000000:=by lia
theorem pC(d:Int):∃w:Str,(w=a\/w=b)/\L2.atI [P.str a,.str b] (d % 2)=some (.str w):=by
 obtain⟨w,hw,e⟩:=HA (a:=.str a) (b:=.str b) d;rcases hw with rfl|rfl
 .exact⟨_,.inl rfl,e⟩
 .exact⟨_,.inr rfl,e⟩
inductive isSend(s:Str)(rs whos N:List P)(v:P):Prop
 |mk (m:Str) (t:P) (way nm:Str):aA m=true->aA nm=true->zQ N t->((way="who"/\P.str nm ∈ whos)\/((way="all"\/way="any")/\∃r ∈ rs,rA r=s/\nm=rB r))->v=.tup [.str m,t,.str way,.str nm]->isSend s rs whos N v
variable{n:Nat}{u:List P}
theorem Cu(d:Int)(hnm:∀x ∈ nm,nK x)(hw:∀x ∈ u,nK x)(hr:∀c ∈ l,isRoad c)(hrl:l.length≤8){m:Int}(h1:0≤m)(h2:m≤3) :
  ∃f:List P,f.length≤3/\(∀c ∈ f,isSend s l u nm c)/\cU (Ph (n+3) "_law_sends") [.int d,.str s,.lst nm,.lst u,.lst l,.int m]=some (.lst f):=by
 have hm:d % (m+1) < m+1:=cJ _ (by lia);have hm0:0≤d % (m+1):=ci _ (by lia);obtain⟨gs,eg,N,hgl⟩:=wB (s:=s) hr [qi d,qs s,ql nm,ql u,ql l,qi m,none,none,none,none,none,none,none] 12 1 (by simp) (by lia) rfl [];have W:=lM (gQ hw 19);have eG:=lM (gQ (λx hx=>(N x hx).1) 19);let F:Option D->Option D->Option D->Option D->Lc:=λX E t q=>[qi d,qs s,ql nm,ql u,ql l,qi m,ql gs,qr 0,X,E,t,q]
 let Inv:Nat->Lc->aL->Prop:=λi L S=>∃(f:List P)(X E t q:Option D),f.length≤i/\(∀c ∈ f,isSend s l u nm c)/\L=F X E t q/\S=[.lst (f.map .p)]
 obtain⟨L',S',e,f,X,E,t,q,hc,ho,rfl,rfl⟩:=bJ (g:=ar 8) (b:=dX (Ph (n+2))) (Inv:=Inv) (s:=Ev.intsFrom 0 (d % (m+1)).toNat) (k:=0)
  (L:=F none none none none) (S:=[.lst []]) (fun i v L S hv hI=>by
   obtain⟨rfl,hi⟩:=ints_get hv;obtain⟨f,X,E,t,q,hc,ho,rfl,rfl⟩:=hI;simp only[cI];obtain⟨dv,hdv,edv⟩:∃z:Int,(0 < z/\z < 1152921504606846976)/\L2.atI [P.int 4,.int 1000,.int 100000] (i:Int)=some (.int z):=by
    have:i=0\/i=1\/i=2:=by lia
    rcases this with rfl|rfl|rfl
    .exact⟨4,by decide,by simp⟩
    .exact⟨1000,by decide,by simp⟩
    .exact⟨100000,by decide,by simp⟩
   generalize hso:d / dv=o;obtain⟨tr,htr,etr⟩:=wt (n:=n) (o / 12 % 300) hnm;obtain⟨mk,hmk,emk⟩:=pC (a:="ma") (b:="mb") o;have omk:aA mk=true:=by rcases hmk with rfl|rfl<;>simp
   have p:f.length≤1000000:=by lia
   let T:=F (qi (i:Int)) (qi o) (qp tr) (qs mk)
   let G:zi->Prop:=λx=>∃L2 Z,x=some (.nx,L2,Z)/\Inv (0+i+1) L2 Z
   have A:∀{x:zi}(y w:Str),aA w=true->((y="who"/\P.str w ∈ u)\/((y="all"\/y="any")/\∃r ∈ l,rA r=s/\w=rB r))->x=some (.nx,T,[.lst (f.map .p++[.p (.tup [.str mk,tr,.str y,.str w])])])->G x:=λy w ow h e=>⟨_,_,e,f++[.tup [.str mk,tr,.str y,.str w]],_,_,_,_,by simp;lia,dF ho ⟨mk,tr,y,w,omk,ow,htr,h,rfl⟩,rfl,by rw[dE]⟩
   suffices h:G (dX (Ph (n+2)) (F (qi (i:Int)) E t q) [.lst (f.map .p)]) by obtain⟨L2,Z,e,h⟩:=h;exact⟨_,L2,Z,rfl,e,h⟩
   unfold dX;rw[aY (e:=F (qi (i:Int)) (qi o) t q) (c:=[.lst (f.map .p)]) (by simp[F,edv,hdv,hso]),aY (e:=F (qi (i:Int)) (qi o) (qp tr) q) (c:=[.lst (f.map .p)]) (by simp[F,etr]),aY (e:=T) (c:=[.lst (f.map .p)]) (by simp[F,T,emk])];by_cases I:u≠[]/\o / 2 % 3=1
   .obtain⟨w,K,ew⟩:=eh I.1 (o / 50);obtain⟨w,j,rfl⟩:=hw w K;have hl:=len_pos I.1;rw[cP I.1]at W;rw[wV (by simp[F,T,W,I.2])];exact A "who" w j (.inl ⟨rfl,K⟩) (by simp[F,T,dM,d9,hl,ew,d4,p])
   rw [zV (by
    cases C:u.isEmpty<;>rw[C]at W
    .have h3:¬o / 2 % 3=1:=λz=>I ⟨λz=>(by rw[z]at C;cases C),z⟩;simp[F,T,W,h3]
    .simp [F,T,W])]
   by_cases M:gs=[]
   .rw [M]at eG;exact⟨T,[.lst (f.map .p)],by rw[zV (by simp[F,T,M,eG])];rfl,f,_,_,_,_,by lia,ho,rfl,rfl⟩
   obtain⟨w,K,ew⟩:=eh M (o / 3);obtain⟨⟨w,j,rfl⟩,r,V,R,H⟩:=N w K;have H:w=rB r:=by cases H;rfl
   have hl:=len_pos M;rw[cP M]at eG;rw[wV (by simp[F,T,eG])];by_cases Q:i < 2
   .have B:(i:Int) < 2:=by lia
    obtain⟨aa,haa,eaa⟩:=pC (a:="all") (b:="any") (o / 6);have mo:gf (o / 6 % 2) 1=true:=bY (by lia) (by decide);exact A aa w j (.inr ⟨haa,r,V,R,H⟩) (by simp[F,T,Q,B,cn,jO,mo,eaa,dM,d9,hl,ew,d4,p])
   .have B:¬(i:Int) < 2:=by lia
    have mo:gf (o / 6 % 2) 0=true:=bY (by lia) (by decide);exact A "all" w j (.inr ⟨.inl rfl,r,V,R,H⟩) (by simp[F,T,Q,B,cn,jO,mo,dM,d9,hl,ew,d4,p])) ⟨[],none,none,none,none,by simp,λ_ h=>(by cases h),rfl,rfl⟩
 refine⟨f,by rw[cg]at hc;lia,ho,?_⟩;have hq:(d % (m+1)).natAbs < 1000000:=by lia
 have hz:0 < m+1:=by lia
 rw[qx,bx];simp[kB,bo,uU hrl,kh,eg,hq,hz];simp[F]at e;simp[e]
@[simp] theorem MI(L:Lc)(S:aL):pH L S=some (none,S):=rfl
@[simp] theorem MH(a:EV)(L:Lc)(S:aL):ng a L S=bO (a L S) λv h=>match v with | .int i=>some (some i,h)|_=>none:=rfl
@[simp] theorem M6(x:List P)(lo h:Option Int):Kn (.lst x) lo h=some (.lst (cut x lo h)):=rfl
@[simp] theorem M5(x:List P)(lo h:Option Int):Kn (.tup x) lo h=some (.tup (cut x lo h)):=rfl
theorem Ad:(∀x ∈ cut h lo i,x ∈ h)/\(cut h lo i).length≤h.length:=by
 unfold cut;refine⟨λx a=>?_,?_⟩
 .first
   |exact sH (yF a)
   |exact yF (sH a)
 .simp only[fQ,sr];lia
def wQ(s:Str)(l u:List P)(v:P):Prop:=v=.non\/∃m a i w,aA m=true/\aA a=true/\aA i=true/\aA w=true/\(∃r ∈ l,rB r=s/\a=rA r)/\(w=""\/P.str w ∈ u)/\v=.tup [.str m,.str a,.str i,.str w]
noncomputable def more:P->List P
 | .non=>[]
 |_=>[.str "it"]
theorem step_if(ψ ι:Str->GF){d0:Int}(H:∀x ∈ m,nK x)(hw:∀x ∈ u,nK x)(hs:∀x ∈ d,nK x/\∃r ∈ l,rB r=s/\x=.str (rA r)) :
  ∃v f n k,wQ s l u v/\(∀x ∈ f,nK x)/\f.length≤m.length /\
   eJ ψ [ql (.int d0::ds),qs s,qp rooms,qp cells,ql u,ql l,ql m,ql d,qp .non,ql m,ql [],none,none,none,none,none,none,none] []
    = some (.nx,[ql (.int d0::ds),qs s,qp rooms,qp cells,ql u,ql l,ql m,ql d,qp v,ql f,ql (more v),n,k,none,none,none,none,none],[]):=by
 have S:=lM (gQ (λx g=>(hs x g).1) 19);have N:=lM (gQ H 19);have W:=lM (gQ hw 19);let F:Option D->List P->List P->Option D->Option D->Lc:=λq8 l9 X n k=>[ql (.int d0::ds),qs s,qp rooms,qp cells,ql u,ql l,ql m,ql d,q8,ql l9,ql X,n,k,none,none,none,none,none]
 let G:zi->Prop:=λx=>∃v f n k,wQ s l u v/\(∀x ∈ f,nK x)/\f.length≤m.length/\x=some (.nx,F (qp v) f (more v) n k,[])
 show G (eJ ψ (F (qp .non) m [] none none) []);unfold eJ;by_cases j:d≠[]/\d0 % 3=1
 .rw [cP j.1]at S;obtain⟨s1,T,es⟩:=eh j.1 (d0 / 24);have E:=len_pos j.1;obtain⟨mk,M,A⟩:=pC (a:="ma") (b:="mb") (d0 / 12);obtain⟨⟨sn,osn,rfl⟩,r,R,Q,t⟩:=hs s1 T;have t:sn=rA r:=by cases t;rfl
  have Z:aA mk=true:=by rcases M with rfl|rfl<;>simp
  rw[wV (by simp[F,S,j.2])];rw[aY (e:=F (qp .non) m [] (qs "") none) (c:=[]) rfl];refine uP (G:=G) (p:=λL=>∃i f,aA i=true/\(∀x ∈ f,nK x)/\f.length≤m.length/\L=F (qp .non) f [] (qs i) none) ?_ λL ⟨i,f,hi,hf,C,e⟩=>?_
  .by_cases c:m≠[]/\d0 / 3 % 2=1
   .obtain⟨x,g,B⟩:=atI_last c.1;obtain⟨x,ox,rfl⟩:=H x g;rw[cP c.1]at N;exact⟨_,⟨x,cut m none (some (-1)),ox,λy hy=>H y (Ad.1 y hy),Ad.2,rfl⟩,by simp[F,N,c.2,B]⟩
   .refine⟨_,⟨"",m,by simp,H,ag _,rfl⟩,?_⟩;cases h:m.isEmpty<;>rw[h]at N
    .have o:¬d0 / 3 % 2=1:=λq=>c ⟨λz=>(by rw[z]at h;cases h),q⟩;simp[F,N,o]
    .simp [F,N]
  subst e;rw[aY (e:=F (qp .non) f [] (qs i) (qs "")) (c:=[]) rfl];refine uP (G:=G) (p:=λL=>∃w,aA w=true/\(w=""\/P.str w ∈ u)/\L=F (qp .non) f [] (qs i) (qs w)) ?_ λL ⟨w,K,V,e⟩=>?_
  .by_cases c:u≠[]/\d0 / 6 % 2=1
   .obtain⟨x,g,B⟩:=eh c.1 (d0 / 200);obtain⟨x,ox,rfl⟩:=hw x g;rw[cP c.1]at W;have I:=len_pos c.1;exact⟨_,⟨x,ox,.inr g,rfl⟩,by simp[F,W,c.2,dM,d9,I,B]⟩
   .refine⟨_,⟨"",by simp,.inl rfl,rfl⟩,?_⟩;cases h:u.isEmpty<;>rw[h]at W
    .have o:¬d0 / 6 % 2=1:=λq=>c ⟨λz=>(by rw[z]at h;cases h),q⟩;simp[F,W,o]
    .simp [F,W]
  subst e;exact⟨.tup [.str mk,.str sn,.str i,.str w],f,qs i,qs w,.inr ⟨mk,sn,i,w,Z,osn,hi,K,⟨r,R,Q,t⟩,V,rfl⟩,hf,C,by simp[F,more,dM,d9,E,es,A]⟩
 .refine⟨.non,m,none,none,.inl rfl,H,ag _,?_⟩;cases h:d.isEmpty<;>rw[h]at S
  .have o:¬d0 % 3=1:=λq=>j ⟨λz=>(by rw[z]at h;cases h),q⟩;simp[F,more,S,o]
  .simp [F,more,S]
def HE(s:List P):List P:=s.map λc=>.str (eR c)
theorem JH(e:∀c ∈ a,isCel c):∀x ∈ HE a,nK x:=λx s=>by obtain⟨c,h,rfl⟩:=a_.mp s;obtain⟨x,_,_,_,o,_,_,_,_,rfl⟩:=e c h;exact⟨x,o,rfl⟩
theorem Be(m:∀c ∈ h,isCel c)(L:Lc)(j:Nat)(n:j < L.length)(S:aL) :
  bt (ar j) cE (ao (vv j) iA) h L S=some (HE h,S):=by
 have:=cx (g:=ar j) (c:=cE) (e:=ao (vv j) iA) (S:=S) (p:=fun _=>true) (f:=fun c=>.str (eR c)) (s:=h) (L:=L) (Inv:=fun s=>∃d,s=L.set j d) (fun v r s b=>by
  obtain⟨d,rfl⟩:=b;obtain⟨x,lo,i,a,t,_,_,_,_,rfl⟩:=m v r;have k:((L.set j d).set j (qt [.str x,.int lo,.int i,.int a]))[j]? = some (qt [.str x,.int lo,.int i,.int a]):=by rw[cC (by simpa using n)]
  exact⟨_,rfl,⟨_,cj ..⟩,rfl,λ_=>by simp[-cj,k,eR]⟩) ⟨L[j],(gA n).symm⟩
 rw[this,hE.mpr λ_ _=>rfl];rfl
def HL(N:List P)(c:P):Prop:=∃x t,aA x=true/\zQ N t/\c=.tup [.str x,t]
structure Stp(s:Str)(rooms cells whos rs:List P)(rm when tk:P)(chg sn:List P)(rm2:P):Prop where
 h1:rm ∈ rooms
 h2:rm2 ∈ rooms
 wh:DW (HE cells) when
 htk:wQ s rs whos tk
 cl:chg.length≤3
 ch:∀c ∈ chg,HL (HE cells++more tk) c
 sl:sn.length≤3
 hsn:∀c ∈ sn,isSend s rs whos (HE cells++more tk) c
theorem GK(v:P):∀x ∈ more v,nK x:=λx h=>by
 cases v with
 |non=>cases h
 |_=>exact⟨"it",by simp,by simpa[more] using h⟩
theorem Dp(v:P):(more v).length≤1:=by cases v<;>simp[more]
theorem F0(C K B w:Int)(hrm:∀x ∈ r,nK x)(A:r≠[])(Z:∀c ∈ e,isCel c)(hcl:e.length≤3)(hw:∀x ∈ u,nK x)(hr:∀c ∈ l,isRoad c)(M:l.length≤8) :
  ∃rm V o p T Q,Stp s r e u l rm V o p T Q/\cU (Ph (n+4) "_law_step") [.lst [.int C,.int K,.int B,.int w],.str s,.lst r,.lst e,.lst u,.lst l]=some (.tup [rm,V,o,.lst p,.lst T,Q]):=by
 have e1:=Be Z [ql [.int C,.int K,.int B,.int w],qs s,ql r,ql e,ql u,ql l,none,none,none,none,none,none,none,none,none,none,none,none,none] 18 (by simp) [];have d:=JH Z;have hnl:(HE e).length=e.length:=by simp[HE]
 generalize X:HE e=f at e1 d hnl;obtain⟨snd,e2,hsn,_⟩:=AE (s:=s) hr [ql [.int C,.int K,.int B,.int w],qs s,ql r,ql e,ql u,ql l,ql f,none,none,none,none,none,none,none,none,none,none,none,none] 18 1 (by simp) (by lia) rfl [];obtain⟨o,fr,q11,q12,htk,hfr,hfl,e3⟩:=step_if (Ph (n+3)) (Ph (n+2)) (d0:=C) (ds:=[.int K,.int B,.int w]) (rooms:=.lst r) (cells:=.lst e) d hw hsn;have hml:=Dp o;have I:=GK o;generalize hM:more o=R at e3 hml I;have y:∀x ∈ f++R,nK x:=λx hx=>(fO.mp hx).elim (d x) (I x)
 have j:f.length+R.length≤1000000:=by lia
 have hcf:e.length≤1000000:=by lia
 let F:Option D->Option D->Lc:=λq t=>[ql [.int C,.int K,.int B,.int w],qs s,ql r,ql e,ql u,ql l,ql f,ql snd,qp o,ql fr,ql R,q11,q12,qr 0,q,t,none,none]
 let Inv:Nat->Lc->aL->Prop:=λi L S=>∃(H:List P)(q t:Option D),H.length≤i/\(∀c ∈ H,HL (f++R) c)/\L=F q t/\S=[.lst (H.map .p)]
 obtain⟨L',S',e4,p,q,t,E,hch,rfl,rfl⟩:=bJ (g:=bZ [ar 14,ar 15]) (b:=eI (Ph (n+3))) (Inv:=Inv) (s:=bG 0 fr) (k:=0) (L:=F none none) (S:=[.lst []]) (fun i v L S hv hI=>by
   obtain⟨x,N,rfl⟩:=fB hv;have hi:=dB N;obtain⟨x,ox,rfl⟩:=hfr x (aM N);obtain⟨H,q,t,Z,ho,rfl,rfl⟩:=hI;have G:H.length≤1000000:=by lia
   obtain⟨a,b,ha,hb,ea,eb⟩:∃a b:Int,(0 < a/\a < 1152921504606846976)/\(0 < b/\b < 1152921504606846976)/\L2.atI [P.int 1,.int 1000,.int 1000000] (i:Int)=some (.int a)/\L2.atI [P.int 2,.int 2000,.int 2000000] (i:Int)=some (.int b):=by
    have:i=0\/i=1\/i=2:=by lia
    rcases this with rfl|rfl|rfl
    .exact⟨1,2,by decide,by decide,by simp,by simp⟩
    .exact⟨1000,2000,by decide,by decide,by simp,by simp⟩
    .exact⟨1000000,2000000,by decide,by decide,by simp,by simp⟩
   by_cases h:K / a % 2=1
   .obtain⟨tr,htr,W⟩:=wt (n:=n+1) (K / b % 300) y;refine⟨_,F (qi (i:Int)) (qs x),[.lst ((H++[P.tup [.str x,tr]]).map D.p)],rfl,?_,_,_,_,by simp;lia,dF ho ⟨x,tr,ox,htr,rfl⟩,rfl,rfl⟩;rw[<- dE];simp[eI,F,ea,eb,ha,hb,h,j,W,d4,G]
   .refine⟨_,F (qi (i:Int)) (qs x),[.lst (H.map D.p)],rfl,?_,H,_,_,by lia,ho,rfl,rfl⟩;simp[eI,F,ea,ha,h]) ⟨[],none,none,by simp,λ_ h=>(by cases h),rfl,rfl⟩
 rw[cH]at E;obtain⟨z,hz0,hz1,hz2⟩:∃z:Int,0≤z/\z≤1/\cn [.bl (decide (3 < (r.length:Int)))]=some (.int z):=by
  by_cases h:3 < (r.length:Int)
  .exact⟨1,by decide,by decide,by simp[h,cn,jO]⟩
  .exact⟨0,by decide,by decide,by simp[h,cn,jO]⟩
 obtain⟨T,hsl,hsd,e5⟩:=Cu (n:=n) B (s:=s) y hw hr M (m:=2+z) (by lia) (by lia);obtain⟨V,hwh,e6⟩:=cond_ok (n:=n) (w % 27000) d;obtain⟨r1,hr1,e7⟩:=eh A (w / 27000);obtain⟨r2,hr2,e8⟩:=eh A (w / 216000);have hl:=len_pos A;refine⟨r1,V,o,p,T,r2,⟨hr1,hr2,X ▸ hwh,htk,by lia,X ▸ hM ▸ hch,hsl,X ▸ hM ▸ hsd⟩,?_⟩;rw[ua,bx];simp only[F]at e4;simp[ma,bo,hcf,uU M,kh,e1,e2,mU,e3,e4,j,dM,d9,hz2,e5,e6,hl,e7,e8,fZ]
inductive isStep(s:Str)(rooms cells whos rs:List P)(v:P):Prop
 |mk (x:Str) (rm wh tk:P) (chg sn:List P) (rm2:P):aA x=true->Stp s rooms cells whos rs rm wh tk chg sn rm2->v=.tup [.str x,rm,wh,tk,.lst chg,.lst sn,rm2]->isStep s rooms cells whos rs v
structure Fam(rs:List P)(nm:Str)(crew:Nat)(rooms cells whos steps:List P):Prop where
 hnm:aA nm=true
 hcr:1≤crew/\crew≤4
 hro:∀x ∈ rooms,nK x
 r0:rooms≠[]
 rl:rooms.length≤8
 hce:EW cells
 cl:cells.length≤3
 hwh:∀x ∈ whos,nK x
 wl:whos.length≤2
 s0:steps≠[]
 sl:steps.length≤8
 hst:∀x ∈ steps,isStep nm rooms cells whos rs x
 sd:steps.Pairwise λa b=>eR a≠eR b
inductive isFam(rs:List P)(v:P):Prop
 |mk (nm:Str) (crew:Nat) (rooms cells whos steps:List P):Fam rs nm crew rooms cells whos steps->v=.tup [.str nm,.int (crew:Int),.lst rooms,.lst cells,.lst whos,.lst steps]->isFam rs v
theorem pI(s:List Int)(j:Nat)(o:Nat)(L:Lc)(c:j < L.length)(r:L[0]? = some (qp (eU s)))(h:0≠j)(u:o+m≤16)(S:aL) :
  ∃a,bt (ar j) cE (fY (Ph (n+3) "_law_name") (v2 dH (az (vi (o:Int)) (vv j)))) (Ev.intsFrom 0 m) L S=some (a,S)/\(∀y ∈ a,nK y)/\a.length=(Ev.intsFrom 0 m).length:=by
 refine kQ (Inv:=λf=>∃d,f=L.set j d) (λv p f t=>?_) ⟨L[j],(gA c).symm⟩;obtain⟨d,rfl⟩:=t;obtain⟨i,rfl,w⟩:=jH p;obtain⟨x,q,_,e⟩:=oM (n:=n) s (k:=o+i) (by lia);have e:cU (Ph (n+3) "_law_name") [eU s,.int ((o:Int)+(i:Int))]=some (.str x):=by rw[<- e];rfl
 have g:((L.set j d).set j (qi (0+(i:Int))))[j]? = some (qi (0+(i:Int))):=by rw[cC (by simpa using c)]
 have b:((L.set j d).set j (qi (0+(i:Int))))[0]? = some (qp (eU s)):=by rw[bg (aK h),bg (aK h)];exact r
 simp only[cI]at g b ⊢;exact⟨_,.str x,rfl,⟨_,cj ..⟩,by simp[-cj,g,b,e],x,q,rfl⟩
theorem Kj(s:List Int)(f:Int)(C:0≤f)(D:f < 900)(L:Lc)(P:L.length=14)(F:L[0]? = some (qp (eU s)))(x:L[12]? = some (qi f))(S:aL) :
  ∃l z o H:Int,bt (ar 13) cE (fY (Ph (n+2) "_law_mix") (v2 (fY (Ph (n+2) "_law_cell_at") (v2 dH (az vM (aC (az lz mv) (vi 24))))) (az (az (vi 11) lz) mv))) (Ev.intsFrom 0 4) L S=some ([.int l,.int z,.int o,.int H],S):=by
 obtain⟨B,e,y,h⟩:=kQ (Q:=fun v=>∃d:Int,v=.int d) (g:=ar 13) (e:=fY (Ph (n+2) "_law_mix") (v2 (fY (Ph (n+2) "_law_cell_at") (v2 dH (az vM (aC (az lz mv) (vi 24))))) (az (az (vi 11) lz) mv))) (S:=S) (s:=Ev.intsFrom 0 4) (Inv:=fun m=>∃d,m=L.set 13 d) (L:=L) (fun v A m K=>by
  obtain⟨d,rfl⟩:=K;obtain⟨i,rfl,E⟩:=jH A;obtain⟨c,r,G,t,q⟩:=im (n:=n) s (k:=5+(f+(0+(i:Int))) % 24) (p:=11+f+(0+(i:Int))) (by lia) (by lia) (by lia);have w:((L.set 13 d).set 13 (qi (0+(i:Int))))[13]? = some (qi (0+(i:Int))):=by rw[cC (by simp[P])]
  have u:((L.set 13 d).set 13 (qi (0+(i:Int))))[0]? = some (qp (eU s)):=by rw[bg (by decide),bg (by decide)];exact F
  have j:((L.set 13 d).set 13 (qi (0+(i:Int))))[12]? = some (qi f):=by rw[bg (by decide),bg (by decide)];exact x
  simp only[cI]at w u j t q ⊢;exact⟨_,.int r,rfl,⟨_,cj ..⟩,by simp[-cj,w,u,j,t,q],r,rfl⟩) ⟨L[13]'(by lia),(gA (by lia)).symm⟩
 rw[cg]at h;match B,h with
 | [a,b,c,d],_=>obtain⟨a,rfl⟩:=y a (by simp);obtain⟨b,rfl⟩:=y b (by simp);obtain⟨c,rfl⟩:=y c (by simp);obtain⟨d,rfl⟩:=y d (by simp);exact⟨a,b,c,d,e⟩
theorem A3(B:List Int)(k:Nat)(hk:k≤3)(hnm:aA N=true)(w:Nat)(hcr:1≤w/\w≤4)(wide:Bool)(hr:∀c ∈ l,isRoad c)(hrl:l.length≤8) :
  ∃v,isFam l v/\(∃tl,v=.tup (.str N::.int (w:Int)::tl))/\cU (Ph (n+5) "_law_family") [eU B,.int (k:Int),.str N,.int (w:Int),.bl wide,.lst l]=some v:=by
 obtain⟨z,t,hz0,hz1,I,ht1,ez,et⟩:∃z t:Int,0≤z/\z≤1/\0 < t/\t≤8/\cn [.bl wide]=some (.int z)/\L2.atI [P.int 3,.int 8] z=some (.int t):=by
  cases wide
  .exact⟨0,3,by decide,by decide,by decide,by decide,by simp[cn,jO],by simp⟩
  .exact⟨1,8,by decide,by decide,by decide,by decide,by simp[cn,jO],by simp⟩
 obtain⟨e,hcl,hc,ec⟩:=Et (n:=n) B (f:=(k:Int)) (m:=2+z) (by lia) (by lia) (by lia);obtain⟨c9,e91⟩:=uh (n:=n+2) B (k:=2+(k:Int)) (by lia);obtain⟨M,ha9,e92⟩:=tL (n:=n+2) c9 (p:=9) (by lia) (by lia);obtain⟨E,ha8,e82⟩:=tL (n:=n+2) c9 (p:=8) (by lia) (by lia);obtain⟨Z,ha7,e72⟩:=tL (n:=n+2) c9 (p:=7) (by lia) (by lia);have h9a:0≤M % t:=ci _ (by lia);have h9b:M % t < t:=cJ _ I;have h7a:0≤Z % t:=ci _ (by lia);have h7b:Z % t < t:=cJ _ I;have h8a:0≤E % (2+z):=ci _ (by lia);have h8b:E % (2+z) < 2+z:=cJ _ (by lia);let A:List (Option D):=[qp (eU B),qi (k:Int),qs N,qi (w:Int),qp (.bl wide),ql l]
 obtain⟨r,er,W,o⟩:=pI (n:=n+1) B 11 4 (A++[ql e,qi M,none,none,none,none,none]) (by simp[A]) rfl (by decide) (m:=(1+M % t).toNat) (by lia) [];obtain⟨u,ew,hw,hwl⟩:=pI (n:=n+1) B 11 10 (A++[ql e,qi E,ql r,none,none,none,none]) (by simp[A]) rfl (by decide) (m:=(E % (2+z)).toNat) (by lia) [];rw[cg]at o hwl;have V:r≠[]:=λq=>by rw[q]at o;simp at o;lia
 let F:Option D->Option D->Option D->Lc:=λQ a d=>A++[ql e,Q,ql r,ql u,qr 0,a,d]
 let Inv:Nat->Lc->aL->Prop:=λi L S=>∃(y:List P)(Q a d:Option D),y.length=i/\((∀c ∈ y,isStep N r e u l c)/\∀k v,y[k]? = some v->hd (eR v)=some (105+k))/\L=F Q a d/\S=[.lst (y.map .p)]
 obtain⟨L',S',e4,stp,Q,a,d,G,⟨hst,X⟩,rfl,rfl⟩:=bJ (g:=ar 11) (b:=fD (Ph (n+4))) (Inv:=Inv) (s:=Ev.intsFrom 0 (1+Z % t).toNat) (k:=0) (L:=F (qi E) none none) (S:=[.lst []]) (fun i v L S K hI=>by
   obtain⟨rfl,hi⟩:=ints_get K;obtain⟨y,Q,a,d,hc1,⟨ho,hon⟩,rfl,rfl⟩:=hI;simp only[cI];have m1:gf 8 (k:Int)=true:=bY (by decide) (by lia);have m2:gf 4 (8 * (k:Int)+(i:Int))=true:=bY (by decide) (by lia);obtain⟨d0,d1,d2,d3,ed⟩:=Kj (n:=n+2) B (4 * (8 * (k:Int)+(i:Int))) (by lia) (by lia) (F Q (qi (i:Int)) (qi (4 * (8 * (k:Int)+(i:Int))))++[none]) rfl rfl rfl [.lst (y.map .p)];obtain⟨x,hx,hxh,ex⟩:=oM (n:=n+1) B (k:=8+i) (by lia);have ex:cU (Ph (n+4) "_law_name") [eU B,.int (8+(i:Int))]=some (.str x):=by rw[<- ex];rfl
   obtain⟨rm,wh,tk,H,sn,C,hys,es⟩:=F0 (n:=n) d0 d1 d2 d3 (s:=N) W V hc.1 (by lia) hw hr hrl;have T:y.length≤1000000:=by lia
   have R:ky (.tup [.str x]) (.tup [rm,wh,tk,.lst H,.lst sn,C])=some (.tup [.str x,rm,wh,tk,.lst H,.lst sn,C]):=rfl;refine⟨_,F (ql [.int d0,.int d1,.int d2,.int d3]) (qi (i:Int)) (qi (4 * (8 * (k:Int)+(i:Int)))),[.lst ((y++[P.tup [.str x,rm,wh,tk,.lst H,.lst sn,C]]).map D.p)],rfl,?_,_,_,_,_,by simp;lia,⟨dF ho ⟨x,rm,wh,tk,H,sn,C,hx,hys,rfl⟩,fun k v K=>by
    rcases hX k y.length with hk|hk
    .rw [bw hk]at K;exact hon k v K
    .rw [bU hk]at K;have hk0:k-y.length=0:=by
      rcases yV (k-y.length) with h|h
      .exact h
      .rw [cB (by simp;lia)]at K;cases K
     rw[hk0]at K;cases K;show hd x=_;rw[hxh];congr 1;lia⟩,rfl,rfl⟩
   rw[<- dE];simp only[F,A,yx,fh]at ed;simp[fD,F,A,m1,m2,bo,cg,kh,ed,ex,es,R,d4,T]) ⟨[],_,none,none,rfl,⟨λ_ h=>(by cases h),λ_ _ h=>(by simp at h)⟩,rfl,rfl⟩
 rw [cg] at G;refine⟨_,⟨N,w,r,e,u,stp,⟨hnm,hcr,W,V,by lia,hc,by lia,hw,by lia,fun q=>by rw [q] at G;simp at G;lia,by lia,hst,yN.mpr fun i j hi hj hij q=>by
  have h1:=X i _ (bq hi);have h2:=X j _ (bq hj);rw[q,h2]at h1;have:=du h1
  lia⟩,rfl⟩,⟨_,rfl⟩,?_⟩
 have hz2:0 < 2+z:=by lia
 have q1:(1+M % t).natAbs < 1000000:=by lia
 have q2:(1+Z % t).natAbs < 1000000:=by lia
 have q3:(E % (2+z)).natAbs < 1000000:=by lia
 have q4:(1+M % t).toNat≤1000000:=by lia
 have q5:(E % (2+z)).toNat≤1000000:=by lia
 rw[pX,bx];simp only[F,A,yx,fh]at e4 er ew;simp only[show((4:Nat):Int)=4 from rfl]at er;simp only[show((10:Nat):Int)=10 from rfl]at ew;simp[jR,ez,et,ec,e91,e92,e82,e72,I,hz2,q1,q2,q3,q4,q5,bo,cg,kh,er,ew,e4]
theorem u5(c:List Int)(j:Nat)(L:Lc)(o:j < L.length)(H:L[0]? = some (qp (eU c)))(b:0≠j)(K:m≤16)(S:aL) :
  ∃q,bt (ar j) cE (fY (Ph (n+3) "_law_name") (v2 dH (vv j))) (Ev.intsFrom 0 m) L S=some (q,S)/\(∀y ∈ q,nK y)/\(∀(i:Nat) y,q[i]? = some y->∃x,y=.str x/\hd x=some (97+i))/\q.length=(Ev.intsFrom 0 m).length:=by
 let f:P->P:=λv=>(cU (Ph (n+3) "_law_name") [eU c,v]).getD .non
 have w:∀i,i < m->∃x,aA x=true/\hd x=some (97+i)/\cU (Ph (n+3) "_law_name") [eU c,.int (i:Int)]=some (.str x)/\f (.int (i:Int))=.str x:=λi e=>by obtain⟨x,t,u,r⟩:=oM (n:=n) c (k:=i) (by lia);exact⟨x,t,u,r,by simp[f,r]⟩
 refine⟨(Ev.intsFrom 0 m).map f,?_,λy a=>?_,λi y a=>?_,by simp⟩
 .rw [cx (p:=λ_=>true) (f:=f) (Inv:=λg=>∃d,g=L.set j d) (λv h g F=>?_) ⟨L[j],(gA o).symm⟩,hE.mpr λ_ _=>rfl];obtain⟨d,rfl⟩:=F;obtain⟨i,rfl,e⟩:=jH h;obtain⟨x,t,_,r,s⟩:=w i e;have l:((L.set j d).set j (qi (0+(i:Int))))[j]? = some (qi (0+(i:Int))):=by
   rw[cC (by simpa using o)]
  have z:((L.set j d).set j (qi (0+(i:Int))))[0]? = some (qp (eU c)):=by rw[bg (aK b),bg (aK b)];exact H
  simp only[cI]at l z ⊢;exact⟨_,rfl,⟨_,cj ..⟩,rfl,λ_=>by rw[s];simp[-cj,l,z,r]⟩
 .obtain⟨v,h,rfl⟩:=a_.mp a;obtain⟨i,rfl,e⟩:=jH h;obtain⟨x,t,_,_,s⟩:=w i e;rw[cI,s];exact⟨x,t,rfl⟩
 .rw [aZ]at a;cases h:(Ev.intsFrom 0 m)[i]? with
  |none=>rw[h]at a;cases a
  |some v=>rw[h]at a;cases a;obtain⟨rfl,e⟩:=ints_get h;obtain⟨x,_,u,_,s⟩:=w i e;exact⟨x,by rw[cI,s],u⟩
noncomputable def br:P->Nat
 | .tup (_::.int c::_)=>c.toNat
 |_=>0
def DS(v:P):Prop:=∃(k f s:Str),(k="weak"\/k="strong")/\aA f=true/\aA s=true/\v=.tup [.str k,.str f,.str s]
structure Pln(fams roads wishes:List P):Prop where
 hf:∀f ∈ fams,isFam roads f
 cr:∃c,(∀f ∈ fams,br f≤c)/\fams.length * c≤4
 f0:1≤fams.length/\fams.length≤4
 hr:∀r ∈ roads,isRoad r
 ra:∀r ∈ roads,(∃f ∈ fams,eR f=rA r)/\∃f ∈ fams,eR f=rB r
 rl:roads.length≤8
 hw:∀w ∈ wishes,DS w
 wl:wishes.length≤6
 rd:roads.Pairwise RD
 fd:∀f ∈ fams,∀g ∈ fams,eR f=eR g->f=g
theorem Hj(f:h->a)(x:List h)(i:Int):L2.atI (x.map f) i=(L2.atI x i).map f:=by
 unfold L2.atI;rw[aU];cases L2.AU x.length i with
 |none=>rfl
 |some j=>simp
theorem Gs(ns:List Int):∃o A H,Pln o A H/\cU (Ph (n+6) "_law_plan") [eU ns,.int 3]=some (.tup [.lst o,.lst A,.lst H]):=by
 obtain⟨K,e0⟩:=uh (n:=n+3) ns (k:=0) (by lia);generalize hwd:decide (K / 64 % 8=1)=wide;obtain⟨z,t,hz0,hz1,ht0,ht1,ez,et⟩:∃z t:Int,0≤z/\z≤1/\0 < t/\t≤4/\cn [.bl wide]=some (.int z)/\L2.atI [P.int 2,.int 4] z=some (.int t):=by
  cases wide
  .exact⟨0,2,by decide,by decide,by decide,by decide,by simp[cn,jO],by simp⟩
  .exact⟨1,4,by decide,by decide,by decide,by decide,by simp[cn,jO],by simp⟩
 have hm0:0≤K % t:=ci _ (by lia);have hm1:K % t < t:=cJ _ ht0;obtain⟨m,hm⟩:∃m:Nat,1+K % t=(m:Int):=⟨(1+K % t).toNat,by lia⟩;have hm2:1≤m/\m≤4:=by lia
 obtain⟨B,en,hnm,hnh,hnl⟩:=u5 (n:=n+2) ns 8 [qp (eU ns),qi 3,qi K,qp (.bl wide),qi (m:Int),none,none,none,none,none,none,none,none,none] (by simp) rfl (by decide) (m:=m) (by lia) [];rw [cg] at hnl;obtain⟨A,⟨hrl,hr,hrd⟩,er⟩:=CF (n:=n+2) ns hnm (fun i j x h1 h2=>by
  obtain⟨a,rfl,ha⟩:=hnh i _ h1;obtain⟨b,e,hb⟩:=hnh j _ h2;cases e;rw[ha]at hb;have:=du hb
  lia) (by lia) (m:=2+z) (by lia) (by lia)
 obtain⟨b,hb0,hb1,hbm,eb⟩:∃b:Int,0 < b/\b≤4/\m * b.toNat≤4/\L2.atI [P.int (3+z),.int 2,.int 1,.int 1] ((m:Int)-1)=some (.int b):=by
  have:m=1\/m=2\/m=3\/m=4:=by lia
  rcases this with rfl|rfl|rfl|rfl
  .exact⟨3+z,by lia,by lia,by lia,by simp⟩
  .exact⟨2,by decide,by decide,by decide,by simp⟩
  .exact⟨1,by decide,by decide,by decide,by simp⟩
  .exact⟨1,by decide,by decide,by decide,by simp⟩
 let F:Option D->Option D->Option D->Option D->Option D->Option D->Lc:=λZ q9 E q11 V W=>[qp (eU ns),qi 3,qi K,qp (.bl wide),qi (m:Int),ql B,ql A,qr 0,Z,q9,E,q11,V,W]
 let Inv:Nat->Lc->aL->Prop:=λi L S=>∃(Q:List P)(Z q9 E:Option D),Q.length=i/\(∀c ∈ Q,isFam A c/\br c≤b.toNat)/\(∀j x,B[j]? = some x->j < i->∃f,Q[j]? = some f/\x=.str (eR f))/\L=F Z q9 E none none none/\S=[.lst (Q.map .p)]
 obtain⟨L',S',e1,o,Z,q9,E,hfl,hfa,hfn,rfl,rfl⟩:=bJ (g:=bZ [ar 8,ar 9]) (b:=gn (Ph (n+5))) (Inv:=Inv) (s:=bG 0 B) (k:=0) (L:=F none none none none none none) (S:=[.lst []]) (fun i v L S hv hI=>by
   obtain⟨x,hx1,rfl⟩:=fB hv;have hi:=dB hx1;obtain⟨nm,hnm1,rfl⟩:=hnm x (aM hx1);obtain⟨Q,Z,q9,E,hc,ho,hon,rfl,rfl⟩:=hI;obtain⟨a,ha,ea⟩:∃a:Int,(0 < a/\a < 1152921504606846976)/\L2.atI [P.int 4,.int 12,.int 16,.int 16] (i:Int)=some (.int a):=by
    have:i=0\/i=1\/i=2\/i=3:=by lia
    rcases this with rfl|rfl|rfl|rfl
    .exact⟨4,by decide,by simp⟩
    .exact⟨12,by decide,by simp⟩
    .exact⟨16,by decide,by simp⟩
    .exact⟨16,by decide,by simp⟩
   have hb2:0≤K / a % b:=ci _ (by lia);have hb3:K / a % b < b:=cJ _ hb0;obtain⟨cr,hcr⟩:∃cr:Nat,1+K / a % b=(cr:Int):=⟨(1+K / a % b).toNat,by lia⟩;obtain⟨v,hv2,⟨tl,hv3⟩,ev⟩:=A3 (n:=n) ns i (by lia) hnm1 cr (by lia) wide (λr h=>(hr r h).1) hrl;have T:Q.length≤1000000:=by lia
   refine⟨_,F (qi (i:Int)) (qs nm) (qi (cr:Int)) none none none,[.lst ((Q++[v]).map D.p)],rfl,?_,_,_,_,_,by simp;lia,dF ho ⟨hv2,?_⟩,λj x hj hji=>?_,rfl,rfl⟩
   .rw [<- dE];simp[gn,F,ea,ha,ez,eb,hb0,hcr,ev,d4,T]
   .rw [hv3];simp[br];lia
   .by_cases hjj:j < i
    .obtain⟨f,M,e⟩:=hon j x hj (by lia);exact⟨f,by rw[bw (dB M)];exact M,e⟩
    .have:j=i:=by lia
     subst this;rw[hx1]at hj;cases hj;exact⟨v,by rw[bU (by lia),hc];simp,by rw[hv3];rfl⟩) ⟨[],none,none,none,rfl,λ_ h=>(by cases h),λ_ _ _ h=>(by lia),rfl,rfl⟩
 have X:o.length=m:=by rw[hfl,cH,hnl];lia
 have hf0:o≠[]:=λq=>by rw[q]at X;simp at X;lia
 have hfn':∀x ∈ B,∃f ∈ o,x=.str (eR f):=λx hx=>by obtain⟨j,hj,e⟩:=lu.mp hx;obtain⟨f,M,e⟩:=hfn j x (by rw[bq hj,e]) (by rw[cH];lia);exact⟨f,aM M,e⟩
 have hfd:∀f ∈ o,∃a:Nat,o[a]? = some f/\hd (eR f)=some (97+a):=λf M=>by obtain⟨a,ha,e⟩:=lu.mp M;have h1:=bq ha;rw[e]at h1;have h2:=bq (l:=B) (i:=a) (by lia);obtain⟨g,hg,e2⟩:=hfn a _ h2 (by rw[cH];lia);rw[h1]at hg;cases hg;obtain⟨y,e3,hy⟩:=hnh a _ h2;rw[e2]at e3;cases e3;exact⟨a,h1,hy⟩
 let Inv3:Nat->Lc->aL->Prop:=λi L S=>∃(Q:List P)(Z V W:Option D),Q.length=i/\(∀c ∈ Q,DS c)/\L=F Z q9 E (qr 1) V W/\S=[.lst (o.map .p),.lst (Q.map .p)]
 obtain⟨w,hw0,hw1,ew⟩:∃w:Int,0≤w/\w≤1/\cn [.bl (wide && decide (K % 3=1))]=some (.int w):=by
  cases (wide && decide (K % 3=1))
  .exact⟨0,by decide,by decide,rfl⟩
  .exact⟨1,by decide,by decide,rfl⟩
 obtain⟨L',S',e2,H,q8',V,W,hwl,hwi,rfl,rfl⟩:=bJ (g:=ar 8) (b:=gm (Ph (n+5))) (Inv:=Inv3) (s:=Ev.intsFrom 0 (K / 48 % 3+4 * w).toNat) (k:=0) (L:=F Z q9 E (qr 1) none none) (S:=[.lst (o.map .p),.lst []]) (fun i v L S hv hI=>by
   obtain⟨rfl,hi⟩:=ints_get hv;obtain⟨Q,Z,V,W,hc,ho,rfl,rfl⟩:=hI;simp only[cI];obtain⟨c,d,hd,e3,e4⟩:=im (n:=n+3) ns (k:=4) (p:=20+(i:Int)) (by lia) (by lia) (by lia);obtain⟨f,M,ef⟩:=eh hf0 d;rw[X]at ef;obtain⟨nm,R,I,G,u,C,N,rfl⟩:=(hfa f M).1;obtain⟨s,hs,es⟩:=eh N.s0 (d / 8);have hls:=len_pos N.s0;obtain⟨x,rm,wh,tk,chg,sn,rm2,hx,hys,rfl⟩:=N.hst s hs;obtain⟨mk,hmk,emk⟩:=pC (a:="weak") (b:="strong") (d / 4);have T:Q.length≤1000000:=by lia
   have ef2:L2.atI (o.map D.p) (d % (m:Int))=qt [.str nm,.int (R:Int),.lst I,.lst G,.lst u,.lst C]:=by rw[Hj,ef];rfl
   have hmp:(0:Int) < (m:Int):=by lia
   have hmp2:0 < m:=by lia
   refine⟨_,F (qi (i:Int)) q9 E (qr 1) (qi d) (qt [.str nm,.int (R:Int),.lst I,.lst G,.lst u,.lst C]),[.lst (o.map .p),.lst ((Q++[P.tup [.str mk,.str nm,.str x]]).map D.p)],rfl,?_,_,_,_,_,by simp;lia,dF ho ⟨mk,nm,x,hmk,N.hnm,hx,rfl⟩,rfl,rfl⟩;rw[<- dE];have e5:L2.atI [P.str nm,.int (R:Int),.lst I,.lst G,.lst u,.lst C] 5=some (.lst C):=cO (by decide) rfl;simp[gm,F,e3,e4,hmp,hmp2,ef2,e5,emk,dM,d9,hls,es,d4,T]) ⟨[],_,none,none,rfl,λ_ h=>(by cases h),rfl,rfl⟩
 rw[cg]at hwl;refine⟨o,A,H,⟨λf h=>(hfa f h).1,⟨b.toNat,λf h=>(hfa f h).2,by rw[X];exact hbm⟩,by lia,λr h=>(hr r h).1,λr h=>⟨?_,?_⟩,hrl,hwi,by lia,hrd,λf M g hg q=>?_⟩,?_⟩
 .obtain⟨f,M,e⟩:=hfn' _ (hr r h).2.1;exact⟨f,M,(P.str.inj e).symm⟩
 .obtain⟨f,M,e⟩:=hfn' _ (hr r h).2.2;exact⟨f,M,(P.str.inj e).symm⟩
 .obtain⟨a,h1,h2⟩:=hfd f M;obtain⟨a',h3,h4⟩:=hfd g hg;rw[q,h4]at h2;have:=du h2
  rw[show a=a' by lia,h3]at h1;exact(du h1).symm
 have q1:(K / 48 % 3+4 * w).natAbs < 1000000:=by lia
 have q2:gf 4 w=true:=bY (by decide) (by lia);have q3:m < 1000000:=by lia
 have q4:m≤1000000:=by lia
 have t0:jk 9 (.ref 0) [.lst (o.map .p),.lst (H.map .p)]=some (.lst o,[.fz (.lst o),.lst (H.map .p)]):=fZ rfl;have t1:jk 9 (.ref 1) [.fz (.lst o),.lst (H.map .p)]=some (.lst H,[.fz (.lst o),.fz (.lst H)]):=fZ rfl;rw[ub,bx];simp only[F]at e1 e2;cases wide
 .simp only[yc]at ew;have hzw:z=w:=by rw[ez]at ew;cases ew;rfl
  subst hzw;simp[jg,e0,hwd,ez,et,ht0,hm,q1,q2,q3,q4,bo,cg,kh,en,er,e1,ew,e2,t0,t1]
 .simp only[sf]at ew;simp[jg,e0,hwd,ez,et,ht0,hm,q1,q2,q3,q4,bo,cg,kh,en,er,e1,ew,e2,t0,t1]
end My
namespace My
open PySem L2 Ev
section
variable{m:List P}
def hw:Nat->List P->List (Nat×P)
 |_,[]=>[]
 |k,f::r=>List.replicate (br f) (k,f)++hw (k+1) r
theorem isFam.crew(h:isFam m f):br f≤4:=by obtain⟨n,c,r,e,w,s,x,rfl⟩:=h;simpa[br] using x.hcr.2
theorem wW:∀{a:List P}(k:Nat),(∀f ∈ a,isFam m f)->(hw k a).length≤4 * a.length
 | [],k,_=>by simp[hw]
 |f::r,k,h=>by have:=wW (a:=r) (k+1) λx e=>h x (aR _ e);have c:=(h f aO).crew;simp[hw];lia
theorem kP:∀{a:List P}{k:Nat}{x:Nat×P},x ∈ hw k a->∃j,x.1=k+j/\a[j]? = some x.2
 | [],k,x,h=>by simp[hw]at h
 |f::r,k,x,h=>by
  unfold hw at h;rcases fO.mp h with h|h
  .obtain⟨_,rfl⟩:=sF.mp h;exact⟨0,by simp,by simp⟩
  .obtain⟨j,s,e⟩:=kP h;exact⟨j+1,by lia,by simpa using e⟩
def ij(f:List P):List P:=(hw 0 f).map λx=>.int (x.1:Int)
def aG(f:List P):List P:=(hw 0 f).map (·.2)
theorem Am(S:aL)(x:SO):(S++[x])[S.length]? = some x:=by simp
theorem mS(k:Nat):((k+1:Nat):Int)=(k:Int)+1:=by lia
theorem zX(y K:Str->GF)(S:aL)(d:P):∀(n:List P)(k:Nat)(a:List P)(g i:Option D),(∀f ∈ n,isFam m f)->a.length+4 * n.length≤1000 ->
  ∃q t,bR (bZ [ar 2,ar 3]) (eN y) (bG (k:Int) n) [qp d,qr S.length,g,i] (S++[.lst (a.map .p)])=some (.nx,[qp d,qr S.length,q,t],S++[.lst ((a++(hw k n).map λx=>P.int (x.1:Int)).map .p)])
 | [],k,a,g,i,_,_=>⟨g,i,by simp[bG,bR,hw]⟩
 |f::r,k,a,g,i,h,H=>by
  obtain⟨u,c,o,l,w,s,z,rfl⟩:=h f aO;have A:=z.hcr.2;simp only[aX]at H;obtain⟨q,t,e⟩:=zX y K S d r (k+1) (a++List.replicate c (P.int (k:Int))) (qi (k:Int)) (qt [.str u,.int (c:Int),.lst o,.lst l,.lst w,.lst s]) (λx F=>h x (aR _ F)) (by simp;lia);refine⟨q,t,?_⟩;have j:(hw k (.tup [.str u,.int (c:Int),.lst o,.lst l,.lst w,.lst s]::r)).map (λx=>P.int (x.1:Int))=List.replicate c (P.int (k:Int))++(hw (k+1) r).map (λx=>P.int (x.1:Int)):=by simp[hw,br]
  rw[j,<- fj];unfold bG;rw[mS]at e;refine(cz (h:=[qp d,qr S.length,qi (k:Int),qt [.str u,.int (c:Int),.lst o,.lst l,.lst w,.lst s]]) (L2:=[qp d,qr S.length,qi (k:Int),qt [.str u,.int (c:Int),.lst o,.lst l,.lst w,.lst s]]) (x:=S++[.lst ((a++List.replicate c (P.int (k:Int))).map .p)]) rfl ?_).trans e;have v:c≤1000000:=by lia
  have p:c < 1000000:=by lia
  have b:a.length+c≤1000000:=by lia
  simp[eN,d4,v,p,b]
theorem M0(h:∀f ∈ a,isFam m f)(l:a.length≤4)(r w:P)(S:aL):Ph (n+2) "families_of" [.p (.tup [.lst a,r,w])] S=some (.ref S.length,S++[.lst ((ij a).map .p)]):=by obtain⟨q,s,e⟩:=zX (Ph (n+1)) (Ph n) S (.tup [.lst a,r,w]) a 0 [] none none h (by simp;lia);rw[nP];simp only[fh,gy]at e;have x:=e;rw[show((0:Nat):Int)=0 from rfl]at x;simp[jl,js,x,ij]
theorem t6(h:∀f ∈ a,isFam m f)(l:a.length≤4)(r w:P):cU (Ph (n+2) "families_of") [.tup [.lst a,r,w]]=some (.lst (ij a)):=by unfold cU;rw[aF,gy,M0 (n:=n) h l r w []];simp
def aQ(f:List P):LS:=(aG f).map eR
theorem lS(h:∀f ∈ a,isFam m f)(s:f ∈ aG a):isFam m f:=by unfold aG at s;obtain⟨x,n,rfl⟩:=a_.mp s;obtain⟨j,_,e⟩:=kP n;exact h _ (aM e)
noncomputable def dr(N:LS)(s:Str):List Nat:=(List.range N.length).filter λi=>decide (N[i]? = some s)
theorem zZ:∀(s:List P)(k:Nat),bG (k:Int) s=(yp k s.length).map λi=>.tup [.int (i:Int),(s[i-k]?).getD .non]
 | [],k=>rfl
 |x::r,k=>by
  unfold bG;have h:=zZ r (k+1);rw[mS]at h;rw[h,aX,sv,aF];simp only[yS];congr 1;refine oA λi a=>?_
  have:=(List.mem_range'_1.mp a).1;rw[show i-k=(i-(k+1))+1 by lia,List.getElem?_cons_succ]
theorem HP(x:List P):bG 0 x=(List.range x.length).map λi=>.tup [.int (i:Int),(x[i]?).getD .non]:=by have:=zZ x 0;rw[List.range_eq_range'];simpa using this
noncomputable def pr(road:P)(n o:Nat):P:=.tup [road,.int (n:Int),.int (o:Int)]
def vO(N:LS)(road:P):List P:=(dr N (rA road)).flatMap λn=>((dr N (rB road)).filter λo=>!decide (n=o)).map λo=>pr road n o
def bi(N:LS)(r:List P):List P:=r.flatMap (vO N)
noncomputable def ka(s:List Nat):List P:=s.map λ(i:Nat)=>P.int (i:Int)
theorem gK(N:LS)(s:Str):(dr N s).length≤N.length:=by unfold dr;exact bh (oB _ _) (by simp)
theorem tt(n:Nat)(road:P)(os:List Nat):((os.filter λo=>!decide (n=o)).map λo=>pr road n o).length≤os.length:=by rw[aU];exact oB _ _
theorem tF(N:LS)(road:P)(os:List Nat)(h:os.length≤16):∀(s:List Nat),(s.flatMap λn=>(os.filter λo=>!decide (n=o)).map λo=>pr road n o).length≤16 * s.length
 | []=>by simp
 |i::s=>by
  have:=tF N road os h s;have:=tt i road os
  simp only[j0,bK,aX];lia
theorem zW:∀{a:List P}(k:Nat),(∀f ∈ a,br f≤c)->(hw k a).length≤a.length * c
 | [],k,_=>by simp[hw]
 |f::r,k,h=>by have:=zW (a:=r) (k+1) λx e=>h x (aR _ e);have s:=h f aO;simp[hw,Nat.add_mul];lia
theorem mK(h:Pln f r w):(aG f).length≤4:=by
 obtain⟨c,x,a⟩:=h.cr;have:=zW 0 x
 unfold aG;simp;lia
theorem tX(h:Pln f r w):(aQ f).length≤4:=by unfold aQ;rw[aU];exact mK h
end
section
variable{m:List P}
theorem D3(h:v ∈ ij a):∃p f,v=.int ((p:Nat):Int)/\a[p]? = some f/\f ∈ aG a:=by unfold ij at h;obtain⟨x,e,rfl⟩:=a_.mp h;obtain⟨j,s,n⟩:=kP e;exact⟨x.1,x.2,rfl,by rw[s,cD];exact n,a_.mpr ⟨x,e,rfl⟩⟩
theorem AW(h:∀p x,a[p]? = some x->g (.int ((p:Nat):Int))=f x):(ij a).map g=(aG a).map f:=by
 unfold ij aG;rw[gx,gx];refine oA λx n=>?_
 obtain⟨j,e,s⟩:=kP n;exact h x.1 x.2 (by rw[e,cD];exact s)
theorem jK(x:List h):x.filter (λ_=>true)=x:=hE.mpr λ_ _=>rfl
theorem AX:(ij f).length=(aG f).length:=by simp[ij,aG]
theorem eO(h:s[p]? = some x):L2.atI s ((p:Nat):Int)=some x:=cO (by lia) (by simpa using h)
theorem CV(t:∀f ∈ a,isFam m f)(r w:P)(S:aL):bt (ar 7) cE (ao (ao (ao dH iA) uv) iA) (ij a) [qt [.lst a,r,w],none,none,none,none,none,none,none] S=some ((aQ a).map .str,S):=by
 rw[cx (p:=λ_=>true) (f:=λv=>match v with | .int i=>(match a[i.toNat]? with|some f=>.str (eR f)|none=>.non)|_=>.non) (Inv:=λL=>∃d,L=[qt [.lst a,r,w],none,none,none,none,none,none,d]) (λv u L b=>?_) ⟨none,rfl⟩]
 .rw [jK,AW (f:=λf=>.str (eR f)) λp x g=>by simp[g]];simp[aQ]
 .obtain⟨d,rfl⟩:=b;obtain⟨p,f,rfl,n,h⟩:=D3 u;obtain⟨j,c,o,l,k,s,q,rfl⟩:=lS t h;have e:=eO n;exact⟨[qt [.lst a,r,w],none,none,none,none,none,none,qi (p:Int)],rfl,⟨_,rfl⟩,rfl,λ_=>by simp[e,n,eR]⟩
def oth(N:LS)(s:Str)(n:Nat):List Nat:=(dr N s).filter λo=>!decide (n=o)
theorem AH(N:LS)(a b:Str)(k:P)(c:Int)(x s:Bool)(l r:D)(o:Nat)(q n:Option D)(S:aL):bt (ar 7) (p' (m5 (U 7) (U 4)) (dC (eV (ao kg uv)) (eV (ao mY fX)))) uv (Ev.intsFrom 0 N.length)
  [some l,ql (N.map .str),some r,qt [.str a,.str b,k,.int c,.bl x,.bl s],qi (o:Int),q,n,none] S=some (ka (oth N b o),S):=by
 rw[cx (p:=λv=>match v with | .int i=>(!decide (o=i.toNat)) && decide (N[i.toNat]? = some b)|_=>false) (f:=id) (Inv:=λL=>∃d,L=[some l,ql (N.map .str),some r,qt [.str a,.str b,k,.int c,.bl x,.bl s],qi (o:Int),q,n,d]) (λv j L w=>?_) ⟨none,rfl⟩]
 .congr 2;unfold Ev.intsFrom ka oth dr;rw[oq,yo,yC];simp only[cI];congr 1
 .obtain⟨d,rfl⟩:=w;obtain⟨i,rfl,u⟩:=jH j;simp only[cI];have g:N[i]? = some N[i]:=bq u;have e:L2.atI (N.map P.str) (i:Int)=some (.str N[i]):=eO (by rw[aZ,g];rfl);refine⟨[some l,ql (N.map .str),some r,qt [.str a,.str b,k,.int c,.bl x,.bl s],qi (o:Int),q,n,qi (i:Int)],rfl,⟨_,rfl⟩,?_,λ_=>by simp⟩;by_cases h:o=i
  .simp [h]
  .have m:¬(i:Int)=(o:Int):=by lia
   have t:¬i=o:=λz=>h z.symm;simp[h,m,t,e,g];first|done|exact decide_eq_decide.mpr Iff.rfl
theorem Gp(road:P)(n:Nat)(L:Lc)(l:L.length=8)(g:L[3]? = some (qp road))(x:L[4]? = some (qi (n:Int)))(os:List Nat)(S:aL):bt (ar 7) cE (bf (v3 mY uD uv)) (ka os) L S=some (os.map λo=>pr road n o,S):=by
 rw[cx (p:=λ_=>true) (f:=λv=>.tup [road,.int (n:Int),v]) (Inv:=λh=>∃d,h=L.set 7 d) (λv b h a=>?_) ⟨L[7],(gA (by lia)).symm⟩]
 .rw [jK];unfold ka pr;rw[gx];rfl
 .obtain⟨d,rfl⟩:=a;have k:((L.set 7 d).set 7 (qp v))[7]? = some (qp v):=by rw[cC (by simp[l])]
  have e:((L.set 7 d).set 7 (qp v))[3]? = some (qp road):=by rw[bg (by decide),bg (by decide)];exact g
  have s:((L.set 7 d).set 7 (qp v))[4]? = some (qi (n:Int)):=by rw[bg (by decide),bg (by decide)];exact x
  exact⟨_,rfl,⟨_,cj ..⟩,rfl,λ_=>by simp[-cj,k,e,s]⟩
def nc(N:LS)(road:P)(n:Nat):List P:=if decide (N[n]? = some (rA road))=true then (oth N (rB road) n).map λo=>pr road n o else []
theorem AK(N:LS)(road:P)(o:Nat)(h:N.length≤16):(nc N road o).length≤16:=by
 unfold nc;split
 .have x:=tt o road (dr N (rB road));have a:=gK N (rB road);unfold oth;lia
 .simp
theorem O8(E Q:Str->GF)(S:aL)(l:D)(N:LS)(y:N.length≤16)(v:isRoad road):∀(r:List Nat)(x:List P)(d w k:Option D),(∀i ∈ r,i < N.length)->x.length+16 * r.length≤50000 ->
  ∃q s n,bR (bZ [ar 4,ar 5]) (eC E) (r.map λ(i:Nat)=>P.tup [.int (i:Int),((N.map P.str)[i]?).getD .non]) [some l,ql (N.map .str),qr S.length,qp road,d,w,k] (S++[.lst (x.map .p)]) =
   some (.nx,[some l,ql (N.map .str),qr S.length,qp road,q,s,n],S++[.lst ((x++r.flatMap (nc N road)).map .p)])
 | [],x,d,w,k,_,_=>⟨d,w,k,by simp[bR]⟩
 |i::r,x,d,w,k,F,V=>by
  simp only[aX]at V;have t:=AK N road i y;have K:=F i aO;have z:N[i]? = some N[i]:=bq K;have H:((N.map P.str)[i]?).getD .non=.str N[i]:=by rw[aZ,z];rfl
  rw[j0,<- fj,aF,H];by_cases h:N[i]=rA road
  .have g:nc N road i=(oth N (rB road) i).map λo=>pr road i o:=by unfold nc;rw[z,h];simp
   rw[g]at t ⊢;obtain⟨q,s,n,e⟩:=O8 E Q S l N y v r (x++(oth N (rB road) i).map λo=>pr road i o) (qi (i:Int)) (qs (N[i])) (ql (ka (oth N (rB road) i))) (λj A=>F j (aR _ A)) (by rw[bK];lia);refine⟨q,s,n,?_⟩;refine(cz (h:=[some l,ql (N.map .str),qr S.length,qp road,qi (i:Int),qs (N[i]),k]) rfl ?_).trans e;have p:x.length+(oth N (rB road) i).length≤1000000:=by rw[aU]at t;lia
   have f:(oth N (rB road) i).length≤1000000:=by lia
   have m:(ka (oth N (rB road) i)).length=(oth N (rB road) i).length:=by simp[ka]
   have W:N.length < 1000000:=by lia
   have C:N.length≤1000000:=by lia
   have u:=Gp road i [some l,ql (N.map .str),qr S.length,qp road,qi (i:Int),qs (N[i]),ql (ka (oth N (rB road) i)),none] rfl rfl rfl (oth N (rB road) i) (S++[.lst (x.map .p)]);obtain⟨a,b,M,c,G,I,R,T,B,_,_,rfl⟩:=v;have L:=AH N a b (.str M) c G I l (.ref S.length) i (qs (N[i])) k (S++[.lst (x.map .p)]);simp only[rA,rB]at h p f m u ⊢;simp[eC,h,bo,dM,d9,W,C,cg,kh,d4,m,f,p];simp[h]at L u;simp[L,u,m,f,p]
  .have g:nc N road i=[]:=by unfold nc;rw[z];simp[h]
   rw[g,dR];obtain⟨q,s,n,e⟩:=O8 E Q S l N y v r x (qi (i:Int)) (qs (N[i])) k (λj A=>F j (aR _ A)) (by lia);refine⟨q,s,n,?_⟩;refine(cz (h:=[some l,ql (N.map .str),qr S.length,qp road,qi (i:Int),qs (N[i]),k]) rfl ?_).trans e;obtain⟨a,b,M,c,G,I,R,T,B,_,_,rfl⟩:=v;simp only[rA]at h;simp[eC,h]
end
section
variable{m:List P}
theorem jJ(p:a->Bool)(f:a->List e):∀s:List a,(s.filter p).flatMap f=s.flatMap λx=>if p x=true then f x else []
 | []=>rfl
 |x::r=>by
  by_cases h:p x=true
  .rw [yI h,j0,j0,jJ p f r,ai h]
  .rw [yH h,j0,jJ p f r,al h,fh]
theorem Je(N:LS)(road:P):(List.range N.length).flatMap (nc N road)=vO N road:=by unfold vO;rw[show dr N (rA road)=(List.range N.length).filter (λi=>decide (N[i]? = some (rA road))) from rfl,jJ];rfl
theorem mE(N:LS)(road:P)(h:N.length≤16):(vO N road).length≤256:=by
 have x:=gK N (rA road);have a:=gK N (rB road);have:=tF N road (dr N (rB road)) (by lia) (dr N (rA road))
 unfold vO;lia
theorem Qb(u l:Str->GF)(S:aL)(p:D)(N:LS)(d:N.length≤16):∀(o:List P)(a:List P)(t q e n:Option D),(∀r ∈ o,isRoad r)->a.length+256 * o.length≤10000 ->
  ∃w x s k,bR (ar 3) (jr u) o [some p,ql (N.map .str),qr S.length,t,q,e,n] (S++[.lst (a.map .p)]) =
   some (.nx,[some p,ql (N.map .str),qr S.length,w,x,s,k],S++[.lst ((a++bi N o).map .p)])
 | [],a,t,q,e,n,_,_=>⟨t,q,e,n,by simp[bR,bi]⟩
 |road::o,a,t,q,e,n,j,H=>by simp only[aX]at H;obtain⟨x,s,k,v⟩:=O8 u l S p N d (j road aO) (List.range N.length) a q e n (λi z=>by simpa using z) (by simp;lia);have F:=mE N road d;obtain⟨f,b,c,m,y⟩:=Qb u l S p N d o (a++vO N road) (qp road) x s k (λr h=>j r (aR _ h)) (by rw[bK];lia);refine⟨f,b,c,m,?_⟩;rw[show bi N (road::o)=vO N road++bi N o by simp[bi],<- fj];refine(cz (h:=[some p,ql (N.map .str),qr S.length,qp road,q,e,n]) rfl ?_).trans y;rw[Je]at v;have g:=HP (N.map P.str);rw[aU]at g;rw[<- g]at v;show cf _ _ _ _ _=_;simp only[cf];rw[show iw kg [some p,ql (N.map .str),qr S.length,qp road,q,e,n] (S++[.lst (a.map .p)])=some (bG 0 (N.map P.str),S++[.lst (a.map .p)]) by simp];exact v
theorem Mf(h:Pln f r w)(S:aL):Ph (n+3) "pairs_of" [.p (.tup [.lst f,.lst r,.lst w])] S=some (.ref S.length,S++[.lst ((bi (aQ f) r).map .p)]):=by
 have:=h.rl;have x:=t6 (n:=n) h.hf h.f0.2 (.lst r) (.lst w);have a:=CV h.hf (.lst r) (.lst w) S;obtain⟨q,s,k,b,e⟩:=Qb (Ph (n+2)) (Ph (n+1)) S (.p (.tup [.lst f,.lst r,.lst w])) (aQ f) (bh (tX h) (by decide)) r [] none none none none h.hr (by simp;lia);have l:(ij f).length≤1000000:=by rw[AX];have:=mK h;lia
 rw[t8];simp only[fh,gy]at e;simp[jl,l_,x,bo,l,kh,a,e]
theorem tG(h:Pln f r w):cU (Ph (n+3) "pairs_of") [.tup [.lst f,.lst r,.lst w]]=some (.lst (bi (aQ f) r)):=by unfold cU;rw[aF,gy,Mf (n:=n) h []];simp
def pU(v:P):P:=kL v 3
def ik(f:P):P:=.tup [.int 0,.tup ((sZ (kL f 3)).map pU),.tup (List.replicate (sZ (kL f 4)).length (.int (-1)))]
theorem G3(k:∀c ∈ e,isCel c)(L:Lc)(j:Nat)(s:j < L.length)(S:aL):bt (ar j) cE (ao (vv j) mZ) e L S=some (e.map pU,S):=by
 rw[cx (p:=λ_=>true) (f:=pU) (Inv:=λh=>∃d,h=L.set j d) (λv b h n=>?_) ⟨L[j],(gA s).symm⟩]
 .rw [jK]
 .obtain⟨d,rfl⟩:=n;obtain⟨x,lo,i,a,m,_,_,_,_,rfl⟩:=k v b;have g:((L.set j d).set j (qt [.str x,.int lo,.int i,.int a]))[j]? = some (qt [.str x,.int lo,.int i,.int a]):=by
   rw[cC (by simpa using s)]
  exact⟨_,rfl,⟨_,cj ..⟩,rfl,λ_=>by simp[-cj,g,pU]⟩
theorem NZ(a b c d e f:P):L2.atI [a,b,c,d,e,f] 3=some d:=cO (by decide) rfl
theorem Qu(a b c d e f:P):L2.atI [a,b,c,d,e,f] 4=some e:=cO (by decide) rfl
theorem Aj(A I:Str->GF)(S:∀f ∈ s,isFam m f)(o i:P):∀(h:List (Nat×P))(a:List P)(u v d:Option D),(∀x ∈ h,s[x.1]? = some x.2)->a.length+h.length≤1000 ->
  ∃q k b,bR (ar 2) (jh A) (h.map λx=>P.int (x.1:Int)) [qt [.lst s,o,i],qr 0,u,v,d] [.lst (a.map .p)] =
   some (.nx,[qt [.lst s,o,i],qr 0,q,k,b],[.lst ((a++h.map λx=>ik x.2).map .p)])
 | [],a,u,v,d,_,_=>⟨u,v,d,by simp[bR]⟩
 |x::h,a,u,v,d,K,E=>by
  simp only[aX]at E;obtain⟨p,f⟩:=x;have F:s[p]? = some f:=K (p,f) aO;obtain⟨H,c,r,l,w,t,n,rfl⟩:=S f (aM F);have C:=eO F;obtain⟨q,k,b,e⟩:=Aj A I S o i h (a++[ik (.tup [.str H,.int (c:Int),.lst r,.lst l,.lst w,.lst t])]) (qi (p:Int)) (ql l) (ql w) (λy G=>K y (aR _ G)) (by simp;lia);refine⟨q,k,b,?_⟩;rw[aF,aF,show a++ik (.tup [.str H,.int (c:Int),.lst r,.lst l,.lst w,.lst t])::h.map (λx=>ik x.2)=a++[ik (.tup [.str H,.int (c:Int),.lst r,.lst l,.lst w,.lst t])]++h.map (λx=>ik x.2) by simp];refine(cz (h:=[qt [.lst s,o,i],qr 0,qi (p:Int),v,d]) rfl ?_).trans e;have B:=G3 n.hce.1 [qt [.lst s,o,i],qr 0,qi (p:Int),ql l,ql w,none] 5 (by simp) [.lst (a.map .p)];have j:l.length≤1000000:=by have:=n.cl;lia
  have z:w.length≤1000000/\w.length < 1000000:=by have:=n.wl;lia
  have g:a.length≤1000000:=by lia
  rw[<- dE];simp[jh,C,NZ,Qu,bo,j,kh,B,bC,dM,d9,z,d4,g,ik]
theorem EF(h:Pln f o w):cU (Ph (n+4) "begin") [.tup [.lst f,.lst o,.lst w]]=some (.tup [.tup ((aG f).map ik),.tup (List.replicate (bi (aQ f) o).length (.tup []))]):=by
 have b:=t6 (n:=n+1) h.hf h.f0.2 (.lst o) (.lst w);have a:=tG (n:=n) h;have t:=wW 0 h.hf;have l:=h.f0.2;obtain⟨y,z,H,e⟩:=Aj (Ph (n+3)) (Ph (n+2)) h.hf (.lst o) (.lst w) (hw 0 f) [] none none none (λx d=>by obtain⟨j,a,c⟩:=kP d;rw[a,cD];exact c) (by simp;lia);have q:(bi (aQ f) o).length≤2048:=by
  have N:(aQ f).length≤16:=bh (tX h) (by decide);have k:∀m:List P,(bi (aQ f) m).length≤256 * m.length:=by
   intro m;induction m with
   |nil=>simp[bi]
   |cons r m g=>have:=mE (aQ f) r N;rw[show bi (aQ f) (r::m)=vO (aQ f) r++bi (aQ f) m by simp[bi],bK,aX];lia
  have:=k o;have:=h.rl
  lia
 have p:(bi (aQ f) o).length≤1000000:=by lia
 have s:(bi (aQ f) o).length < 1000000:=by lia
 rw[A7,bx];simp only[fh,gy]at e;rw[show(hw 0 f).map (λx=>P.int (x.1:Int))=ij f from rfl,show(hw 0 f).map (λx=>ik x.2)=(aG f).map ik by simp[aG]]at e;have i:∀v:List P,jk 9 (.ref 0) [.lst (v.map .p)]=some (.lst v,[.fz (.lst v)]):=Cd;generalize (aG f).map ik=u at e ⊢;simp[rG,b,a,e,bC,dM,d9,p,s]
end
section
variable{m:List P}
theorem jI(h:∀f ∈ a,isFam m f)(l:a.length≤4):(aG a).length≤16:=by have:=wW 0 h;unfold aG;simp;lia
theorem zJ(y A:Str->GF)(v:P):∀(s:List P)(k:Nat)(a:List P)(d:Option D),(∀f ∈ s,isFam m f)->a.length+4 * s.length≤1000 ->
  ∃q,bR (ar 2) (d5 y) s [qp v,ql a,d] []=some (.nx,[qp v,ql (a++(hw k s).map (·.2)),q],[])
 | [],k,a,d,_,_=>⟨d,by simp[bR,hw]⟩
 |f::r,k,a,d,h,H=>by
  obtain⟨K,c,o,l,w,t,z,rfl⟩:=h f aO;have B:=z.hcr.2;simp only[aX]at H;generalize j:P.tup [.str K,.int (c:Int),.lst o,.lst l,.lst w,.lst t]=F;have i:cF F (.int 1)=some (.int (c:Int)):=by rw[<- j];simp
  have u:br F=c:=by rw[<- j];simp[br]
  obtain⟨q,e⟩:=zJ y A v r (k+1) (a++List.replicate c F) (qp F) (λx S=>h x (aR _ S)) (by simp;lia);refine⟨q,?_⟩;have g:(hw k (F::r)).map (·.2)=List.replicate c F++(hw (k+1) r).map (·.2):=by simp[hw,u]
  rw[g,<- fj];refine(cz (h:=[qp v,ql a,qp F]) (L2:=[qp v,ql (a++List.replicate c F),qp F]) (x:=[]) rfl ?_).trans e;have b:c≤1000000:=by lia
  have p:c < 1000000:=by lia
  have n:a.length+c≤1000000:=by lia
  simp[d5,i,b,p,n]
theorem zI(h:∀f ∈ a,isFam m f)(l:a.length≤4)(r w:P):cU (Ph (n+2) "_law_families") [.tup [.lst a,r,w]]=some (.lst (aG a)):=by obtain⟨q,e⟩:=zJ (Ph (n+1)) (Ph n) (.tup [.lst a,r,w]) a 0 [] none h (by simp;lia);rw[mM,bx];simp only[fh]at e;simp[iP,e,aG]
theorem rh(h:∀f ∈ k,isFam m f)(d:k.length≤4)(o x:P)(s:Str) :
  cU (Ph (n+3) "_law_crew") [.tup [.lst k,o,x],.str s]=some (.lst ((dr (aQ k) s).map λ(i:Nat)=>P.int (i:Int))):=by
 have g:=zI (n:=n) h d o x;have u:=jI h d;have j:bt (bZ [ar 2,ar 3]) (dC (eV (ao mY iA)) wc) kI (bG 0 (aG k)) [qt [.lst k,o,x],qs s,none,none] [] =
   some (((bG 0 (aG k)).filter λv=>match v with | .tup [_,f]=>decide (eR f=s)|_=>false).map (λv=>match v with | .tup [i,_]=>i|_=>.non),[]):=by
  refine cx (Inv:=λL=>∃a b,L=[qt [.lst k,o,x],qs s,a,b]) (λv F L y=>?_) ⟨none,none,rfl⟩;obtain⟨a,b,rfl⟩:=y;obtain⟨i,p,e⟩:=lu.mp F;obtain⟨f,z,rfl⟩:=fB (s:=aG k) (i:=i) (v:=v) (by rw[bq p,e]);obtain⟨K,c,r,l,w,t,H,rfl⟩:=lS h (aM z);exact⟨[qt [.lst k,o,x],qs s,qi (i:Int),qt [.str K,.int (c:Int),.lst r,.lst l,.lst w,.lst t]],rfl,⟨_,_,rfl⟩,by simp[eR];first|done|exact decide_eq_decide.mpr Iff.rfl,λ_=>by simp⟩
 have S:(bG 0 (aG k)).length≤1000000:=by rw[cH];lia
 rw[ud,bx];simp[mf,bo,g,S,kh,j];rw[HP];unfold dr aQ;rw[oq,gx,aU];congr 1;refine List.filter_congr λi p=>?_;have q:i < (aG k).length:=by simpa using p
 simp[q]
theorem Pn(k f:Str->GF)(p road:P)(n:Nat):∀(os:List Nat)(a:List P)(x:Option D),a.length+os.length≤100000->∃q,bR (ar 4) (dY k) (ka os) [qp p,qr 0,qp road,qi (n:Int),x] [.lst (a.map .p)] =
   some (.nx,[qp p,qr 0,qp road,qi (n:Int),q],[.lst ((a++(os.filter λo=>!decide (n=o)).map λo=>pr road n o).map .p)])
 | [],a,x,_=>⟨x,by simp[ka,bR]⟩
 |o::os,a,x,b=>by
  simp only[aX]at b;by_cases h:n=o
  .obtain⟨q,e⟩:=Pn k f p road n os a (qi (o:Int)) (by lia);refine⟨q,?_⟩;have s:(o::os).filter (λo=>!decide (n=o))=os.filter λo=>!decide (n=o):=by simp[h]
   rw[s];refine(cz (h:=[qp p,qr 0,qp road,qi (n:Int),qi (o:Int)]) (L2:=[qp p,qr 0,qp road,qi (n:Int),qi (o:Int)]) (x:=[.lst (a.map .p)]) rfl ?_).trans e;simp[dY,h]
  .obtain⟨q,e⟩:=Pn k f p road n os (a++[pr road n o]) (qi (o:Int)) (by simp;lia);refine⟨q,?_⟩;have s:((o::os).filter (λo=>!decide (n=o))).map (λo=>pr road n o)=pr road n o::(os.filter λo=>!decide (n=o)).map λo=>pr road n o:=by simp[h]
   rw[s,show a++pr road n o::(os.filter λo=>!decide (n=o)).map (λo=>pr road n o)=a++[pr road n o]++(os.filter λo=>!decide (n=o)).map (λo=>pr road n o) by simp];refine(cz (h:=[qp p,qr 0,qp road,qi (n:Int),qi (o:Int)]) (L2:=[qp p,qr 0,qp road,qi (n:Int),qi (o:Int)]) (x:=[.lst ((a++[pr road n o]).map .p)]) rfl ?_).trans e;have z:¬(n:Int)=(o:Int):=by lia
   have l:a.length≤1000000:=by lia
   rw[<- dE];simp[dY,h,z,d4,l,pr]
theorem Qg{n:Nat}{s:List P}(d:∀f ∈ s,isFam m f)(l:s.length≤4)(r w:P){road:P}(g:isRoad road):∀(k:List Nat)(h:List P)(v x:Option D),h.length+16 * k.length≤50000->∃q e,bR (ar 3) (iN (Ph (n+3))) (ka k) [qt [.lst s,r,w],qr 0,qp road,v,x] [.lst (h.map .p)] =
   some (.nx,[qt [.lst s,r,w],qr 0,qp road,q,e],[.lst ((h++k.flatMap λt=>((dr (aQ s) (rB road)).filter λo=>!decide (t=o)).map λo=>pr road t o).map .p)])
 | [],h,v,x,_=>⟨v,x,by simp[ka,bR]⟩
 |i::k,h,v,x,K=>by simp only[aX]at K;have S:(dr (aQ s) (rB road)).length≤16:=bh (gK _ _) (by unfold aQ;rw[aU];exact jI d l);obtain⟨e,u⟩:=Pn (Ph (n+3)) (Ph (n+2)) (.tup [.lst s,r,w]) road i (dr (aQ s) (rB road)) h x (by lia);have A:=tt i road (dr (aQ s) (rB road));obtain⟨q,p,z⟩:=Qg (n:=n) d l r w g k (h++((dr (aQ s) (rB road)).filter λo=>!decide (i=o)).map λo=>pr road i o) (qi (i:Int)) e (by rw[bK];lia);refine⟨q,p,?_⟩;rw[j0,<- fj];refine(cz (h:=[qt [.lst s,r,w],qr 0,qp road,qi (i:Int),x]) rfl ?_).trans z;obtain⟨a,b,B,c,j,y,C,E,F,_,_,rfl⟩:=g;have H:=rh (n:=n) d l r w b;simp only[rB]at u;show cf _ _ _ _ _=_;rw[cf];rw[show gv (fY (Ph (n+3) "_law_crew") (v2 dH (ao kI fX))) [qt [.lst s,r,w],qr 0,qt [.str a,.str b,.str B,.int c,.bl j,.bl y],qi (i:Int),x] [.lst (h.map .p)]=some (ka (dr (aQ s) b),[.lst (h.map .p)]) by simp[H,ka]];exact u
theorem Qf{n:Nat}{s:List P}(i:∀f ∈ s,isFam m f)(l:s.length≤4)(p w:P):∀(o:List P)(x:List P)(j q k:Option D),(∀r ∈ o,isRoad r)->x.length+256 * o.length≤10000->∃z e t,bR (ar 2) (iM (Ph (n+3))) o [qt [.lst s,p,w],qr 0,j,q,k] [.lst (x.map .p)] =
   some (.nx,[qt [.lst s,p,w],qr 0,z,e,t],[.lst ((x++bi (aQ s) o).map .p)])
 | [],x,j,q,k,_,_=>⟨j,q,k,by simp[bi,bR]⟩
 |road::o,x,j,q,k,S,G=>by
  simp only[aX]at G;have N:(aQ s).length≤16:=by unfold aQ;rw[aU];exact jI i l
  have C:(dr (aQ s) (rA road)).length≤16:=bh (gK _ _) N;have y:(dr (aQ s) (rB road)).length≤16:=bh (gK _ _) N;have v:=S road aO;obtain⟨e,t,H⟩:=Qg (n:=n) i l p w v (dr (aQ s) (rA road)) x q k (by lia);have I:(vO (aQ s) road).length≤256:=by have:=tF (aQ s) road _ y (dr (aQ s) (rA road));unfold vO;lia
  obtain⟨d,u,g,A⟩:=Qf (n:=n) i l p w o (x++vO (aQ s) road) (qp road) e t (λr h=>S r (aR _ h)) (by rw[bK];lia);refine⟨d,u,g,?_⟩;rw[show bi (aQ s) (road::o)=vO (aQ s) road++bi (aQ s) o by simp[bi],<- fj];refine(cz (h:=[qt [.lst s,p,w],qr 0,qp road,q,k]) rfl ?_).trans A;obtain⟨a,b,L,c,F,K,M,Q,E,_,_,rfl⟩:=v;have B:=rh (n:=n) i l p w a;simp only[rA]at H;show cf _ _ _ _ _=_;rw[cf];rw[show gv (fY (Ph (n+3) "_law_crew") (v2 dH (ao kI iA))) [qt [.lst s,p,w],qr 0,qt [.str a,.str b,.str L,.int c,.bl F,.bl K],q,k] [.lst (x.map .p)]=some (ka (dr (aQ s) a),[.lst (x.map .p)]) by simp[B,ka]];exact H
theorem GO(h:Pln f r w):cU (Ph (n+4) "_law_pairs") [.tup [.lst f,.lst r,.lst w]]=some (.lst (bi (aQ f) r)):=by have:=h.rl;obtain⟨q,x,a,e⟩:=Qf (n:=n) h.hf h.f0.2 (.lst r) (.lst w) r [] none none none h.hr (by simp;lia);rw[qz,bx];simp only[fh,gy]at e;simp[kD,e]
end
structure BD where
 fams:List P
 roads:List P
 wishes:List P
 ks:List (List dJ)
 vs:List D
abbrev BP(B:BD):Prop:=Pln B.fams B.roads B.wishes
def BD.N(B:BD):LS:=aQ B.fams
def BD.PR(B:BD):List P:=bi B.N B.roads
def qV(l:P):Prop:=∃m i,aA m=true/\i.natAbs≤999/\l=.tup [.str m,.int i]
def vJ(s:List P):Prop:=s.length≤3/\∀l ∈ s,qV l
def CellsOk(e s:List P):Prop:=s.length=e.length/\∀c ∈ s,∃i:Int,i.natAbs≤999/\c=.int i
noncomputable def LJ(a b:Bool):Nat->Nat->Option Bool
 |0,0=>some false
 |0,1=>some a
 |1,0=>some b
 |1,1=>some false
 |_,_=>none
noncomputable def LI(a b c d e f:Bool):Nat->Nat->Option Bool
 |0,0=>some false
 |0,1=>some a
 |0,2=>some b
 |1,0=>some c
 |1,1=>some false
 |1,2=>some d
 |2,0=>some e
 |2,1=>some f
 |2,2=>some false
 |_,_=>none
noncomputable def vk(n:Nat)(o:Option (Array Nat)):Bool:=match o with
 |some p=>decide (p.size=n) && p.all λi=>decide (i < n)
 |none=>false
theorem L3:∀a b,vk 2 (G5 (LJ a b) (oF 2))=true:=by decide +kernel
theorem L0:∀a b c d e f,vk 3 (G5 (LI a b c d e f) (oF 3))=true:=by decide +kernel
variable{x:P}
theorem ib(h:qV x)(a:qV y):∃b,Pm x y=some b:=by obtain⟨m,i,_,_,rfl⟩:=h;obtain⟨s,e,_,_,rfl⟩:=a;exact⟨_,rfl⟩
theorem lO(h:qV x):Pm x x=some false:=by obtain⟨m,i,_,_,rfl⟩:=h;show some (if m=m then decide (i < i) else _)=_;rw[ai rfl,cw (xp _)]
variable{n:Nat}
theorem A0(h:vk n o=true):∃p,o=some p/\p.size=n/\∀i ∈ p.toList,i < n:=by
 cases o with
 |none=>cases h
 |some p=>
  unfold vk at h;rw[av]at h;refine⟨p,rfl,bu h.1,λi x=>?_⟩;have:=Array.all_eq_true'.mp h.2 i (by simpa using x)
  exact bu this
theorem AC(h:vJ s):∃t,vJ t/\l8 s=some (.lst t):=by
 have E:sortable s=true:=by refine be.mpr λx r=>?_;obtain⟨m,i,_,_,rfl⟩:=h.2 x r;rfl
 have o:∃t,vJ t/\m9 s=some t:=by
  unfold m9;by_cases q:s.length < 2
  .exact⟨s,h,by rw[ai q]⟩
  .rw [al q,ai (by have:=h.1;lia)];have k:∀n,s.length=n->n≤3->vk n (G5 (lP s) (oF n))=true->∃t,vJ t/\((G5 (lP s) (oF s.length)).bind λp=>if p.size < 64 then some (p.toList.map λi=>s.getD i .non) else none)=some t:=λn C D P=>by
    obtain⟨p,e,G,q⟩:=A0 P;refine⟨p.toList.map λi=>s.getD i .non,⟨by simp;lia,λl B=>?_⟩,by rw[C,e];simp[show p.size < 64 by lia]⟩;obtain⟨i,A,rfl⟩:=a_.mp B;have:=q i A
    rw[bH,bq (by lia)];exact h.2 _ (ej _)
   match s,h,q,k with
   | [x,y],h,_,k=>
    refine k 2 rfl (by lia) ?_;have r:=h.2 x (by simp);have v:=h.2 y (by simp);obtain⟨a,u⟩:=ib r v;obtain⟨b,g⟩:=ib v r;have:lP [x,y]=LJ a b:=by
     funext i j;match i,j with
     |0,0=>exact lO r
     |0,1=>exact u
     |1,0=>exact g
     |1,1=>exact lO v
     |0,j+2=>rfl
     |1,j+2=>rfl
     |i+2,0=>rfl
     |i+2,1=>rfl
     |i+2,j+2=>rfl
    rw[this];exact L3 a b
   | [x,y,z],h,_,k=>
    refine k 3 rfl (by lia) ?_;have r:=h.2 x (by simp);have v:=h.2 y (by simp);have w:=h.2 z (by simp);obtain⟨a,u⟩:=ib r v;obtain⟨b,g⟩:=ib r w;obtain⟨c,H⟩:=ib v r;obtain⟨d,S⟩:=ib v w;obtain⟨e,F⟩:=ib w r;obtain⟨f,K⟩:=ib w v;have:lP [x,y,z]=LI a b c d e f:=by
     funext i j;match i,j with
     |0,0=>exact lO r
     |0,1=>exact u
     |0,2=>exact g
     |1,0=>exact H
     |1,1=>exact lO v
     |1,2=>exact S
     |2,0=>exact F
     |2,1=>exact K
     |2,2=>exact lO w
     |0,j+3=>rfl
     |1,j+3=>rfl
     |2,j+3=>rfl
     |i+3,0=>rfl
     |i+3,1=>rfl
     |i+3,2=>rfl
     |i+3,j+3=>rfl
    rw[this];exact L0 a b c d e f
   | [],_,q,_=>simp at q
   | [_],_,q,_=>simp at q
   |_::_::_::_::_,h,_,_=>have:=h.1;simp at this
 obtain⟨t,w,e⟩:=o;exact⟨t,w,by unfold l8;rw[ai E,e];rfl⟩
theorem KP{B:BD}(h:x ∈ B.PR):∃r ∈ B.roads,∃a b:Nat,x=pr r a b:=by unfold BD.PR bi at h;obtain⟨r,e,h⟩:=ss.mp h;unfold vO at h;obtain⟨a,_,h⟩:=ss.mp h;obtain⟨b,_,rfl⟩:=a_.mp h;exact⟨r,e,a,b,rfl⟩
def An(B:BD)(rds:List P):Prop:=rds.length=B.PR.length/\∀r ∈ rds,∃ls,vJ ls/\r=.tup ls
theorem EQ(h:BP B):B.PR.length≤2048:=by
 have N:B.N.length≤16:=bh (tX h) (by decide);have k:∀m:List P,(bi B.N m).length≤256 * m.length:=by
  intro m;induction m with
  |nil=>simp[bi]
  |cons r m i=>have:=mE B.N r N;rw[show bi B.N (r::m)=vO B.N r++bi B.N m by simp[bi],bK,aX];lia
 have:=k B.roads;have:=h.rl
 unfold BD.PR;lia
theorem Cs{S:aL}{r:Nat}{o x:SO}(h:S[r]? = some o):(S.set r x)[r]? = some x:=by rw[cC (dB h)]
theorem ut{r a:EE}{L:Lc}{S x:aL}{k:Nat}{c:List P}{y:P}(n:r L S=some (.ref k,S))(h:S[k]? = some (.lst (c.map .p)))(s:a L S=some (.p y,x))(e:x[k]? = some (.lst (c.map .p)))(l:c.length≤1000000):dj (bW r a) L S=some (.nx,L,x.set k (.lst ((c++[y]).map .p))):=by rw[dj,bW,n,aB];simp only[d4,h,s,aB,e];rw[ai (by rw[jc,aU];exact l),sk];rfl
def vf(n:Nat)(v:P):Prop:=∃j:Int,-1≤j/\j < n/\v=.int j
noncomputable abbrev A4(n:Str)(e:Nat)(r c w s:List P):P:=.tup [.str n,.int (e:Int),.lst r,.lst c,.lst w,.lst s]
theorem Rc(a b c d e f:P):L2.atI [a,b,c,d,e,f] 2=some c:=cO (by decide) rfl
inductive HandOk(n:Nat)(f x:P):Prop
 |mk (nm:Str) (crew:Nat) (rooms cells whos steps:List P) (h0:f=A4 nm crew rooms cells whos steps) (r:Nat) (cs ws:List P):x=.tup [.int (r:Int),.tup cs,.tup ws]->r < rooms.length->CellsOk cells cs->ws.length=whos.length->(∀w ∈ ws,vf n w)->HandOk n f x
structure StL(B:BD)(hs rds:List P):Prop where
 hl:hs.length=(aG B.fams).length
 hh:∀(k:Nat) f x,(aG B.fams)[k]? = some f->hs[k]? = some x->HandOk (aG B.fams).length f x
 hr:An B rds
def PY(B:BD)(st:P):Prop:=∃h r,st=.tup [.tup h,.tup r]/\StL B h r
end My
namespace My
open PySem L2 Ev
theorem zh:∀s:List P,Ht (s.map .p)=some s
 | []=>rfl
 |x::s=>by simp[Ht,zh s]
theorem Cy{R ι:Str->GF}{l:List P}(W:∀c ∈ l,isCel c)(hl:l.length≤3)(d:Int)(S:aL)(y o H F K A:Option D)(q s n f m r u j:Option D) :
  ∃(N:List P)(p w:Option D),CellsOk l N/\bR (bZ [ar 8,ar 9]) (c_ R) (bG 0 l) [y,o,H,F,K,A,qi d,qr S.length,u,j,q,s,n,f,m,r] (S++[.lst []])=some (.nx,[y,o,H,F,K,A,qi d,qr S.length,p,w,q,s,n,f,m,r],S++[.lst (N.map .p)]):=by
 obtain⟨L',G,e,t,p,w,E,M,rfl,rfl⟩:=bJ (g:=bZ [ar 8,ar 9]) (b:=c_ R) (Inv:=fun i L G=>∃(t:List P) (u j:Option D),t.length=i/\(∀c ∈ t,∃i:Int,i.natAbs≤999/\c=.int i)/\L=[y,o,H,F,K,A,qi d,qr S.length,u,j,q,s,n,f,m,r]/\G=S++[.lst (t.map .p)]) (s:=bG 0 l) (k:=0) (L:=[y,o,H,F,K,A,qi d,qr S.length,u,j,q,s,n,f,m,r]) (S:=S++[.lst []]) (fun i v L G X V=>by
  obtain⟨c,B,rfl⟩:=fB X;have hi:=dB B;obtain⟨x,lo,a,I,_,b1,b2,b3,b4,rfl⟩:=W c (aM B);obtain⟨t,u,j,E,M,rfl,rfl⟩:=V;obtain⟨z,Z,T⟩:∃z:Int,(0 < z/\z < 1152921504606846976)/\L2.atI [P.int 8,.int 32,.int 128] (i:Int)=some (.int z):=by
   have:i=0\/i=1\/i=2:=by lia
   rcases this with rfl|rfl|rfl
   .exact⟨8,by decide,by simp⟩
   .exact⟨32,by decide,by simp⟩
   .exact⟨128,by decide,by simp⟩
  have Q:0 < a-lo+1:=by lia
  have m0:0≤d / z % (a-lo+1):=ci _ (by lia);have m1:d / z % (a-lo+1) < a-lo+1:=cJ _ Q;have C:t.length≤1000000:=by lia
  refine⟨_,[y,o,H,F,K,A,qi d,qr S.length,qi (i:Int),qt [.str x,.int lo,.int a,.int I],q,s,n,f,m,r],S++[.lst ((t++[P.int (lo+d / z % (a-lo+1))]).map .p)],rfl,?_,_,_,_,by simp[E],dF M ⟨_,by lia,rfl⟩,rfl,rfl⟩;rw[<- dE];simp[c_,T,Z,Q,d4,C]) ⟨[],u,j,rfl,λ_ h=>(by cases h),rfl,rfl⟩
 rw[cH,cD]at E;exact⟨t,p,w,⟨E,M⟩,e⟩
theorem Ga{G W:Str->GF}(m:Nat)(V:m≤2)(f:List P)(d:Int)(S:aL)(p u j l y o:Option D)(F q x a s n t:Option D) :
  ∃(C:List P)(r:Option D),C.length=m/\(∀w ∈ C,vf f.length w)/\bR (ar 8) (cZ G) (intsFrom 0 m) [p,u,j,ql f,l,y,qi d,o,t,F,qr S.length,q,x,a,s,n] (S++[.lst []])=some (.nx,[p,u,j,ql f,l,y,qi d,o,r,F,qr S.length,q,x,a,s,n],S++[.lst (C.map .p)]):=by
 obtain⟨R,A,e,c,r,K,B,rfl,rfl⟩:=bJ (g:=ar 8) (b:=cZ G) (Inv:=fun i L A=>∃(c:List P) (t:Option D),c.length=i/\(∀w ∈ c,vf f.length w)/\L=[p,u,j,ql f,l,y,qi d,o,t,F,qr S.length,q,x,a,s,n]/\A=S++[.lst (c.map .p)]) (s:=intsFrom 0 m) (k:=0) (L:=[p,u,j,ql f,l,y,qi d,o,t,F,qr S.length,q,x,a,s,n]) (S:=S++[.lst []]) (fun i v L A N M=>by
  obtain⟨rfl,T⟩:=ints_get N;obtain⟨c,t,K,B,rfl,rfl⟩:=M;simp only[cI];obtain⟨z,Q,I⟩:∃z:Int,(0 < z/\z < 1152921504606846976)/\L2.atI [P.int 512,.int 4096] (i:Int)=some (.int z):=by
   have:i=0\/i=1:=by lia
   rcases this with rfl|rfl
   .exact⟨512,by decide,by simp⟩
   .exact⟨4096,by decide,by simp⟩
  have E:(0:Int) < (f.length:Int)+1:=by lia
  have H:c.length≤1000000:=by lia
  refine⟨_,[p,u,j,ql f,l,y,qi d,o,qi (i:Int),F,qr S.length,q,x,a,s,n],S++[.lst ((c++[P.int (d / z % ((f.length:Int)+1)-1)]).map .p)],rfl,?_,_,_,by simp[K],dF B ⟨_,by have:=ci (d / z) (show(f.length:Int)+1≠0 by lia);lia,by have:=cJ (d / z) E;lia,rfl⟩,rfl,rfl⟩;rw[<- dE];simp[cZ,I,Q,E,dM,d9,d4,H]) ⟨[],t,rfl,λ_ h=>(by cases h),rfl,rfl⟩
 rw[cg,cD]at K;exact⟨c,r,K,B,e⟩
theorem Gb{T ι:Str->GF}(m:Nat)(hm:m≤3)(d:Int)(S:aL)(w j o H F K A B x s n f:Option D)(p q:Option D) :
  ∃(Q:List P)(t c:Option D),Q.length=m/\(∀l ∈ Q,qV l)/\bR (ar 8) (cX T) (intsFrom 0 m) [w,j,o,H,F,K,qi d,A,p,B,x,s,n,f,qr S.length,q] (S++[.lst []])=some (.nx,[w,j,o,H,F,K,qi d,A,t,B,x,s,n,f,qr S.length,c],S++[.lst (Q.map .p)]):=by
 obtain⟨L',G,e,r,t,c,E,M,rfl,rfl⟩:=bJ (g:=ar 8) (b:=cX T) (Inv:=fun i L G=>∃(r:List P) (p q:Option D),r.length=i/\(∀l ∈ r,qV l)/\L=[w,j,o,H,F,K,qi d,A,p,B,x,s,n,f,qr S.length,q]/\G=S++[.lst (r.map .p)]) (s:=intsFrom 0 m) (k:=0) (L:=[w,j,o,H,F,K,qi d,A,p,B,x,s,n,f,qr S.length,q]) (S:=S++[.lst []]) (fun i v L G hv Z=>by
  obtain⟨rfl,hi⟩:=ints_get hv;obtain⟨r,p,q,E,M,rfl,rfl⟩:=Z;simp only[cI];obtain⟨z,y,hz,hy,X,W⟩:∃z y:Int,(0 < z/\z < 1152921504606846976)/\(0 < y/\y < 1152921504606846976)/\L2.atI [P.int 8,.int 800,.int 80000] (i:Int)=some (.int z)/\L2.atI [P.int 4,.int 400,.int 40000] (i:Int)=some (.int y):=by
   have:i=0\/i=1\/i=2:=by lia
   rcases this with rfl|rfl|rfl
   .exact⟨8,4,by decide,by decide,by simp,by simp⟩
   .exact⟨800,400,by decide,by decide,by simp,by simp⟩
   .exact⟨80000,40000,by decide,by decide,by simp,by simp⟩
  obtain⟨u,hu1,hu2,V⟩:∃u:Int,-998≤u/\u≤997/\L2.atI [P.int 0,.int 997,.int 0,.int (-998)] (d / 8000000 % 4)=some (.int u):=by
   have h:d / 8000000 % 4=0\/d / 8000000 % 4=1\/d / 8000000 % 4=2\/d / 8000000 % 4=3:=by lia
   rcases h with h|h|h|h<;>rw[h]<;>simp
  obtain⟨mk,N,I⟩:=pC (a:="ma") (b:="mb") (d / y);have R:aA mk=true:=by rcases N with rfl|rfl<;>simp
  have m0:0≤d / z % 4:=ci _ (by decide);have m1:d / z % 4 < 4:=cJ _ (by decide);have C:r.length≤1000000:=by lia
  refine⟨_,[w,j,o,H,F,K,qi d,A,qi (i:Int),B,x,s,n,f,qr S.length,qi (d / z % 4-1+u)],S++[.lst ((r++[P.tup [.str mk,.int (d / z % 4-1+u)]]).map .p)],rfl,?_,_,_,_,by simp[E],dF M ⟨mk,_,R,by lia,rfl⟩,rfl,rfl⟩;rw[<- dE];simp[cX,X,W,hz,hy,V,I,d4,C]) ⟨[],p,q,rfl,λ_ h=>(by cases h),rfl,rfl⟩
 rw[cg,cD]at E;exact⟨r,t,c,E,M,e⟩
noncomputable abbrev cR(B:BD):P:=.tup [.lst B.fams,.lst B.roads,.lst B.wishes]
theorem Cw{B:BD}(hP:Pln B.fams B.roads B.wishes){n:Nat}(V:List Int)(Z q5 Q N C E q u j y z H:Option D) :
  ∃(hs:List P)(S':aL)(q4' q5' q6' q7' q8' q9' W:Option D),hs.length=(aG B.fams).length/\(∀(k:Nat) f x,(aG B.fams)[k]? = some f->hs[k]? = some x->HandOk (aG B.fams).length f x)/\S'[0]? = some (.lst (hs.map .p)) /\
   bR (bZ [ar 4,ar 5]) (cY (Ph (n+2))) (bG 0 (aG B.fams)) [qp (eU V),qp (cR B),qr 0,ql (aG B.fams),Z,q5,Q,N,C,E,q,u,j,y,z,H] [.lst []]=some (.nx,[qp (eU V),qp (cR B),qr 0,ql (aG B.fams),q4',q5',q6',q7',q8',q9',W,u,j,y,z,H],S'):=by
 have h4:=mK hP;obtain⟨L',S',e,M,q4',q5',q6',q7',q8',q9',W,h1,h2,h3,rfl⟩:=bJ (g:=bZ [ar 4,ar 5]) (b:=cY (Ph (n+2))) (Inv:=fun i L S=>∃(M:List P) (Z q5 Q N C E q:Option D),M.length=i/\(∀(k:Nat) x,M[k]? = some x->∀f,(aG B.fams)[k]? = some f->HandOk (aG B.fams).length f x)/\S[0]? = some (.lst (M.map .p))/\L=[qp (eU V),qp (cR B),qr 0,ql (aG B.fams),Z,q5,Q,N,C,E,q,u,j,y,z,H]) (s:=bG 0 (aG B.fams)) (k:=0) (L:=[qp (eU V),qp (cR B),qr 0,ql (aG B.fams),Z,q5,Q,N,C,E,q,u,j,y,z,H]) (S:=[.lst []]) (fun i v L S hv hI=>by
  obtain⟨f,hf,rfl⟩:=fB hv;have hi:=dB hf;obtain⟨nm,K,o,l,w,t,hF,rfl⟩:=lS hP.hf (aM hf);obtain⟨M,Z,q5,Q,N,C,E,q,h1,h2,h3,rfl⟩:=hI;obtain⟨c,d,hd,e1,e2⟩:=im (n:=n) V (k:=29+(i:Int)) (p:=31) (by lia) (by lia) (by lia);obtain⟨A,R,s,hcs,e3⟩:=Cy (R:=Ph (n+2)) (ι:=Ph (n+1)) hF.hce.1 hF.cl d S (qp (eU V)) (qp (cR B)) (qr 0) (ql (aG B.fams)) (qi (i:Int)) (qp (A4 nm K o l w t)) q u j y z H C E;obtain⟨X,I,hw1,hw2,e4⟩:=Ga (G:=Ph (n+2)) (W:=Ph (n+1)) w.length hF.wl (aG B.fams) d (S++[.lst (A.map .p)]) (qp (eU V)) (qp (cR B)) (qr 0) (qi (i:Int)) (qp (A4 nm K o l w t)) (qr S.length) s u j y z H R;have hl0:0 < S.length:=dB h3;have hr0:=len_pos hF.r0;have hrp:(0:Int) < (o.length:Int):=by lia
  have r0:0≤d % (o.length:Int):=ci _ (by lia);have r1:d % (o.length:Int) < (o.length:Int):=cJ _ hrp;obtain⟨r,hr⟩:∃r:Nat,d % (o.length:Int)=(r:Int):=⟨(d % (o.length:Int)).toNat,by lia⟩;have hwn:w.length < 1000000:=by have:=hF.wl;lia
  let a:aL:=S++[.lst (A.map .p)]
  let m:aL:=a++[.lst (X.map .p)]
  let F:Option D->Option D->Option D->Option D->Option D->Lc:=λQ N C E q=>[qp (eU V),qp (cR B),qr 0,ql (aG B.fams),qi (i:Int),qp (A4 nm K o l w t),Q,N,C,E,q,u,j,y,z,H]
  let G:=F (qi d) (qr S.length)
  have t1:jk 9 (.ref S.length) m=some (.lst A,m.set S.length (.fz (.lst A))):=fZ (by simp[m,a]);have t2:jk 9 (.ref a.length) (m.set S.length (.fz (.lst A)))=some (.lst X,(m.set S.length (.fz (.lst A))).set a.length (.fz (.lst X))):=fZ (by rw[bg (by simp[a])];exact Am _ _);generalize hT:(m.set S.length (.fz (.lst A))).set a.length (.fz (.lst X))=T at t2;have hS0:m[0]? = some (.lst (M.map .p)):=by rw[bw (by simp[a]),bw hl0];exact h3
  have hT0:T[0]? = some (.lst (M.map .p)):=by rw[<- hT,bg (by simp[a]),bg (by lia)];exact hS0
  refine⟨(F Q N C E q),(G I s (qr a.length)),T.set 0 (.lst ((M++[P.tup [.int (r:Int),.tup A,.tup X]]).map .p)),rfl,?_,M++[P.tup [.int (r:Int),.tup A,.tup X]],_,_,_,_,_,_,_,by simp[h1],vl h2 (λf hf'=>?_),Cs hT0,rfl⟩
  .unfold cY;rw [aY (e:=(F (qi d) N C E q)) (c:=S) (by simp [F,G,e1,e2])];rw [aY (e:=(G C E q)) (c:=S++[.lst []]) (by simp [G,F])];rw [aY (e:=(G R s q)) (c:=a) (by
    rw[cf,iw,show(ao uC mZ) (G C E q) (S++[.lst []])=some (.lst l,S++[.lst []]) by simp[G,F,NZ]];exact e3)]
   rw[aY (e:=(G R s (qr a.length))) (c:=a++[.lst []]) (by simp[G,F])];rw[aY (e:=(G I s (qr a.length))) (c:=m) (by rw[cf,show gZ (dS (eV (ao uC oH))) (G R s (qr a.length)) (a++[.lst []])=some (intsFrom 0 w.length,a++[.lst []]) by simp[G,F,Qu,dM,d9,hwn]];exact e4)]
   refine ut (k:=0) (c:=M) (x:=T) rfl hS0 ?_ hT0 (by lia);have m1:(aC nE (dS (eV (ao uC jt)))) (G I s (qr a.length)) m=some (.int (r:Int),m):=by simp[G,F,Rc,dM,d9,hr0,hr]
   have m2:(aN bC (v1 uv)) (G I s (qr a.length)) m=some (.tup A,m.set S.length (.fz (.lst A))):=by show bO (bO (jk 9 (.ref S.length) m) _) _=_;rw[t1];rfl
   have m3:(aN bC (v1 (vv 10))) (G I s (qr a.length)) (m.set S.length (.fz (.lst A)))=some (.tup X,T):=by show bO (bO (jk 9 (.ref a.length) (m.set S.length (.fz (.lst A)))) _) _=_;rw[t2];rfl
   simp only[eV,bf,ae,m1,m2,m3,aB,aE];rfl
  .rw [h1,cD,hf]at hf';cases hf';exact⟨nm,K,o,l,w,t,rfl,r,A,X,rfl,by lia,hcs,hw1,hw2⟩) ⟨[],Z,q5,Q,N,C,E,q,rfl,λk x h=>(by simp at h),rfl,rfl⟩
 rw[cH,cD]at h1;exact⟨M,S',_,_,_,_,_,_,_,h1,λk f x hf hx=>h2 k x hx f hf,h3,e⟩
theorem Cv{B:BD}(hP:Pln B.fams B.roads B.wishes){n:Nat}(Q:List Int){r:Nat}{S0:aL}{x0:SO}(h0:S0[0]? = some x0)(hr:S0[r]? = some (.lst []))(hr0:0 < r)(R V W X Z a7 a9 u C z j l q s:Option D) :
  ∃(rds:List P)(S':aL)(q6' q8' E I t M:Option D),An B rds/\S'[0]? = some x0/\S'[r]? = some (.lst (rds.map .p)) /\
   bR (bZ [ar 12,ar 13]) (cW (Ph (n+2))) (bG 0 B.PR) [qp (eU Q),R,V,W,X,Z,C,a7,z,a9,u,qr r,j,l,q,s] S0=some (.nx,[qp (eU Q),R,V,W,X,Z,q6',a7,q8',a9,u,qr r,E,I,t,M],S'):=by
 have h4:=EQ hP;obtain⟨L',S',e,H,q6',q8',E,I,t,M,h1,h2,h3,h5,rfl⟩:=bJ (g:=bZ [ar 12,ar 13]) (b:=cW (Ph (n+2))) (Inv:=fun i L S=>∃(H:List P) (C z j l q s:Option D),H.length=i/\(∀r ∈ H,∃K,vJ K/\r=.tup K)/\S[0]? = some x0/\S[r]? = some (.lst (H.map .p))/\L=[qp (eU Q),R,V,W,X,Z,C,a7,z,a9,u,qr r,j,l,q,s]) (s:=bG 0 B.PR) (k:=0) (L:=[qp (eU Q),R,V,W,X,Z,C,a7,z,a9,u,qr r,j,l,q,s]) (S:=S0) (fun i v L S hv hI=>by
  obtain⟨x,hx,rfl⟩:=fB hv;have hi:=dB hx;obtain⟨road,hro,a,b,rfl⟩:=KP (aM hx);obtain⟨ra,rb,kd,c,d1,d2,_,_,hkd,hc1,hc2,rfl⟩:=hP.hr road hro;obtain⟨H,C,z,j,l,q,s,h1,h2,h3,h5,rfl⟩:=hI;obtain⟨c',d,hd,e1,e2⟩:=im (n:=n) Q (k:=34+(i:Int) % 20) (p:=33+(i:Int) / 20) (by lia) (by lia) (by lia);have m0:0≤d % (c+1):=ci _ (by lia);have m1:d % (c+1) < c+1:=cJ _ (by lia);have hcp:0 < c+1:=by lia
  obtain⟨m,hm⟩:∃m:Nat,d % (c+1)=(m:Int):=⟨(d % (c+1)).toNat,by lia⟩;obtain⟨K,y,f,hl1,hl2,e3⟩:=Gb (T:=Ph (n+2)) (ι:=Ph (n+1)) m (by lia) d S (qp (eU Q)) R V W X Z a7 a9 u (qr r) (qi (i:Int)) (qp (pr (.tup [.str ra,.str rb,.str kd,.int c,.bl d1,.bl d2]) a b)) z s;have hrl:=dB h5;have hls:vJ K:=⟨by lia,hl2⟩;generalize hp:pr (.tup [.str ra,.str rb,.str kd,.int c,.bl d1,.bl d2]) a b=pp at e3;have N:cF pp (.int 0)=some (.tup [.str ra,.str rb,.str kd,.int c,.bl d1,.bl d2]):=by rw[<- hp];simp[pr]
  let F:Option D->Option D->Option D->Option D->Lc:=λC z q s=>[qp (eU Q),R,V,W,X,Z,C,a7,z,a9,u,qr r,qi (i:Int),qp pp,q,s]
  let G:=F (qi d)
  let w:aL:=S++[.lst (K.map .p)]
  have T0:∀(o:SO),(S++[o])[0]? = some x0/\(S++[o])[r]? = some (.lst (H.map .p)):=λo=>⟨by rw[bw (by lia)];exact h3,by rw[bw hrl];exact h5⟩;have fin:∃(A:List P)(q:Option D)(T:aL),vJ A/\T[0]? = some x0/\T[r]? = some (.lst (H.map .p)) /\
    aD (kJ (dC (eV (ao (ao mv iA) jt)) (eV (vt "heap"))) (aS 14 (eV (ze (U 14)))) m_) (dj (bW (U 11) (eV (aN bC (v1 (vv 14)))))) (G y (qr S.length) f) w=some (.nx,(G y q f),T.set r (.lst ((H++[P.tup A]).map .p))):=by
   by_cases hh:kd="heap"
   .obtain⟨A,hz,ez⟩:=AC hls;refine⟨A,ql A,w,hz,(T0 _).1,(T0 _).2,?_⟩;rw[aY (e:=(G y (ql A) f)) (c:=w) (by simp[G,F,w,N,hh,F9,zh,ez])];exact ut rfl (T0 _).2 (by simp[G,F,bC]) (T0 _).2 (by lia)
   .have t1:jk 9 (.ref S.length) w=some (.lst K,w.set S.length (.fz (.lst K))):=fZ (by simp[w]);have hT:(w.set S.length (.fz (.lst K)))[r]? = some (.lst (H.map .p)):=by rw[bg (by lia)];exact(T0 _).2
    refine⟨K,qr S.length,w.set S.length (.fz (.lst K)),hls,by rw[bg (by lia)];exact(T0 _).1,hT,?_⟩;rw[aY (e:=(G y (qr S.length) f)) (c:=w) (by simp[G,F,N,hh])];refine ut rfl (T0 _).2 ?_ hT (by lia);show bO (bO (bO (jk 9 (.ref S.length) w) _) _) _=_;rw[t1];rfl
  obtain⟨A,t,T,hz,hT0,hTr,e4⟩:=fin;refine⟨(F C z q s),(G y t f),T.set r (.lst ((H++[P.tup A]).map .p)),rfl,?_,H++[P.tup A],_,_,_,_,_,_,by simp [h1],dF h2 ⟨A,hz,rfl⟩,by rw [bg (by lia)];exact hT0,Cs hTr,rfl⟩;unfold cW;rw [aY (e:=(G z q s)) (c:=S) (by simp [G,F,e1,e2])];rw [aY (e:=(G z (qr S.length) s)) (c:=S++[.lst []]) (by simp [G,F])];rw [aY (e:=(G y (qr S.length) f)) (c:=w) (by
   have hm3:m < 1000000:=by lia
   rw[cf,GY];simp only[G,F]at e3 ⊢;simp[N,hcp,hm,hm3,e3,w])]
  exact e4) ⟨[],C,z,j,l,q,s,rfl,λ_ h=>(by cases h),h0,hr,rfl⟩
 rw[cH,cD]at h1;exact⟨H,S',_,_,_,_,_,_,⟨h1,h2⟩,h3,h5,e⟩
theorem IL(k:Pln B.fams B.roads B.wishes)(a:List Int):∃st,PY B st/\cU (Ph (n+5) "_law_standing") [eU a,cR B]=some st:=by
 obtain⟨e,h,m,t,p,v,w,u,q,z,y,b,g⟩:=Cw k (n:=n+2) a none none none none none none none none none none none none;obtain⟨s,f,E,G,K,A,C,D,o,H,F,i⟩:=Cv k (n:=n+2) a (r:=h.length) (S0:=h++[.lst []]) (x0:=.lst (e.map .p)) (by rw[bw (dB b)];exact b) (Am _ _) (dB b) (qp (cR B)) (qr 0) (ql (aG B.fams)) m t v u q p w none none none none;refine⟨.tup [.tup e,.tup s],⟨e,s,rfl,z,y,o⟩,?_⟩;have j:=zI (n:=n+2) k.hf k.f0.2 (.lst B.roads) (.lst B.wishes);have l:=GO (n:=n) k;have c:(0:Nat)≠h.length:=by have:=dB b;lia
 have I:jk 9 (.ref 0) f=some (.lst e,f.set 0 (.fz (.lst e))):=fZ H;have L:jk 9 (.ref h.length) (f.set 0 (.fz (.lst e)))=some (.lst s,(f.set 0 (.fz (.lst e))).set h.length (.fz (.lst s))):=fZ (by rw[bg c];exact F);rw[mL,bx];show(match fI _ [qp (eU a),qp (cR B),none,none,none,none,none,none,none,none,none,none,none,none,none,none] [] with|some (.rt d,_,S)=>(jk 9 d S).map (λx=>x.fst)|some (.nx,_,_)=>some .non|_=>none)=some (P.tup [.tup e,.tup s]);unfold fI;rw[aY (e:=[qp (eU a),qp (cR B),qr 0,none,none,none,none,none,none,none,none,none,none,none,none,none]) (c:=[.lst []]) (by simp)];rw[aY (e:=[qp (eU a),qp (cR B),qr 0,ql (aG B.fams),none,none,none,none,none,none,none,none,none,none,none,none]) (c:=[.lst []]) (by simp[j])];rw[aY (by rw[cf,show iw mY [qp (eU a),qp (cR B),qr 0,ql (aG B.fams),none,none,none,none,none,none,none,none,none,none,none,none] [.lst []]=some (bG 0 (aG B.fams),[.lst []]) by simp];exact g)];rw[aY (e:=[qp (eU a),qp (cR B),qr 0,ql (aG B.fams),m,t,p,v,w,u,q,qr h.length,none,none,none,none]) (c:=h++[.lst []]) (by simp)];rw[aY (by rw[cf,show iw (fY (Ph (n+4) "_law_pairs") (v1 kg)) [qp (eU a),qp (cR B),qr 0,ql (aG B.fams),m,t,p,v,w,u,q,qr h.length,none,none,none,none] (h++[.lst []])=some (bG 0 B.PR,h++[.lst []]) by simp[l,BD.PR,BD.N]];exact i)];simp[I,L,bC]
noncomputable def am(s:List Nat):List P:=s.map λ(k:Nat)=>P.int (k:Int)
def tups(r:List (List Nat)):List P:=r.map λk=>P.tup (am k)
noncomputable def LY(m:List Nat)(h:Nat)(f:List (List Nat)):List (List Nat):=f.flatMap λst=>((List.range m.length).filter λk=>(m.getD k 0 == h) && !st.contains k).map λk=>st++[k]
def L_(m:List Nat):List Nat->List (List Nat)->List (List Nat)
 | [],f=>f
 |h::r,f=>L_ m r (LY m h f)
def bI(h:List Nat):List (List Nat):=L_ h h [[]]
def L8(x:Str->GF)(p:P)(h:List Nat):Option P:=
 match bR (ar 3) (iL x) (am h) [some (.p p),some (.p (.lst (am h))),some (.p (.lst [.tup []])),none,none,none,none] [] with
 | some (.nx,L,S)=>(match L[2]? with
  |some (some d)=>(jk 9 d S).map (·.1)
  |_=>none)
 |_=>none
noncomputable def fx(a b:List Nat):List Nat:=a.map λk=>b.getD k 0
def zB(h:List Nat):Bool:=decide (0 < h.length) && decide (h.length≤4) && decide ((bI h).head? = some (List.range h.length)) && decide (bI h).Nodup && decide ((bI h).length≤24) &&
 (bI h).all λa=>dD (a.map λ(k:Nat)=>(k:Int)) && decide (a.length=h.length) && decide (a.map (h.getD · 0)=h) && (bI h).contains (cG (a.map λ(k:Nat)=>(k:Int))) && (bI h).all λb=>(bI h).contains (fx a b)
structure Shp(hm:List Nat):Prop where
 run:∀ψ pl,L8 ψ pl hm=some (.lst (tups (bI hm)))
 ok:zB hm=true
theorem OX:Shp [0]:=⟨λ_ _=>by kernel_rfl,by decide +kernel⟩
theorem OW:Shp [0,0]:=⟨λ_ _=>by kernel_rfl,by decide +kernel⟩
theorem OU:Shp [0,0,0]:=⟨λ_ _=>by kernel_rfl,by decide +kernel⟩
theorem OT:Shp [0,0,0,0]:=⟨λ_ _=>by kernel_rfl,by decide +kernel⟩
theorem OS:Shp [0,1]:=⟨λ_ _=>by kernel_rfl,by decide +kernel⟩
theorem OR:Shp [0,1,1]:=⟨λ_ _=>by kernel_rfl,by decide +kernel⟩
theorem OQ:Shp [0,0,1]:=⟨λ_ _=>by kernel_rfl,by decide +kernel⟩
theorem OP:Shp [0,0,1,1]:=⟨λ_ _=>by kernel_rfl,by decide +kernel⟩
theorem OO:Shp [0,1,2]:=⟨λ_ _=>by kernel_rfl,by decide +kernel⟩
theorem L4:Shp [0,1,2,3]:=⟨λ_ _=>by kernel_rfl,by decide +kernel⟩
def bv(f:List P):List Nat:=(hw 0 f).map (·.1)
theorem D2(f:List P):ij f=am (bv f):=by simp[ij,bv,am]
theorem i8(h:Pln m o w):Shp (bv m):=by
 obtain⟨c,A,l⟩:=h.cr;have K:∀f ∈ m,1≤br f:=λf n=>by
  obtain⟨B,j,u,p,S,i,k,rfl⟩:=h.hf f n;have:=k.hcr
  simp[br];lia
 have y:∀s:List P,(∀f ∈ s,1≤br f/\br f≤c)->s.length * c≤4->1≤s.length->Shp (bv s):=by
  intro s x l F;match s,x,l,F with
  | [a],x,l,_=>
   have t:=x a (by simp);have q:br a=1\/br a=2\/br a=3\/br a=4:=by simp at l;lia
   have e:bv [a]=List.replicate (br a) 0:=by simp[bv,hw]
   rw[e];rcases q with h|h|h|h<;>rw[h]
   .exact OX
   .exact OW
   .exact OU
   .exact OT
  | [a,b],x,l,_=>
   have t:=x a (by simp);have H:=x b (by simp);simp only[aX,ll]at l;have q:br a=1\/br a=2:=by lia
   have v:br b=1\/br b=2:=by lia
   have e:bv [a,b]=List.replicate (br a) 0++List.replicate (br b) 1:=by simp[bv,hw]
   rw[e];rcases q with h|h<;>rcases v with z|z<;>rw[h,z]
   .exact OS
   .exact OR
   .exact OQ
   .exact OP
  | [a,b,d],x,l,_=>
   have t:=x a (by simp);have H:=x b (by simp);have hd:=x d (by simp);simp only[aX,ll]at l;have e:bv [a,b,d]=List.replicate (br a) 0++(List.replicate (br b) 1++List.replicate (br d) 2):=by simp[bv,hw]
   rw[e,show br a=1 by lia,show br b=1 by lia,show br d=1 by lia];exact OO
  | [a,b,d,f],x,l,_=>
   have t:=x a (by simp);have H:=x b (by simp);have hd:=x d (by simp);have n:=x f (by simp);simp only[aX,ll]at l;have e:bv [a,b,d,f]=List.replicate (br a) 0++(List.replicate (br b) 1++(List.replicate (br d) 2++List.replicate (br f) 3)):=by simp[bv,hw]
   rw[e,show br a=1 by lia,show br b=1 by lia,show br d=1 by lia,show br f=1 by lia];exact L4
  |a::b::d::f::g::r,x,l,_=>have t:=x a (by simp);simp only[aX]at l;have:5 * 1≤(r.length+1+1+1+1+1) * c:=Nat.mul_le_mul (by lia) (by lia);lia
 exact y m (λf n=>⟨K f n,A f n⟩) l h.f0.1
set_option tactic.hygienic true in
theorem CG(h:Pln f o w):cU (Ph (n+3) "renamings") [.tup [.lst f,.lst o,.lst w]]=some (.lst (tups (bI (bv f)))):=by
 have s:=t6 (n:=n) h.hf h.f0.2 (.lst o) (.lst w);have r:=(i8 h).run (Ph (n+2)) (.tup [.lst f,.lst o,.lst w]);unfold L8 at r;split at r
 .rename_i L S a;split at r
  .rename_i d e;rw[qw,bx];show(match iz (Ph (n+2)) [some (.p (.tup [.lst f,.lst o,.lst w])),none,none,none,none,none,none] [] with|some (.rt d,_,S)=>(jk 9 d S).map (λx=>x.fst)|some (.nx,_,_)=>some .non|_=>none)=some (P.lst (tups (bI (bv f))));unfold iz;rw[aY (e:=[some (.p (.tup [.lst f,.lst o,.lst w])),some (.p (.lst (am (bv f)))),none,none,none,none,none]) (c:=[]) (by simp[s,D2])];rw[aY (e:=[some (.p (.tup [.lst f,.lst o,.lst w])),some (.p (.lst (am (bv f)))),some (.p (.lst [.tup []])),none,none,none,none]) (c:=[]) (by simp)];rw[aY (by rw[cf,show gv (vE (U 1)) [some (.p (.tup [.lst f,.lst o,.lst w])),some (.p (.lst (am (bv f)))),some (.p (.lst [.tup []])),none,none,none,none] []=some (am (bv f),[]) by simp];exact a)];rw[b0,U,e];exact r
  .cases r
 .cases r
end My
namespace My
open PySem L2 Ev
theorem j_[DecidableEq t](x:t)(y:D):∀(s:List t)(a:List D),s.Nodup->s.length=a.length->(d_ x y s a).1.Nodup/\(d_ x y s a).1.length=(d_ x y s a).2.length/\(d_ x y s a).1.length≤s.length+1/\(∀k ∈ (d_ x y s a).1,k=x\/k ∈ s)/\∀k,df k (d_ x y s a).1 (d_ x y s a).2=if x=k then some y else df k s a
 | [],[],_,_=>⟨by simp[d_],rfl,by simp[d_],λk h=>.inl (by simpa[d_] using h),λk=>by by_cases q:x=k<;>simp[d_,df,q]⟩
 | [],_::_,_,h=>by simp at h
 |_::_,[],_,h=>by simp at h
 |n::s,v::a,b,l=>by
  obtain⟨m,b⟩:=b8.mp b;by_cases q:n=x
  .have e:d_ x y (n::s) (v::a)=(n::s,y::a):=by simp[d_,q]
   rw[e];refine⟨b8.mpr ⟨m,b⟩,by simpa using l,by simp,λk h=>.inr h,λk=>?_⟩;subst q;by_cases f:n=k<;>simp[df,f]
  .obtain⟨p,d,u,c,w⟩:=j_ x y s a b (by simpa using l);have e:d_ x y (n::s) (v::a)=(n::(d_ x y s a).1,v::(d_ x y s a).2):=by simp[d_,q]
   rw[e];refine⟨b8.mpr ⟨λz=>?_,p⟩,by simp[d],by simp;lia,λk h=>?_,λk=>?_⟩
   .rcases c n z with z|z
    .exact q z
    .exact m z
   .rcases aW.mp h with rfl|h
    .exact .inr aO
    .rcases c k h with h|h
     .exact .inl h
     .exact .inr (aR _ h)
   .show (if n=k then some v else df k (d_ x y s a).1 (d_ x y s a).2)=_;by_cases f:n=k
    .subst f;have:¬x=n:=λz=>q z.symm
     simp[df,this]
    .rw [al f,w];by_cases r:x=k
     .simp [r]
     .simp [r,df,f]
def de(p:P):List dJ:=[.inl (iv (kL p 1)),.inl (iv (kL p 2))]
noncomputable abbrev KV:=List (List dJ)×List D
def putAll:Nat->List P->KV->KV
 |_,[],s=>s
 |k,p::r,s=>putAll (k+1) r (d_ (de p) (.p (.int (k:Int))) s.1 s.2)
structure KVok(s:KV):Prop where
 nd:s.1.Nodup
 ln:s.1.length=s.2.length
theorem KVok.put(h:KVok s)(k:List dJ)(y:D):KVok (d_ k y s.1 s.2):=by obtain⟨x,a,_⟩:=j_ k y s.1 s.2 h.nd h.ln;exact⟨x,a⟩
theorem C8:∀(b:List P)(k:Nat)(s:KV),KVok s->∀y d,df y (putAll k b s).1 (putAll k b s).2=some d->df y s.1 s.2=some d\/∃(j:Nat)(p:P),b[j]? = some p/\d=.p (.int ((k+j:Nat):Int))
 | [],k,s,h,y,d,e=>.inl e
 |p::r,k,s,h,y,d,e=>by
  rcases C8 r (k+1) _ (h.put (de p) (.p (.int (k:Int)))) y d e with e|⟨j,n,x,a⟩
  .rw [(j_ (de p) (.p (.int (k:Int))) s.1 s.2 h.nd h.ln).2.2.2.2]at e;split at e
   .cases e;exact .inr ⟨0,p,rfl,rfl⟩
   .exact .inl e
  .exact .inr ⟨j+1,n,by simpa using x,by rw[a,show k+1+j=k+(j+1) by lia]⟩
theorem C_:∀(b:List P)(k:Nat)(s:KV),KVok s->∀y,((∃d,df y s.1 s.2=some d)\/∃p ∈ b,de p=y)->∃d,df y (putAll k b s).1 (putAll k b s).2=some d
 | [],k,s,h,y,q=>by
  rcases q with q|⟨_,z,_⟩
  .exact q
  .cases z
 |p::r,k,s,h,y,q=>by
  refine C_ r (k+1) _ (h.put (de p) (.p (.int (k:Int)))) y ?_;have e:=(j_ (de p) (.p (.int (k:Int))) s.1 s.2 h.nd h.ln).2.2.2.2 y;by_cases w:de p=y
  .exact .inl ⟨_,by rw[e,ai w]⟩
  .rcases q with ⟨d,q⟩|⟨x,z,q⟩
   .exact .inl ⟨d,by rw[e,al w];exact q⟩
   .rcases aW.mp z with rfl|z
    .exact absurd q w
    .exact .inr ⟨x,z,q⟩
theorem MN:KVok ([],[]):=⟨by simp,rfl⟩
def dZ(a:List Nat)(p:P):P:=.tup [kL p 0,.int ((a.getD (iv (kL p 1)).toNat 0:Nat):Int),.int ((a.getD (iv (kL p 2)).toNat 0:Nat):Int)]
theorem Hy(a:List Nat)(f c:D):∀(b:List P)(k:Nat)(s:KV),KVok s->s.1.length+b.length≤900000->(∀p ∈ b,∃(r:P)(x y:Nat),x < a.length/\y < a.length/\p=.tup [r,.int (x:Int),.int (y:Int)])->∀(t v:Option D)(S:aL),S[j]? = some (.dtt s.1 s.2)->∃q n,
  bR (bZ [ar 4,ar 5]) (d7 A) (bG (k:Int) b) [some f,some c,some (.p (.tup (am a))),some (.ref j),t,v] S=some (.nx,[some f,some c,some (.p (.tup (am a))),some (.ref j),q,n],S.set j (.dtt (putAll k (b.map (dZ a)) s).1 (putAll k (b.map (dZ a)) s).2))
 | [],k,s,_,_,_,t,v,S,m=>⟨t,v,by show some (Fl.nx,_,S)=some (.nx,_,S.set j (.dtt s.1 s.2));obtain⟨h,e⟩:=aP.mp m;rw[<- e,gA]⟩
 |p::r,k,s,h,o,i,t,v,S,m=>by
  simp only[aX]at o;obtain⟨d,x,y,H,F,rfl⟩:=i p aO;have K:=(j_ (de (dZ a (.tup [d,.int (x:Int),.int (y:Int)]))) (.p (.int (k:Int))) s.1 s.2 h.nd h.ln).2.2.1;obtain⟨q,n,e⟩:=Hy (A:=A) a f c r (k+1) _ (h.put (de (dZ a (.tup [d,.int (x:Int),.int (y:Int)]))) (.p (.int (k:Int)))) (by lia) (λp g=>i p (aR _ g)) (some (.p (.int (k:Int)))) (some (.p (.tup [d,.int (x:Int),.int (y:Int)]))) (S.set j (.dtt (d_ (de (dZ a (.tup [d,.int (x:Int),.int (y:Int)]))) (.p (.int (k:Int))) s.1 s.2).1 (d_ (de (dZ a (.tup [d,.int (x:Int),.int (y:Int)]))) (.p (.int (k:Int))) s.1 s.2).2)) (cC (dB m));refine⟨q,n,?_⟩;unfold bG;rw[aF,putAll];rw[mS,cj]at e;refine(cz (h:=[some f,some c,some (.p (.tup (am a))),some (.ref j),some (.p (.int (k:Int))),some (.p (.tup [d,.int (x:Int),.int (y:Int)]))]) rfl ?_).trans e;have u:=h.nd;have w:s.1.length≤1000000:=by lia
  have l:L2.atI (am a) (x:Int)=some (.int ((a.getD x 0:Nat):Int)):=eO (by simp[am,H]);have z:L2.atI (am a) (y:Int)=some (.int ((a.getD y 0:Nat):Int)):=eO (by simp[am,F]);simp[d7,nJ,fA,gu,u,w,de,dZ,m,l,z]
theorem KG:aT Att "Renamer" "renaming"=true:=by decide +kernel
theorem KE:aT Att "Renamer" "becomes"=true:=by decide +kernel
theorem KD:aT Att "Renamer" "sources"=true:=by decide +kernel
theorem KC:aT Att "Renamer" "road_sources"=true:=by decide +kernel
noncomputable def aq(a:List Nat):List Int:=a.map λ(k:Nat)=>(k:Int)
def ga(a:List Nat)(b:List P):List P:=b.map λp=>match df (de p) (putAll 0 (b.map (dZ a)) ([],[])).1 (putAll 0 (b.map (dZ a)) ([],[])).2 with
 |some (.p v)=>v
 |_=>.non
noncomputable def jD:LS:=["renaming","becomes","sources","road_sources"]
def kK(a:List Nat)(b:List P):List P:=[.tup (am a),.tup (am a++[.int (-1)]),.lst (am (cG (aq a))),.lst (ga a b)]
variable{n:Nat}{a:List Nat}{b:List P}
theorem zU(t:dD (aq a)=true)(F:b.length≤900000)(l:∀p ∈ b,∃(r:P) (x y:Nat),x < a.length/\y < a.length/\p=.tup [r,.int (x:Int),.int (y:Int)])
  (g:∀p ∈ b,∃v,df (de p) (putAll 0 (b.map (dZ a)) ([],[])).1 (putAll 0 (b.map (dZ a)) ([],[])).2=some (.p v)) (T:aL) :
  Ph (n+2) "Renamer.__init__" [.ref T.length,.p (.lst b),.p (.tup (am a))] (T++[.ins "Renamer" [] []]) =
   some (.p .non,T++[.ins "Renamer" jD ((kK a b).map .p),.dtt (putAll 0 (b.map (dZ a)) ([],[])).1 (putAll 0 (b.map (dZ a)) ([],[])).2]):=by
 let L:Option D->Option D->Option D->Lc:=λQ h e=>[some (.ref T.length),some (.p (.lst b)),some (.p (.tup (am a))),Q,h,e]
 have N:m7 (am a)=some (aq a):=by
  clear g l F t;induction a with
  |nil=>rfl
  |cons k r A=>simp only[am,aq,aF,m7]at A ⊢;rw[A];rfl
 have m:a.length < 64:=by have:=(dG t).1;simpa[aq] using this
 have d:ky (.tup (am a)) (.tup [.int (-1)])=some (.tup (am a++[.int (-1)])):=by
  cases a with
  |nil=>rfl
  |cons k r=>show p0 (.tup (am (k::r))) (.tup [.int (-1)])=_;simp only[am,aX]at m ⊢;simp[p0,few];try lia
 rw[mN];show AJ (fL (Ph (n+1)) (L none none none) (T++[.ins "Renamer" [] []]))=_;unfold fL;rw[aY (e:=L none none none) (c:=T++[.ins "Renamer" ["renaming"] [.p (.tup (am a))]]) (by simp[L,KG,Ev.putK,Ev.tB])];rw[aY (e:=L none none none) (c:=T++[.ins "Renamer" ["renaming","becomes"] [.p (.tup (am a)),.p (.tup (am a++[.int (-1)]))]]) (by simp[L,KE,Ev.putK,Ev.tB,d])];have z:uI 2 (dS (U 2)) (L none none none) (T++[.ins "Renamer" ["renaming","becomes"] [.p (.tup (am a)),.p (.tup (am a++[.int (-1)]))]])=some (.lst (am (cG (aq a))),T++[.ins "Renamer" ["renaming","becomes"] [.p (.tup (am a)),.p (.tup (am a++[.int (-1)]))]]):=by
  have s:∀S:aL,dS (U 2) (L none none none) S=some (.int (a.length:Int),S):=λS=>by simp[L,dM,d9,am]
  have c:Bj (some (some (.p (.tup (am a))))) (.int (a.length:Int))=some (.lst (am (cG (aq a)))):=by simp only[Bj,N,li];rw[ai (by rw[t];simp[aq])];rfl
  rw[uI,s,aB];show ol _ (Bj (some (some (.p (.tup (am a))))) (.int (a.length:Int)))=_;rw[c];rfl
 rw[aY (e:=L none none none) (c:=T++[.ins "Renamer" ["renaming","becomes","sources"] [.p (.tup (am a)),.p (.tup (am a++[.int (-1)])),.p (.lst (am (cG (aq a))))]]) (by rw[lF,eV,z];simp[L,KD,Ev.putK,Ev.tB])];rw[aY (e:=L (some (.ref (T.length+1))) none none) (c:=T++[.ins "Renamer" ["renaming","becomes","sources"] [.p (.tup (am a)),.p (.tup (am a++[.int (-1)])),.p (.lst (am (cG (aq a))))],.dtt [] []]) (by simp[L])];generalize I:SO.ins "Renamer" ["renaming","becomes","sources"] [.p (.tup (am a)),.p (.tup (am a++[.int (-1)])),.p (.lst (am (cG (aq a))))]=i;obtain⟨h,e,s⟩:=Hy (A:=Ph (n+1)) a (.ref T.length) (.p (.lst b)) (j:=T.length+1) b 0 ([],[]) MN (by simpa using F) l none none (T++[i,.dtt [] []]) (by simp);generalize E:putAll 0 (b.map (dZ a)) ([],[])=M at s g ⊢;have c:(T++[i,.dtt [] []]).set (T.length+1) (.dtt M.1 M.2)=T++[i,.dtt M.1 M.2]:=by simp
 rw[c]at s;rw[aY (e:=L (some (.ref (T.length+1))) h e) (c:=T++[i,.dtt M.1 M.2]) (by rw[cf,show iw (vE (U 1)) (L (some (.ref (T.length+1))) none none) (T++[i,.dtt [] []])=some (bG 0 b,T++[i,.dtt [] []]) by simp[L]];exact s)];have u:b.length≤1000000:=by lia
 have B:bo (gv (vE (U 1))) [5] 0 (ar 5) cE (vE (Ed (U 3) (ae (ce cF (vE (U 5)) (vC (.int 1))) (ae (ce cF (vE (U 5)) (vC (.int 2))) aE)))) (L (some (.ref (T.length+1))) h e) (T++[i,.dtt M.1 M.2])=some (.lst (ga a b),T++[i,.dtt M.1 M.2]):=by
  have G:bt (ar 5) cE (vE (Ed (U 3) (ae (ce cF (vE (U 5)) (vC (.int 1))) (ae (ce cF (vE (U 5)) (vC (.int 2))) aE)))) b (L (some (.ref (T.length+1))) h none) (T++[i,.dtt M.1 M.2])=some (ga a b,T++[i,.dtt M.1 M.2]):=by
   have w:ga a b=(b.filter λ_=>true).map λp=>match df (de p) M.1 M.2 with
     |some (.p v)=>v
     |_=>.non:=by rw[ga,E,hE.mpr (λ_ _=>rfl)]
   rw[w];refine cx (Inv:=λH=>∃q,H=L (some (.ref (T.length+1))) h q) (λp f H C=>?_) ⟨none,rfl⟩;obtain⟨q,rfl⟩:=C;obtain⟨r,x,y,R,V,rfl⟩:=l p f;obtain⟨v,K⟩:=g _ f;refine⟨L (some (.ref (T.length+1))) h (some (.p (.tup [r,.int (x:Int),.int (y:Int)]))),rfl,⟨_,rfl⟩,by simp,λ_=>?_⟩;have o:df [Sum.inl (x:Int),Sum.inl (y:Int)] M.1 M.2=some (.p v):=K;rw[K];simp[L,nJ,fA,gu,o]
  unfold bo;rw[show gv (vE (U 1)) (L (some (.ref (T.length+1))) h e) (T++[i,.dtt M.1 M.2])=some (b,T++[i,.dtt M.1 M.2]) by simp[L],aB,ai (by rw[jc];exact u)];rw[show kh [5] 0 (L (some (.ref (T.length+1))) h e)=L (some (.ref (T.length+1))) h none from rfl,G];rfl
 rw[lF,eV,B];subst I;simp[L,KC,Ev.putK,Ev.tB,jD,kK]
def bz(a:List Nat)(b:List P):P:=.obj "Renamer" jD (kK a b)
def CJ(a:List Nat)(b:List P):aL:=[.fz (bz a b),.dtt (putAll 0 (b.map (dZ a)) ([],[])).1 (putAll 0 (b.map (dZ a)) ([],[])).2]
structure RenArg(a:List Nat)(ps:List P):Prop where
 ha:dD (aq a)=true
 hl:ps.length≤900000
 hp:∀p ∈ ps,∃(r:P)(x y:Nat),x < a.length/\y < a.length/\p=.tup [r,.int (x:Int),.int (y:Int)]
 hk:∀p ∈ ps,∃v,df (de p) (putAll 0 (ps.map (dZ a)) ([],[])).1 (putAll 0 (ps.map (dZ a)) ([],[])).2=some (.p v)
variable{L:Lc}{S:aL}
theorem Ds(h:RenArg a b)(has:s L S=some ([.p (.lst b),.p (.tup (am a))],S)) :
  vE (il (Ph (n+2) "Renamer.__init__") "Renamer" s) L S=some (bz a b,S++CJ a b):=by
 have e:=zU (n:=n) h.ha h.hl h.hp h.hk S;have x:il (Ph (n+2) "Renamer.__init__") "Renamer" s L S=some (.ref S.length,S++[.ins "Renamer" jD ((kK a b).map .p),.dtt (putAll 0 (b.map (dZ a)) ([],[])).1 (putAll 0 (b.map (dZ a)) ([],[])).2]):=by simp only[il,has,aB,e];try rfl
 rw[vE,x,aB];have g:(S++[SO.ins "Renamer" jD ((kK a b).map .p),.dtt (putAll 0 (b.map (dZ a)) ([],[])).1 (putAll 0 (b.map (dZ a)) ([],[])).2])[S.length]? = some (.ins "Renamer" jD ((kK a b).map .p)):=by simp
 simp only[jk,g,tM,aB];simp[bz,CJ]
def mj(d:D)(S:aL)(a:List Nat)(b:List P):Prop:=d=.p (bz a b)\/∃i,d=.ref i/\S[i]? = some (.ins "Renamer" jD ((kK a b).map .p))
variable{d:D}
theorem jb(h:mj d S a b)(o:f L S=some (d,S)) :
  dW (aT Att) f "renaming" L S=some (.p (.tup (am a)),S)/\dW (aT Att) f "becomes" L S=some (.p (.tup (am a++[.int (-1)])),S)/\dW (aT Att) f "sources" L S=some (.p (.lst (am (cG (aq a)))),S)/\dW (aT Att) f "road_sources" L S=some (.p (.lst (ga a b)),S):=by
 rcases h with rfl|⟨i,rfl,x⟩
 .simp [o,bz,jD,kK,lQ,KG,KE,KD,KC]
 .simp [o,x,jD,kK,lQ,KG,KE,KD,KC]
noncomputable def iK(a:List Nat)(j:Int):Int:=if j < 0 then -1 else ((a.getD j.toNat 0:Nat):Int)
def eT(a:List Nat)(s:List P):List P:=s.map λw=>.int (iK a (iv w))
theorem KA(h:vf a.length w):L2.atI (am a++[.int (-1)]) (iv w)=some (.int (iK a (iv w)))/\∃j:Int,w=.int j:=by
 obtain⟨j,e,s,rfl⟩:=h;refine⟨?_,j,rfl⟩;show L2.atI (am a++[.int (-1)]) j=some (.int (iK a j));by_cases x:j < 0
 .have:j=-1:=by lia
  subst this;rw[L2.atI_last];rfl
 .refine cO (by lia) ?_;have l:j.toNat < a.length:=by lia
  rw[bw (by simpa[am] using l)];simp[am,iK,x,l]
variable{i:Nat}
theorem Iw(h:mj d S a b)(u:(cG (aq a))[i]? = some s)(g:e[s]? = some (.tup [r,p,.tup x]))(hw:∀w ∈ x,vf a.length w)(D:x.length≤1000) :
  Ph (n+2) "Renamer.whos_at" [d,.p (.tup [.tup e,m]),.p (.int (i:Int))] S=some (.p (.tup (eT a x)),S):=by
 let L:Lc:=[some d,some (.p (.tup [.tup e,m])),some (.p (.int (i:Int)))]
 have f:=jb h (f:=U 0) (L:=L) rfl;have K:L2.atI (am (cG (aq a))) (i:Int)=some (.int (s:Int)):=eO (by simp[am,u]);have P:L2.atI e (s:Int)=some (.tup [r,p,.tup x]):=eO g;have l:z3 (dW (aT Att) (U 0) "sources") (vE (U 2)) L S=some (.p (.int (s:Int)),S):=by rw[z3,f.2.2.1];simp[L,K]
 have X:ce cF (ce cF (ce cF (vE (U 1)) (vC (.int 0))) (vE (z3 (dW (aT Att) (U 0) "sources") (vE (U 2))))) (vC (.int 2)) L S=some (.tup x,S):=by
  have A:ce cF (vE (U 1)) (vC (.int 0)) L S=some (.tup e,S):=by simp[L]
  have B:vE (z3 (dW (aT Att) (U 0) "sources") (vE (U 2))) L S=some (.int (s:Int),S):=by rw[vE,l];simp
  have C:ce cF (ce cF (vE (U 1)) (vC (.int 0))) (vE (z3 (dW (aT Att) (U 0) "sources") (vE (U 2)))) L S=some (.tup [r,p,.tup x],S):=by rw[ce,A,aB,B,aB];simp[P]
  rw[ce,C,aB];simp
 have F:bt (ar 3) cE (vE (z3 (dW (aT Att) (U 0) "becomes") (vE (U 3)))) x (L++[none]) S=some (eT a x,S):=by
  have H:eT a x=(x.filter λ_=>true).map λw=>.int (iK a (iv w)):=by rw[eT,hE.mpr (λ_ _=>rfl)]
  rw[H];refine cx (Inv:=λt=>∃q,t=L++[q]) (λw c t z=>?_) ⟨none,rfl⟩;obtain⟨q,rfl⟩:=z;obtain⟨v,j,rfl⟩:=KA (hw w c);refine⟨L++[some (.p (.int j))],rfl,⟨_,rfl⟩,by simp,λ_=>?_⟩;have y:=jb h (f:=U 0) (L:=L++[some (.p (.int j))]) rfl;have k:L2.atI (am a++[.int (-1)]) j=some (.int (iK a j)):=v;rw[vE,z3,y.2.1];simp[L,k,iv]
 rw[kc];show AJ (d6 (Ph (n+1)) L S)=_;unfold d6;have o:bo (gv (ce cF (ce cF (ce cF (vE (U 1)) (vC (.int 0))) (vE (z3 (dW (aT Att) (U 0) "sources") (vE (U 2))))) (vC (.int 2)))) [] 1 (ar 3) cE (vE (z3 (dW (aT Att) (U 0) "becomes") (vE (U 3)))) L S=some (.lst (eT a x),S):=by unfold bo;rw[gv,X];simp only[aB];rw[ai (by rw[jc];lia),show kh [] 1 L=L++[none] from rfl,F];rfl
 rw[b0,eV,aN,ae,o];simp[bC]
def hB(a:List Nat)(x:P):P:=.tup [kL x 0,kL x 1,.tup (eT a (sZ (kL x 2)))]
def dt(a:List Nat)(h:List P):List P:=(cG (aq a)).map λk=>hB a (h.getD k .non)
def iQ(a:List Nat)(b r:List P):List P:=(ga a b).map λv=>r.getD (iv v).toNat .non
noncomputable def BH(a:List Nat)(b h r:List P):P:=.tup [.tup (dt a h),.tup (iQ a b r)]
theorem Qd(h:Str->GF):mT Tb h "Renamer" "whos_at"=some (h "Renamer.whos_at"):=by kernel_rfl
theorem Qo:jD.contains "whos_at"=false:=by decide +kernel
theorem Co(h:dD z=true)(e:(cG z)[i]? = some k):k < z.length:=by obtain⟨_,m⟩:=dG h;unfold cG at e;rw[aZ]at e;obtain⟨j,x,rfl⟩:=cV.mp e;have a:j < z.length:=iX.mp (aM x);exact yO (m j a)
theorem u9(h:mj d S a b)(f:(cG (aq a))[i]? = some c)(m:q[c]? = some (.tup [r,v,.tup x]))(hw:∀w ∈ x,vf a.length w)(l:x.length≤1000)(o:t L S=some (d,S))(has:k L S=some ([.p (.tup [.tup q,s]),.p (.int (i:Int))],S)) :
  fC (mT Tb (Ph (n+2))) t "whos_at" k L S=some (.p (.tup (eT a x)),S):=by
 have e:=Iw h (n:=n) (m:=s) f m hw l;rcases h with rfl|⟨j,rfl,p⟩
 .rw [fC,o,aB];simp only[bz,Qd,Qo,has,aB,fM,g7];exact e
 .rw [fC,o,aB];simp only[p,Qd,Qo,has,aB,fM,g7];exact e
end My
namespace My
open PySem L2 Ev
def EU(n:Nat)(c:List P):Prop:=c.length=n/\∀(k:Nat)(x:P),c[k]? = some x->∃r h s,x=.tup [r,h,.tup s]/\(∀w ∈ s,vf n w)/\s.length≤1000
variable{a:List Nat}{t:List P}{n:Nat}{c:List P}{m:List P}
theorem Gc(h:mj d S a t)(E:dD (aq a)=true)(G:EU a.length c) :
  ∃u l z o H:Option D,bR (bZ [ar 3,ar 4]) (bA (Ph (n+2))) (bG 0 (am (cG (aq a)))) [some d,some (.p (.tup [.tup c,.tup m])),some (.ref S.length),none,none,none,none,none] (S++[.lst []]) =
   some (.nx,[some d,some (.p (.tup [.tup c,.tup m])),some (.ref S.length),u,l,z,o,H],S++[.lst ((dt a c).map .p)]):=by
 have Z:(aq a).length=a.length:=by simp[aq]
 have V:=(dG E).1;have hsl:(cG (aq a)).length=a.length:=by unfold cG;simp[aq]
 obtain⟨L',P,e,u,l,z,o,H,rfl,rfl⟩:=bJ (g:=bZ [ar 3,ar 4]) (b:=bA (Ph (n+2))) (s:=bG 0 (am (cG (aq a)))) (k:=0)
  (Inv:=λi L P=>∃u l z o H:Option D,L=[some d,some (.p (.tup [.tup c,.tup m])),some (.ref S.length),u,l,z,o,H]/\P=S++[.lst (((dt a c).take i).map .p)])
  (L:=[some d,some (.p (.tup [.tup c,.tup m])),some (.ref S.length),none,none,none,none,none]) (S:=S++[.lst []]) (fun i v L P hv W=>by
   obtain⟨u,l,z,o,H,rfl,rfl⟩:=W;simp only[cD];obtain⟨x,B,rfl⟩:=fB hv;obtain⟨s,q,rfl⟩:∃s,(cG (aq a))[i]? = some s/\x=.int (s:Int):=by unfold am at B;rw[aZ]at B;obtain⟨s,q,I⟩:=cV.mp B;exact⟨s,q,I.symm⟩
   have hlt:=Co E q;obtain⟨y,K⟩:∃y,c[s]? = some y:=⟨c[s]'(by have:=G.1;lia),by simp⟩;obtain⟨r,p,w,rfl,hw,A⟩:=G.2 s y K;have hi:i < (dt a c).length:=by have:=(aP.mp q).1;simpa[dt] using this
   have ht:(dt a c).take (i+1)=(dt a c).take i++[.tup [r,p,.tup (eT a w)]]:=by
    have hg:(dt a c)[i]? = some (.tup [r,p,.tup (eT a w)]):=by unfold dt;rw[aZ,q];simp[hB,K,kL,sZ]
    rw[List.take_succ,hg];rfl
   let f:Lc:=[some d,some (.p (.tup [.tup c,.tup m])),some (.ref S.length),some (.p (.int (i:Int))),some (.p (.int (s:Int))),some (.p r),some (.p p),some (.p (.tup w))]
   have X:mj d (S++[.lst (((dt a c).take i).map .p)]) a t:=by
    rcases h with h|⟨j,T,C⟩
    .exact .inl h
    .exact .inr ⟨j,T,by rw[bw (aP.mp C).1];exact C⟩
   have R:=u9 X (n:=n) (s:=.tup m) (t:=U 0) (k:=bj (U 1) (bj (U 3) dq)) (L:=f) q K hw A rfl rfl;have s2:L2.atI c (s:Int)=some (.tup [r,p,.tup w]):=eO K;have F:((dt a c).take i).length≤1000000:=by rw[fQ];simp[dt]at hi ⊢;lia
   refine⟨_,f,_,rfl,?_,_,_,_,_,_,rfl,rfl⟩;unfold bA;rw[aY (e:=f) (c:=S++[.lst (((dt a c).take i).map .p)]) (by simp[s2,f])];have Q:eV (bf (ae (vE (U 5)) (ae (vE (U 6)) (ae (vE (fC (mT Tb (Ph (n+2))) (U 0) "whos_at" (bj (U 1) (bj (U 3) dq)))) aE)))) f (S++[.lst (((dt a c).take i).map .p)])=some (.p (.tup [r,p,.tup (eT a w)]),S++[.lst (((dt a c).take i).map .p)]):=by
    have M:vE (fC (mT Tb (Ph (n+2))) (U 0) "whos_at" (bj (U 1) (bj (U 3) dq))) f (S++[.lst (((dt a c).take i).map .p)])=some (.tup (eT a w),S++[.lst (((dt a c).take i).map .p)]):=by rw[vE,R];simp
    have N:ae (vE (U 5)) (ae (vE (U 6)) (ae (vE (fC (mT Tb (Ph (n+2))) (U 0) "whos_at" (bj (U 1) (bj (U 3) dq)))) aE)) f (S++[.lst (((dt a c).take i).map .p)])=some ([r,p,.tup (eT a w)],S++[.lst (((dt a c).take i).map .p)]):=by rw[ae,show vE (U 5) f (S++[.lst (((dt a c).take i).map .p)])=some (r,S++[.lst (((dt a c).take i).map .p)]) by simp[f],aB,ae,show vE (U 6) f (S++[.lst (((dt a c).take i).map .p)])=some (p,S++[.lst (((dt a c).take i).map .p)]) by simp[f],aB,ae,M];rfl
    rw[eV,bf,N];rfl
   rw[ht,dj,bW,show U 2 f (S++[.lst (((dt a c).take i).map .p)])=some (.ref S.length,S++[.lst (((dt a c).take i).map .p)]) from rfl,aB];simp only[Q,aB];rw[fQ]at F;simp[d4,F,f]) ⟨none,none,none,none,none,rfl,by simp⟩
 refine⟨u,l,z,o,H,?_⟩;rw[e,cD,cH,List.take_of_length_le (by simp[dt,am])]
theorem Hw(h:mj d S a t)(H:dD (aq a)=true)(P:EU a.length c)(B:∀v ∈ ga a t,∃j:Nat,v=.int (j:Int)/\j < m.length)(N:t.length≤900000) :
  Ph (n+4) "Renamer.standing_behind" [d,.p (.tup [.tup c,.tup m])] S=some (.p (BH a t c m),S++[.fz (.lst (dt a c))]):=by
 obtain⟨x,p,k,b,r,e⟩:=Gc h H (n:=n+1) (m:=m) P;let L:Option D->Option D->Option D->Option D->Option D->Option D->Lc:=λG x p k b r=>[some d,some (.p (.tup [.tup c,.tup m])),G,x,p,k,b,r]
 have R:∀o:SO,mj d (S++[o]) a t:=λo=>by
  rcases h with h|⟨j,y,i⟩
  .exact .inl h
  .exact .inr ⟨j,y,by rw[bw (aP.mp i).1];exact i⟩
 rw[gH];show AJ (cq (Ph (n+3)) (L none none none none none none) S)=_;unfold cq;rw[aY (e:=L (some (.ref S.length)) none none none none none) (c:=S++[.lst []]) (by simp[L])];have I:iw (vE (dW (aT Att) (U 0) "sources")) (L (some (.ref S.length)) none none none none none) (S++[.lst []])=some (bG 0 (am (cG (aq a))),S++[.lst []]):=by
  have f:=(jb (R (.lst [])) (f:=U 0) (L:=L (some (.ref S.length)) none none none none none) rfl).2.2.1;have w:vE (dW (aT Att) (U 0) "sources") (L (some (.ref S.length)) none none none none none) (S++[.lst []])=some (.lst (am (cG (aq a))),S++[.lst []]):=by rw[vE,f];simp
  rw[iw,w];rfl
 rw[aY (e:=L (some (.ref S.length)) x p k b r) (c:=S++[.lst ((dt a c).map .p)]) (by rw[cf,I];exact e)];have M:jk 9 (.ref S.length) (S++[.lst ((dt a c).map .p)])=some (.lst (dt a c),S++[.fz (.lst (dt a c))]):=by rw[fZ (T:=dt a c) (by simp)];simp
 have T:aN bC (ae (vE (U 2)) aE) (L (some (.ref S.length)) x p k b r) (S++[.lst ((dt a c).map .p)])=some (.tup (dt a c),S++[.fz (.lst (dt a c))]):=by simp[L,M,bC]
 have u:(ga a t).length≤1000000:=by simp[ga];lia
 have C:bo (gv (vE (dW (aT Att) (U 0) "road_sources"))) [4] 0 (ar 4) cE (ce cF (ce cF (vE (U 1)) (vC (.int 1))) (vE (U 4))) (L (some (.ref S.length)) x p k b r) (S++[.fz (.lst (dt a c))])=some (.lst (iQ a t m),S++[.fz (.lst (dt a c))]):=by
  have f:=(jb (R (.fz (.lst (dt a c)))) (f:=U 0) (L:=L (some (.ref S.length)) x p k b r) rfl).2.2.2;have w:vE (dW (aT Att) (U 0) "road_sources") (L (some (.ref S.length)) x p k b r) (S++[.fz (.lst (dt a c))])=some (.lst (ga a t),S++[.fz (.lst (dt a c))]):=by rw[vE,f];simp
  have K:bt (ar 4) cE (ce cF (ce cF (vE (U 1)) (vC (.int 1))) (vE (U 4))) (ga a t) (L (some (.ref S.length)) x none k b r) (S++[.fz (.lst (dt a c))])=some (iQ a t m,S++[.fz (.lst (dt a c))]):=by
   have F:iQ a t m=((ga a t).filter λ_=>true).map λv=>m.getD (iv v).toNat .non:=by rw[iQ,hE.mpr (λ_ _=>rfl)]
   rw[F];refine cx (Inv:=λg=>∃q,g=L (some (.ref S.length)) x q k b r) (λv E g z=>?_) ⟨none,rfl⟩;obtain⟨q,rfl⟩:=z;obtain⟨j,rfl,A⟩:=B v E;refine⟨L (some (.ref S.length)) x (some (.p (.int (j:Int)))) k b r,rfl,⟨_,rfl⟩,by simp,λ_=>?_⟩;have s:L2.atI m (j:Int)=some (m.getD j .non):=eO (by simp[A]);simp[L,s,iv]
  unfold bo;rw[gv,w];simp only[aB];rw[ai (by rw[jc];exact u),show kh [4] 0 (L (some (.ref S.length)) x p k b r)=L (some (.ref S.length)) x none k b r from rfl,K];rfl
 have l:aN bC (ae (bo (gv (vE (dW (aT Att) (U 0) "road_sources"))) [4] 0 (ar 4) cE (ce cF (ce cF (vE (U 1)) (vC (.int 1))) (vE (U 4)))) aE) (L (some (.ref S.length)) x p k b r) (S++[.fz (.lst (dt a c))])=some (.tup (iQ a t m),S++[.fz (.lst (dt a c))]):=by rw[aN,ae,C];simp[bC]
 rw[b0,eV,bf,ae,T,aB,ae,l];rfl
theorem Qe(h:Str->GF):mT Tb h "Renamer" "standing_behind"=some (h "Renamer.standing_behind"):=by kernel_rfl
theorem Qp:jD.contains "standing_behind"=false:=by decide +kernel
theorem Ma(h:RenArg a t)(q:cU (Ph (n+5) "pairs_of") [p]=some (.lst t))(r:EU a.length c)(w:∀v ∈ ga a t,∃j:Nat,v=.int (j:Int)/\j < m.length) :
  cU (Ph (n+6) "renamed") [p,.tup [.tup c,.tup m],.tup (am a)]=some (BH a t c m):=by
 let L:Lc:=[some (.p p),some (.p (.tup [.tup c,.tup m])),some (.p (.tup (am a)))]
 have s:=zU (n:=n+2) h.ha h.hl h.hp h.hk [];generalize u:putAll 0 (t.map (dZ a)) ([],[])=M at s;have A:bj (eV (aN (cU (Ph (n+5) "pairs_of")) (ae (vE (U 0)) aE))) (bj (U 2) dq) L []=some ([.p (.lst t),.p (.tup (am a))],[]):=by simp[L,q]
 have f:il (Ph (n+4) "Renamer.__init__") "Renamer" (bj (eV (aN (cU (Ph (n+5) "pairs_of")) (ae (vE (U 0)) aE))) (bj (U 2) dq)) L []=some (.ref 0,[.ins "Renamer" jD ((kK a t).map .p),.dtt M.1 M.2]):=by
  rw [il,A,aB];have e:Ph (n+4) "Renamer.__init__" [.ref 0,.p (.lst t),.p (.tup (am a))] [.ins "Renamer" [] []]=some (.p .non,[.ins "Renamer" jD ((kK a t).map .p),.dtt M.1 M.2]):=s;show (match Ph (n+4) "Renamer.__init__" [.ref 0,.p (.lst t),.p (.tup (am a))] [.ins "Renamer" [] []] with
   |some (.p .non,k)=>some (D.ref 0,k)
   |_=>none)=_
  rw[e]
 have R:mj (.ref 0) [.ins "Renamer" jD ((kK a t).map .p),.dtt M.1 M.2] a t:=.inr ⟨0,rfl,rfl⟩;have b:=Hw R h.ha (n:=n+1) r w h.hl;rw[vp,bx];show(match jP (Ph (n+5)) (Ph (n+4)) L [] with|some (.rt d,_,S)=>(jk 9 d S).map (λx=>x.fst)|some (.nx,_,_)=>some .non|_=>none)=some (BH a t c m);unfold jP;have X:fC (mT Tb (Ph (n+5))) (il (Ph (n+4) "Renamer.__init__") "Renamer" (bj (eV (aN (cU (Ph (n+5) "pairs_of")) (ae (vE (U 0)) aE))) (bj (U 2) dq))) "standing_behind" (bj (U 1) dq) L []=some (.p (BH a t c m),[.ins "Renamer" jD ((kK a t).map .p),.dtt M.1 M.2]++[.fz (.lst (dt a c))]):=by
  rw[fC,f,aB];have has:bj (U 1) dq L [.ins "Renamer" jD ((kK a t).map .p),.dtt M.1 M.2]=some ([.p (.tup [.tup c,.tup m])],[.ins "Renamer" jD ((kK a t).map .p),.dtt M.1 M.2]):=by simp[L]
  simp only[List.getElem?_cons_zero,Qe,Qp,has,aB,fM,g7];exact b
 rw[b0,X];simp
theorem zr{t:List P}{n:Nat}(p:D):∀(r:List (List Nat)),(∀a ∈ r,RenArg a t)->∀(q:Option D)(S:aL),
  bt (ar 2) cE (vE (il (Ph (n+2) "Renamer.__init__") "Renamer" (bj (U 1) (bj (U 2) dq)))) (tups r) [some p,some (.p (.lst t)),q] S=some (r.map λa=>bz a t,S++(r.map λa=>CJ a t).flatten)
 | [],_,q,S=>by simp[tups,bt]
 |a::r,h,q,S=>by have i:=zr (n:=n) p r (λb s=>h b (aR _ s)) (some (.p (.tup (am a)))) (S++CJ a t);have e:=Ds (h a aO) (n:=n) (s:=bj (U 1) (bj (U 2) dq)) (L:=[some p,some (.p (.lst t)),some (.p (.tup (am a)))]) (S:=S) (by simp);have x:cE [some p,some (.p (.lst t)),some (.p (.tup (am a)))] S=some (true,S):=rfl;show bt _ _ _ (P.tup (am a)::tups r) _ _=_;rw[bt,show ar 2 (P.tup (am a)) [some p,some (.p (.lst t)),q]=some [some p,some (.p (.lst t)),some (.p (.tup (am a)))] from rfl];simp only[x,aB,eL,e,i];simp
theorem L9(h:∀a ∈ r,RenArg a t)(k:cU (Ph (n+3) "pairs_of") [p]=some (.lst t))(f:cU (Ph (n+3) "renamings") [p]=some (.lst (tups r)))(l:r.length≤1000) :
  cU (Ph (n+4) "renamers_of") [p]=some (.lst (r.map λa=>bz a t)):=by
 have e:=zr (n:=n) (.p p) r h none [];rw[nO,bx];show(match gk (Ph (n+3)) (Ph (n+2)) [some (.p p),none] [] with|some (.rt d,_,S)=>(jk 9 d S).map (λx=>x.fst)|some (.nx,_,_)=>some .non|_=>none)=some (P.lst (r.map λa=>bz a t));unfold gk;rw[aY (e:=[some (.p p),some (.p (.lst t))]) (c:=[]) (by simp[k])];have c:bo (gv (aN (cU (Ph (n+3) "renamings")) (ae (vE (U 0)) aE))) [] 1 (ar 2) cE (vE (il (Ph (n+2) "Renamer.__init__") "Renamer" (bj (U 1) (bj (U 2) dq)))) [some (.p p),some (.p (.lst t))] []=some (.lst (r.map λa=>bz a t),[]++(r.map λa=>CJ a t).flatten):=by
  have s:gv (aN (cU (Ph (n+3) "renamings")) (ae (vE (U 0)) aE)) [some (.p p),some (.p (.lst t))] []=some (tups r,[]):=by simp[f]
  unfold bo;rw[s,aB,ai (by rw[jc];simp[tups];lia),show kh [] 1 [some (D.p p),some (D.p (P.lst t))]=[some (D.p p),some (D.p (P.lst t)),none] from rfl,e];rfl
 rw[b0,eV,c];simp
def pu(os t:List P)(m:P):List P:=((os.zip t).filter λz=>bB (pd z.2) (pd m)).map (·.1)
theorem L5{os s:List P}{m:P}{n:Nat}(H:os.length=s.length)(B:os.length≠1)(w:os.length≤1000)(a:p_ s=some m)(b:∀t ∈ s,di 20 t=true/\∃h,t=.tup h) :
  cU (Ph (n+2) "sifted") [.lst os,.lst s]=some (.lst (pu os s m)):=by
 have f:m ∈ s:=by
  unfold p_ at a;split at a
  .exact aM a
  .cases a
 obtain⟨k,y,rfl⟩:=b m f;rw[pW,bx];show(match je (Ph (n+1)) [some (.p (.lst os)),some (.p (.lst s)),none] [] with|some (.rt d,_,S)=>(jk 9 d S).map (λx=>x.fst)|some (.nx,_,_)=>some .non|_=>none)=some (P.lst (pu os s (.tup y)));unfold je;have e:¬((os.length:Int)=1):=by lia
 rw[aY (e:=[some (.p (.lst os)),some (.p (.lst s)),none]) (c:=[]) (by simp[dM,d9,e])];rw[aY (e:=[some (.p (.lst os)),some (.p (.lst s)),some (.p (.tup y))]) (c:=[]) (by simp[jN,a])];have l:bt (bZ [ar 3,ar 4]) (bV (gY A1 (U 4) (U 2))) (vE (U 3)) ((os.zip s).map λz=>.tup [z.1,z.2]) [some (.p (.lst os)),some (.p (.lst s)),some (.p (.tup y)),none,none] []=some (pu os s (.tup y),[]):=by
  have j:pu os s (.tup y)=(((os.zip s).map λz=>P.tup [z.1,z.2]).filter λv=>bB (pd (kL v 1)) (pd (.tup y))).map λv=>kL v 0:=by unfold pu;rw[oq,gx];rfl
  rw[j];refine cx (Inv:=λL=>∃q c,L=[some (.p (.lst os)),some (.p (.lst s)),some (.p (.tup y)),q,c]) (λv K L g=>?_) ⟨none,none,rfl⟩;obtain⟨q,c,rfl⟩:=g;obtain⟨⟨o,t⟩,A,rfl⟩:=a_.mp K;obtain⟨F,h,rfl⟩:=b t (ou A).2;refine⟨[some (.p (.lst os)),some (.p (.lst s)),some (.p (.tup y)),some (.p o),some (.p (.tup h))],rfl,⟨_,_,rfl⟩,?_,λ_=>by simp[kL,sZ]⟩;have u:Ec (.tup h) (.tup y)=some (bB (pd (.tup h)) (pd (.tup y))):=by unfold Ec;rw[F,k];rfl
  simp[u,kL,sZ]
 have p:∀h y:List P,Aq h y=(h.zip y).map λz=>P.tup [z.1,z.2]:=λ_ _=>rfl;have i:bo (MO (vE (U 0)) (vE (U 1))) [] 2 (bZ [ar 3,ar 4]) (bV (gY A1 (U 4) (U 2))) (vE (U 3)) [some (.p (.lst os)),some (.p (.lst s)),some (.p (.tup y))] []=some (.lst (pu os s (.tup y)),[]):=by
  have r:MO (vE (U 0)) (vE (U 1)) [some (.p (.lst os)),some (.p (.lst s)),some (.p (.tup y))] []=some ((os.zip s).map λz=>.tup [z.1,z.2],[]):=by simp[H,p]
  unfold bo;rw[r,aB,ai (by rw[jc];simp;lia),show kh [] 2 [some (D.p (P.lst os)),some (D.p (P.lst s)),some (D.p (P.tup y))]=[some (D.p (P.lst os)),some (D.p (P.lst s)),some (D.p (P.tup y)),none,none] from rfl,l];rfl
 rw[b0,eV,i];simp
end My
namespace My
open PySem L2 Ev
theorem MS(P:Pln B.fams B.roads B.wishes)(h:StL B C E):EU (aG B.fams).length C:=by
 refine⟨h.hl,λk x u=>?_⟩;have v:k < (aG B.fams).length:=by rw[<- h.hl];exact(aP.mp u).1
 obtain⟨K,f,m,l,a,t,i,r,D,A,rfl,_,_,hw,y⟩:=h.hh k _ x (bq v) u;refine⟨_,_,A,rfl,y,?_⟩;have d:(aG B.fams)[k] ∈ aG B.fams:=ej v;unfold aG at d;obtain⟨z,S,e⟩:=a_.mp d;obtain⟨j,_,H⟩:=kP S;have p:=P.hf _ (aM H);obtain⟨q,n,o,c,w,s,F,g⟩:=p;have b:A4 K f m l a t=.tup [.str q,.int (n:Int),.lst o,.lst c,.lst w,.lst s]:=by rw[<- i,<- g];exact e.symm
 have:a=w:=by unfold A4 at b;injection b with b;simp at b;exact b.2.2.2.2.1
 rw[hw,this];have:=F.wl
 lia
theorem D4(s:List P):(bv s).length=(aG s).length:=by simp[bv,aG]
variable{s:List P}{a:List Nat}
theorem lG(h:Shp (bv s))(e:a ∈ bI (bv s)):a.length=(aG s).length/\dD (aq a)=true:=by have:=h.ok;unfold zB at this;simp only[av,be,qE]at this;have x:=this.2 a e;exact⟨by rw[<- D4];exact x.1.1.1.2,x.1.1.1.1⟩
variable{k:Nat}
theorem zF(h:Shp (bv s))(n:a ∈ bI (bv s))(e:a[k]? = some j):(aQ s)[j]? = (aQ s)[k]?:=by
 have b:=h.ok;unfold zB at b;simp only[av,be,qE]at b;have f:=(b.2 a n).1.1.2;have r:=(lG h n).1;have w:k < a.length:=(aP.mp e).1;have t:∀i,i < (aG s).length->(aG s)[i]? = s[(bv s).getD i 0]?:=λi x=>by
  unfold aG bv at *
  rw[aU]at x;obtain⟨m,q,f⟩:=kP (ej x);rw[aZ,bq x,bH,aZ,bq x];simp only[jX,om];rw[q,cD,f]
 have p:(bv s).getD j 0=(bv s).getD k 0:=by have:=d8 (λl=>l.getD k 0) f;simp only[bH,aZ,e,jX,om]at this ⊢;exact this
 have o:=(dG (lG h n).2).2;have d:j < (aG s).length:=by
  have v:∀i ∈ a,i < a.length:=by
   have P:=jE _ (aq a) rfl (dG (lG h n).2).2;intro i x;have:(i:Int) ∈ aq a:=a_.mpr ⟨i,x,rfl⟩
   have:=P.mem_iff.mp this;obtain⟨z,c,u⟩:=a_.mp this;have c:=iX.mp c;simp[aq]at c;lia
  rw[<- r];exact v j (aM e)
 unfold aQ;rw[aZ,aZ,t j d,t k (by rw[<- r];exact w),p]
theorem Dr:i ∈ dr N e↔N[i]? = some e:=by
 unfold dr;rw[fP,iX];constructor
 .exact λh=>bu h.2
 .exact λh=>⟨(aP.mp h).1,jy h⟩
theorem lN:p ∈ bi N o↔∃r ∈ o,∃x y,N[x]? = some (rA r)/\N[y]? = some (rB r)/\x≠y/\p=pr r x y:=by
 unfold bi vO;simp only[ss,a_,fP,Dr];constructor
 .rintro ⟨r,a,x,e,y,⟨s,h⟩,rfl⟩;exact⟨r,a,x,y,e,s,by simpa using h,rfl⟩
 .rintro ⟨r,a,x,y,e,s,h,rfl⟩;exact⟨r,a,x,e,y,⟨s,by simpa using h⟩,rfl⟩
theorem Cp(h:dD (aq a)=true)(s:x < a.length):∃k:Nat,a[k]? = some x:=by
 have m:=(dG h).2 x (by simpa[aq] using s);unfold aq at m;obtain⟨z,n,e⟩:=a_.mp m;have:z=x:=by lia
 subst this;exact hU.mp n
theorem Gf(P:Pln s o w)(q:a ∈ bI (bv s))(F:(bi (aQ s) o).length≤900000):RenArg a (bi (aQ s) o):=by
 have S:=i8 P;obtain⟨l,k⟩:=lG S q;have h:(aQ s).length=a.length:=by rw[l];simp[aQ]
 refine⟨k,F,λp g=>?_,λp g=>?_⟩
 .obtain⟨r,_,x,y,f,b,_,rfl⟩:=lN.mp g;exact⟨r,x,y,by rw[<- h];exact(aP.mp f).1,by rw[<- h];exact(aP.mp b).1,rfl⟩
 .obtain⟨r,B,x,y,f,b,A,rfl⟩:=lN.mp g;obtain⟨c,n⟩:=Cp k (x:=x) (by rw[<- h];exact(aP.mp f).1);obtain⟨m,t⟩:=Cp k (x:=y) (by rw[<- h];exact(aP.mp b).1);have i:=(zF S q n).symm.trans f;have H:=(zF S q t).symm.trans b;have u:c≠m:=λz=>by rw[z,t]at n;cases n;exact A rfl
  have K:dZ a (pr r c m) ∈ (bi (aQ s) o).map (dZ a):=a_.mpr ⟨_,lN.mpr ⟨r,B,c,m,i,H,u,rfl⟩,rfl⟩;have e:de (dZ a (pr r c m))=de (pr r x y):=by simp[de,dZ,pr,kL,sZ,iv,n,t]
  obtain⟨d,hd⟩:=C_ _ 0 ([],[]) MN (de (pr r x y)) (.inr ⟨_,K,e⟩);rcases C8 _ 0 ([],[]) MN (de (pr r x y)) d hd with z|⟨j,C,_,v⟩
  .cases z
  .exact⟨_,by rw[hd,v]⟩
theorem wA(h:RenArg a f):∀v ∈ ga a f,∃j:Nat,v=.int (j:Int)/\j < f.length:=by
 intro v e;unfold ga at e;obtain⟨p,s,rfl⟩:=a_.mp e;obtain⟨w,hw⟩:=h.hk p s;rcases C8 _ 0 ([],[]) MN (de p) (.p w) hw with z|⟨j,n,x,hd⟩
 .cases z
 .rw [hw];cases hd;have x:=(aP.mp x).1;rw[aU]at x;exact⟨j,by simp,x⟩
structure Od(n:Nat)(S:P->Prop):Prop where
 lt:∀{x y},S x->S y->∃b,fy n (pd x) (pd y)=some b
 eq:∀{x y},S x->S y->(bB (pd x) (pd y)=true↔x=y)
 ir:∀{x},S x->fy n (pd x) (pd x)=some false
 tri:∀{x y},S x->S y->x≠y->fy n (pd x) (pd y)=some false->fy n (pd y) (pd x)=some true
 tr:∀{x y z},S x->S y->S z->fy n (pd x) (pd y)=some true->fy n (pd y) (pd z)=some true->fy n (pd x) (pd z)=some true
variable{n:Nat}{S:P->Prop}
theorem Od.sub(h:Od n S)(k:∀x,T x->S x):Od n T:=
 ⟨λa b=>h.lt (k _ a) (k _ b),λa b=>h.eq (k _ a) (k _ b),λa=>h.ir (k _ a),λa b=>h.tri (k _ a) (k _ b),λa b c=>h.tr (k _ a) (k _ b) (k _ c)⟩
variable{x:P}{y:P}
theorem Od.neq(h:Od n S)(a:S x)(s:S y)(q:x≠y):bB (pd x) (pd y)=false:=by
 cases e:bB (pd x) (pd y) with
 |false=>rfl
 |true=>exact absurd ((h.eq a s).mp e) q
theorem Od.asy(h:Od n S)(a:S x)(s:S y)(q:fy n (pd x) (pd y)=some true):fy n (pd y) (pd x)=some false:=by
 obtain⟨b,e⟩:=h.lt s a;cases b with
 |false=>exact e
 |true=>have:=h.tr a s a q e;rw[h.ir a]at this;cases this
theorem JD(n:Nat):Od n (λx=>∃i:Int,x=.int i):=by
 have e:∀i j:Int,fy n (pd (.int i)) (pd (.int j))=some (decide (i < j)):=λi j=>by cases n<;>rfl
 refine⟨?_,?_,?_,?_,?_⟩
 .rintro _ _ ⟨i,rfl⟩ ⟨j,rfl⟩;exact⟨_,e i j⟩
 .rintro _ _ ⟨i,rfl⟩ ⟨j,rfl⟩;simp[pd,bB]
 .rintro _ ⟨i,rfl⟩;rw[e];simp
 .rintro _ _ ⟨i,rfl⟩ ⟨j,rfl⟩ f h;rw[e]at h ⊢;have a:¬i < j:=by simpa using h
  have s:i≠j:=λz=>f (by rw[z]);simp;lia
 .rintro _ _ _ ⟨i,rfl⟩ ⟨j,rfl⟩ ⟨k,rfl⟩ a s;rw[e]at a s ⊢;have a:i < j:=by simpa using a
  have s:j < k:=by simpa using s
  simp;lia
theorem JC(n:Nat):Od n (λx=>∃s:Str,x=.str s):=by
 have e:∀i j:Str,fy n (pd (.str i)) (pd (.str j))=some (decide (i.cps.toList < j.cps.toList)):=λi j=>by cases n<;>rfl
 refine⟨?_,?_,?_,?_,?_⟩
 .rintro _ _ ⟨i,rfl⟩ ⟨j,rfl⟩;exact⟨_,e i j⟩
 .rintro _ _ ⟨i,rfl⟩ ⟨j,rfl⟩;simp[pd,bB]
 .rintro _ ⟨i,rfl⟩;rw[e,cw (List.lt_irrefl _)]
 .rintro _ _ ⟨i,rfl⟩ ⟨j,rfl⟩ b h;rw[e]at h ⊢;have a:¬i.cps.toList < j.cps.toList:=by simpa using h
  have f:i.cps.toList≠j.cps.toList:=λz=>b (by obtain⟨⟨i⟩⟩:=i;obtain⟨⟨j⟩⟩:=j;cases (show i=j from z);rfl)
  rw[jy (Std.lt_of_le_of_ne (List.not_lt.mp a) f.symm)]
 .rintro _ _ _ ⟨i,rfl⟩ ⟨j,rfl⟩ ⟨k,rfl⟩ a f;rw[e]at a f ⊢;have a:i.cps.toList < j.cps.toList:=by simpa using a
  have f:j.cps.toList < k.cps.toList:=by simpa using f
  rw[jy (List.lt_trans a f)]
def kZ(S:Nat->P->Prop)(s:List P):Prop:=∀(k:Nat)(x:P),s[k]? = some x->S k x
theorem kZ.hd{S:Nat->P->Prop}{x:P}{s:List P}(h:kZ S (x::s)):S 0 x:=h 0 x rfl
theorem kZ.tl{S:Nat->P->Prop}{x:P}{s:List P}(h:kZ S (x::s)):kZ (λk=>S (k+1)) s:=λk y e=>h (k+1) y (by simpa using e)
section
variable{n:Nat}
theorem Dv:∀{s a:List P}{S:Nat->P->Prop},(∀k,Od n (S k))->kZ S s->kZ S a->∃b,km (fy n) (gq s) (gq a)=some b
 | [],a,_,_,_,_=>⟨_,rfl⟩
 |x::s,[],_,_,_,_=>⟨_,rfl⟩
 |x::s,y::a,S,h,e,f=>by
  simp only[gq,km];split
  .exact Dv (λk=>h (k+1)) e.tl f.tl
  .exact (h 0).lt e.hd f.hd
theorem Dx:∀{s a:List P}{S:Nat->P->Prop},(∀k,Od n (S k))->kZ S s->kZ S a->(k9 (gq s) (gq a)=true↔s=a)
 | [],[],_,_,_,_=>by simp[gq,k9]
 | [],y::a,_,_,_,_=>by simp[gq,k9]
 |x::s,[],_,_,_,_=>by simp[gq,k9]
 |x::s,y::a,S,h,e,f=>by simp only[gq,k9,av,(h 0).eq e.hd f.hd,Dx (λk=>h (k+1)) e.tl f.tl,eZ]
theorem Dw:∀{s:List P}{S:Nat->P->Prop},(∀k,Od n (S k))->kZ S s->km (fy n) (gq s) (gq s)=some false
 | [],_,_,_=>rfl
 |x::s,S,h,a=>by simp only[gq,km,((h 0).eq a.hd a.hd).mpr rfl,eL];exact Dw (λk=>h (k+1)) a.tl
theorem zG:∀{s f:List P}{S:Nat->P->Prop},(∀k,Od n (S k))->kZ S s->kZ S f->s≠f->km (fy n) (gq s) (gq f)=some false->km (fy n) (gq f) (gq s)=some true
 | [],[],_,_,_,_,q,_=>absurd rfl q
 | [],y::f,_,_,_,_,_,e=>by cases e
 |x::s,[],_,_,_,_,_,_=>rfl
 |x::s,y::f,S,h,a,b,q,e=>by
  simp only[gq,km]at e ⊢;by_cases w:x=y
  .subst w;rw[ai (((h 0).eq a.hd a.hd).mpr rfl)]at e ⊢;exact zG (λk=>h (k+1)) a.tl b.tl (λz=>q (by rw[z])) e
  .rw [al (by rw[(h 0).neq a.hd b.hd w];exact a8)]at e;rw[al (by rw[(h 0).neq b.hd a.hd (aK w)];exact a8)];exact(h 0).tri a.hd b.hd w e
theorem Du:∀{r t m:List P}{S:Nat->P->Prop},(∀k,Od n (S k))->kZ S r->kZ S t->kZ S m->km (fy n) (gq r) (gq t)=some true->km (fy n) (gq t) (gq m)=some true->km (fy n) (gq r) (gq m)=some true
 |_,_::_,[],_,_,_,_,_,_,e=>by cases e
 | [],[],[],_,_,_,_,_,e,_=>by cases e
 |_::_,[],_,_,_,_,_,_,e,_=>by cases e
 | [],_,z::m,_,_,_,_,_,_,_=>rfl
 |x::r,y::t,z::m,S,h,a,f,b,e,s=>by
  simp only[gq,km]at e s ⊢;by_cases w:x=y
  .subst w;rw[ai (((h 0).eq a.hd a.hd).mpr rfl)]at e;by_cases c:x=z
   .subst c;rw[ai (((h 0).eq a.hd a.hd).mpr rfl)]at s ⊢;exact Du (λk=>h (k+1)) a.tl f.tl b.tl e s
   .rw [al (by rw[(h 0).neq a.hd b.hd c];exact a8)]at s ⊢;exact s
  .rw [al (by rw[(h 0).neq a.hd f.hd w];exact a8)]at e;by_cases c:y=z
   .subst c;rw[al (by rw[(h 0).neq a.hd f.hd w];exact a8)];exact e
   .rw [al (by rw[(h 0).neq f.hd b.hd c];exact a8)]at s;have p:x≠z:=λp=>by
     subst p;have:=(h 0).tr a.hd f.hd a.hd e s
     rw[(h 0).ir a.hd]at this;cases this
    rw[al (by rw[(h 0).neq a.hd b.hd p];exact a8)];exact(h 0).tr a.hd f.hd b.hd e s
def Bl(S:Nat->P->Prop)(x:P):Prop:=∃s,x=.tup s/\kZ S s
theorem gi{S:Nat->P->Prop}(h:∀k,Od n (S k)):Od (n+1) (Bl S):=by
 refine⟨?_,?_,?_,?_,?_⟩
 .rintro _ _ ⟨s,rfl,x⟩ ⟨a,rfl,y⟩;exact Dv h x y
 .rintro _ _ ⟨s,rfl,x⟩ ⟨a,rfl,y⟩;have:=Dx h x y
  simp only[pd,bB,this,P.tup.injEq]
 .rintro _ ⟨s,rfl,x⟩;exact Dw h x
 .rintro _ _ ⟨s,rfl,x⟩ ⟨a,rfl,y⟩ q e;exact zG h x y (λz=>q (by rw[z])) e
 .rintro _ _ _ ⟨s,rfl,x⟩ ⟨a,rfl,y⟩ ⟨c,rfl,b⟩ e f;exact Du h x y b e f
end
theorem wL{f:PyData->PyData->Option Bool}{n:Nat}:∀{i:Nat}{s c:List P}{S:Nat->P->Prop},(∀k,Od n (S k))->kZ S s->kZ S c->(∀j,j < i->s[j]? = c[j]?)->∀{x y:P},s[i]? = some x->c[i]? = some y->x≠y->km f (gq s) (gq c)=f (pd x) (pd y)
 |_,[],_,_,_,_,_,_,_,_,e,_,_=>by simp at e
 |_,_::_,[],_,_,_,_,_,_,_,_,e,_=>by simp at e
 |0,a::s,b::c,S,h,m,p,_,x,y,r,t,q=>by cases r;cases t;simp only[gq,km];rw[al (by rw[(h 0).neq m.hd p.hd q];exact a8)]
 |i+1,a::s,b::c,S,h,m,p,v,x,y,r,t,q=>by have d:=v 0 (by lia);cases d;simp only[gq,km];rw[ai (((h 0).eq m.hd m.hd).mpr rfl)];exact wL (i:=i) (λk=>h (k+1)) m.tl p.tl (λj w=>by have:=v (j+1) (by lia);simpa using this) (by simpa using r) (by simpa using t) q
set_option tactic.hygienic true in
theorem va(i:∀{x y:PyData}{b:Bool},fy n x y=some b->fy (n+1) x y=some b):∀{s h:List PyData}{b:Bool},km (fy n) s h=some b->km (fy (n+1)) s h=some b
 | [],_,_,e=>e
 |_::_,[],_,e=>e
 |x::s,y::h,b,e=>by
  simp only[km]at e ⊢;split
  .rename_i q;rw[ai q]at e;exact va i e
  .rename_i q;rw[al q]at e;exact i e
theorem vb:∀{n:Nat}{x y:PyData}{b:Bool},fy n x y=some b->fy (n+1) x y=some b
 |0,x,y,b,e=>by cases x<;>cases y<;>first|exact e|cases e
 |n+1,x,y,b,e=>by cases x<;>cases y<;>first|exact e|cases e|exact va vb e
theorem JO{n:Nat}(k:Nat){x y:PyData}{b:Bool}(e:fy n x y=some b):fy (n+k) x y=some b:=by
 induction k with
 |zero=>exact e
 |succ k i=>exact vb i
theorem Od.dn(h:Od n S)(a:S x)(s:S y):fy (n+k) (pd x) (pd y)=fy n (pd x) (pd y):=by obtain⟨b,e⟩:=h.lt a s;rw[e,JO k e]
theorem Hf(h:Od 20 S)(q:∀t ∈ f,S t):∀k,k < f.length->argBest (uw f) k≤k/\∀j,j≤k->fy 20 (pd (f.getD j .non)) (pd (f.getD (argBest (uw f) k) .non))=some false:=by
 have n:∀j,j < f.length->S (f.getD j .non):=λj x=>by rw[bH,bq x];exact q _ (ej x)
 intro k;induction k with
 |zero=>exact λm=>⟨ag _,λj x=>by cases Nat.le_zero.mp x;exact h.ir (n 0 m)⟩
 |succ k i=>
  intro m;obtain⟨v,r⟩:=i (by lia);have p:=n _ (show argBest (uw f) k < f.length by lia);have a:=n _ m;cases e:uw f (k+1) (argBest (uw f) k) with
  |true=>
   rw[show argBest (uw f) (k+1)=k+1 by simp[argBest,e]];have c:fy 20 (pd (f.getD (k+1) .non)) (pd (f.getD (argBest (uw f) k) .non))=some true:=by simpa[uw] using e
   refine⟨ag _,λj x=>?_⟩;rcases hX j (k+1) with x|x
   .obtain⟨b,s⟩:=h.lt (n j (by lia)) a;cases b with
    |false=>exact s
    |true=>have:=h.tr (n j (by lia)) a p s c;rw[r j (by lia)]at this;cases this
   .rw [show j=k+1 by lia];exact h.ir a
  |false=>
   rw[show argBest (uw f) (k+1)=argBest (uw f) k by simp[argBest,e]];refine⟨by lia,λj x=>?_⟩;rcases hX j (k+1) with x|x
   .exact r j (by lia)
   .rw [show j=k+1 by lia];obtain⟨b,s⟩:=h.lt a p;cases b with
    |false=>exact s
    |true=>
     have c:uw f (k+1) (argBest (uw f) k)=true:=by show(_ == some true)=true;rw[s];rfl
     rw[e]at c;cases c
theorem Ak(h:Od 20 S)(a:∀t ∈ f,S t/\di 20 t=true)(n:f≠[]):∃m ∈ f,p_ f=some m/\∀t ∈ f,fy 20 (pd t) (pd m)=some false:=by
 have v:0 < f.length:=sG.mpr n;obtain⟨d,c⟩:=Hf h (λt q=>(a t q).1) (f.length-1) (by lia);have s:argBest (uw f) (f.length-1) < f.length:=by lia
 refine⟨f[argBest (uw f) (f.length-1)],ej s,?_,λt q=>?_⟩
 .unfold p_;rw[ai,bq s];unfold Es;refine be.mpr λx k=>?_
  rw[(a x k).2,sf];refine be.mpr λy p=>?_;obtain⟨b,e⟩:=h.lt (a x k).1 (a y p).1;rw[e];rfl
 .obtain⟨j,r,rfl⟩:=lu.mp q;have:=c j (by lia)
  rw[bH,bH,bq r,bq s]at this;exact this
theorem Od.one(h:Od n S)(s:S x)(k:S y)(e:fy n (pd x) (pd y)=some false)(a:fy n (pd y) (pd x)=some false):x=y:=by
 refine Classical.byContradiction λq=>?_;have:=h.tri s k q e
 rw[a]at this;cases this
def SI(x:P):Prop:=∃i:Int,x=.int i
def SN:P->Prop:=Bl λ_=>SI
def Ri(x:P):Prop:=∃r c,SI r/\SN c/\x=.tup [r,c]
def SH(x:P):Prop:=∃r c w,SI r/\SN c/\SN w/\x=.tup [r,c,w]
def SL(x:P):Prop:=∃m i,aA m=true/\x=.tup [.str m,.int i]
def SR:P->Prop:=Bl λ_=>SL
def ST(x:P):Prop:=∃h r,x=.tup [.tup h,.tup r]/\kZ (λ_=>SH) h/\kZ (λ_=>SR) r
variable{A:P->Prop}{B:P->Prop}
theorem Kb(h:A x)(a:B y):kZ (λk=>if k=0 then A else if k=1 then B else F) [x,y]:=λk z e=>by
 match k,e with
 |0,e=>cases e;exact h
 |1,e=>cases e;exact a
 |k+2,e=>simp at e
theorem Ps(h:A x)(a:B y)(s:C z):kZ (λk=>if k=0 then A else if k=1 then B else C) [x,y,z]:=λk u e=>by
 match k,e with
 |0,e=>cases e;exact h
 |1,e=>cases e;exact a
 |2,e=>cases e;exact s
 |k+3,e=>simp at e
theorem NG(a:Od n A)(b:Od n B)(c:Od n C)(k:Nat):Od n (if k=0 then A else if k=1 then B else C):=by
 by_cases h:k=0
 .rw [ai h];exact a
 .rw [al h];by_cases x:k=1
  .rw [ai x];exact b
  .rw [al x];exact c
theorem lK(n:Nat):Od n SI:=JD n
theorem kj(n:Nat):Od (n+1) SN:=gi λ_=>lK n
theorem MF(n:Nat):Od (n+2) Ri:=(gi (S:=λk=>if k=0 then SI else if k=1 then SN else SN) (NG (lK _) (kj n) (kj n))).sub λx ⟨r,c,h,a,e⟩=>⟨[r,c],e,Kb h a⟩
theorem zE(n:Nat):Od (n+2) SH:=(gi (S:=λk=>if k=0 then SI else if k=1 then SN else SN) (NG (lK _) (kj n) (kj n))).sub λx ⟨r,c,w,h,a,s,e⟩=>⟨[r,c,w],e,Ps h a s⟩
theorem MG(n:Nat):Od (n+1) SL:=(gi (S:=λk=>if k=0 then (λx=>∃s:Str,x=.str s) else if k=1 then SI else SI) (NG (JC n) (lK _) (lK _))).sub λx ⟨m,i,_,e⟩=>⟨[.str m,.int i],e,Kb ⟨m,rfl⟩ ⟨i,rfl⟩⟩
theorem qN(n:Nat):Od (n+2) SR:=gi λ_=>MG n
theorem zD(n:Nat):Od (n+4) ST:=(gi (S:=λk=>if k=0 then Bl (λ_=>SH) else if k=1 then Bl (λ_=>SR) else Bl (λ_=>SR)) (NG (gi λ_=>zE n) (gi λ_=>qN n) (gi λ_=>qN n))).sub λx ⟨s,r,e,h,a⟩=>⟨_,e,Kb ⟨s,rfl,h⟩ ⟨r,rfl,a⟩⟩
theorem zH(i:kZ (λ_=>SH) h)(b:kZ (λ_=>SH) e)(c:∀j,j < k->h[j]? = e[j]?)(s:h[k]? = some x)(a:e[k]? = some y)(q:x≠y) :
  fy 20 (pd (.tup [.tup h,.tup t])) (pd (.tup [.tup e,.tup p]))=fy 18 (pd x) (pd y):=by
 have m:P.tup h≠.tup e:=λz=>by cases z;rw[s]at a;cases a;exact q rfl
 have r:=(gi (λ_:Nat=>zE 16)).neq (x:=.tup h) (y:=.tup e) ⟨h,rfl,i⟩ ⟨e,rfl,b⟩ m;show km (fy 19) [pd (.tup h),pd (.tup t)] [pd (.tup e),pd (.tup p)]=_;rw[km,r,al a8];exact wL (f:=fy 18) (S:=λ_=>SH) (n:=18) (λ_=>zE 16) i b c s a q
theorem GN(c:kZ (λ_=>SH) h)(i:kZ (λ_=>SR) r)(b:kZ (λ_=>SR) e)(m:∀j,j < k->r[j]? = e[j]?)(s:r[k]? = some x)(a:e[k]? = some y)(q:x≠y) :
  fy 20 (pd (.tup [.tup h,.tup r])) (pd (.tup [.tup h,.tup e]))=fy 20 (pd x) (pd y):=by
 have t:P.tup r≠.tup e:=λz=>by cases z;rw[s]at a;cases a;exact q rfl
 have p:=((gi (λ_:Nat=>zE 16)).eq (x:=.tup h) (y:=.tup h) ⟨h,rfl,c⟩ ⟨h,rfl,c⟩).mpr rfl;have v:=(gi (λ_:Nat=>qN 16)).neq (x:=.tup r) (y:=.tup e) ⟨r,rfl,i⟩ ⟨e,rfl,b⟩ t;show km (fy 19) [pd (.tup h),pd (.tup r)] [pd (.tup h),pd (.tup e)]=_;rw[km,p,ai rfl,km,v,al a8];refine(wL (f:=fy 18) (S:=λ_=>SR) (n:=18) (λ_=>qN 16) i b m s a q).trans ?_;exact((qN 16).dn (k:=2) (i k x s) (b k y a)).symm
theorem JQ(x:SI r)(s:SN c)(v:SN w)(g:SI f)(a:SN h)(p:SN b)(q:P.tup [r,c]≠.tup [f,h]):fy 18 (pd (.tup [r,c,w])) (pd (.tup [f,h,b]))=fy 20 (pd (.tup [r,c])) (pd (.tup [f,h])):=by
 show km (fy 17) [pd r,pd c,pd w] [pd f,pd h,pd b]=km (fy 19) [pd r,pd c] [pd f,pd h];by_cases e:r=f
 .subst e;have m:c≠h:=λz=>q (by rw[z])
  have n:=((lK 17).eq x x).mpr rfl;have t:=(kj 16).neq s a m;simp only[km,n,t,eL,fM,g7];exact((kj 16).dn (k:=2) s a).symm
 .have n:=(lK 17).neq x g e;simp only[km,n,fM,g7];exact((lK 17).dn (k:=2) x g).symm
theorem JP(x:SI r)(a:SN c)(e:SN w)(g:SN h)(q:w≠h):fy 18 (pd (.tup [r,c,w])) (pd (.tup [r,c,h]))=fy 20 (pd w) (pd h):=by show km (fy 17) [pd r,pd c,pd w] [pd r,pd c,pd h]=_;have n:=((lK 17).eq x x).mpr rfl;have s:=((kj 16).eq a a).mpr rfl;have f:=(kj 16).neq e g q;simp only[km,n,s,f,eL,fM,g7];exact((kj 16).dn (k:=3) e g).symm
end My
namespace My
open PySem L2 Ev
structure Sv(rr A:List (List Nat))(T:List Nat->P)(Ag:List Nat->List Nat->Prop):Prop where
 ex:∃p:List Nat->Bool,A=rr.filter p/\∀a ∈ rr,p a=true->∀b ∈ rr,(p b=true->Ag a b)/\(p b=false->fy 20 (pd (T a)) (pd (T b))=some true)
 ne:A≠[]
variable{rr:List (List Nat)}{A:List (List Nat)}{T:List Nat->P}{s:List Nat->List Nat->Prop}
theorem Sv.sub(h:Sv rr A T s):∀a ∈ A,a ∈ rr:=by obtain⟨p,rfl,_⟩:=h.ex;exact λa x=>(fP.mp x).1
theorem Sv.len(h:Sv rr A T s):A.length≤rr.length:=by obtain⟨p,rfl,_⟩:=h.ex;exact oB _ _
theorem Sv.imp(h:Sv rr A T s)(k:∀a ∈ rr,∀b ∈ rr,s a b->g a b):Sv rr A T g:=by obtain⟨⟨p,e,q⟩,c⟩:=h;exact⟨⟨p,e,λa x f b n=>⟨λm=>k a x b n ((q a x f b n).1 m),(q a x f b n).2⟩⟩,c⟩
theorem Sv.all(h:rr≠[]):Sv rr rr T λ_ _=>True:=
 ⟨⟨λ_=>true,(hE.mpr λ_ _=>rfl).symm,λ_ _ _ _ _=>⟨λ_=>trivial,λz=>by cases z⟩⟩,h⟩
theorem y7(f:h->e)(g:h->b):∀s:List h,(s.map f).zip (s.map g)=s.map λx=>(f x,g x)
 | []=>rfl
 |x::r=>d8 ((f x,g x)::·) (y7 f g r)
variable{n:Nat}
theorem mB(h:Sv rr A T s)(L:rr.length≤1000)(o:Od 20 S)(d:∀a ∈ rr,S (y a)/\di 20 (y a)=true/\∃R,y a=.tup R)
  (H:∀a ∈ rr,∀b ∈ rr,s a b->y a≠y b->fy 20 (pd (y a)) (pd (y b))=some true->fy 20 (pd (T a)) (pd (T b))=some true) (mk:List Nat->P) :
  ∃B,Sv rr B T (λa b=>s a b/\y a=y b)/\cU (Ph (n+2) "sifted") [.lst (A.map mk),.lst (A.map y)]=some (.lst (B.map mk)):=by
 obtain⟨⟨p,rfl,q⟩,Q⟩:=h;have u:∀a ∈ rr.filter p,a ∈ rr/\p a=true:=λa k=>fP.mp k;obtain⟨m,M,G,i⟩:=Ak o (f:=(rr.filter p).map y) (λt F=>by obtain⟨a,k,rfl⟩:=a_.mp F;exact⟨(d a (u a k).1).1,(d a (u a k).1).2.1⟩) (λz=>Q (yE.mp z))
 obtain⟨f,c,rfl⟩:=a_.mp M;have r:=d f (u f c).1;refine⟨rr.filter λa=>bB (pd (y a)) (pd (y f)) && p a,⟨⟨_,rfl,λa k g b v=>?_⟩,?_⟩,?_⟩
 .rw [av]at g;have C:=(o.eq (d a k).1 r.1).mp g.1;refine⟨λw=>?_,λw=>?_⟩
  .rw [av]at w;exact⟨(q a k g.2 b v).1 w.2,C.trans ((o.eq (d b v).1 r.1).mp w.1).symm⟩
  .cases e:p b with
   |false=>exact(q a k g.2 b v).2 e
   |true=>
    rw[e,ya]at w;have K:y b≠y f:=λz=>by rw[(o.eq (d b v).1 r.1).mpr z]at w;cases w
    have N:=i (y b) (a_.mpr ⟨b,fP.mpr ⟨v,e⟩,rfl⟩);have E:=o.tri (d b v).1 r.1 K N;rw[<- C]at E K;exact H a k b v ((q a k g.2 b v).1 e) K.symm E
 .exact List.ne_nil_of_mem (fP.mpr ⟨(u f c).1,by rw[(o.eq r.1 r.1).mpr rfl,(u f c).2];rfl⟩)
 .have I:(rr.filter λa=>bB (pd (y a)) (pd (y f)) && p a)=(rr.filter p).filter λa=>bB (pd (y a)) (pd (y f)):=by rw[yC]
  rw[I];generalize j:rr.filter p=A at *
  have l:A.length≤1000:=by rw[<- j];exact bh (oB _ _) L
  by_cases D:A.length=1
  .obtain⟨x,rfl⟩:∃x,A=[x]:=by
    match A,D with
    | [x],_=>exact⟨x,rfl⟩
   have:f=x:=by simpa using c
   subst this;rw[pW,bx];simp[je,(o.eq r.1 r.1).mpr rfl,dM,d9]
  .rw [L5 (m:=y f) (by simp) (by simpa using D) (by simpa using l) G λt F=>?_]
   .unfold pu;rw[y7,oq,gx];rfl
   .obtain⟨a,k,rfl⟩:=a_.mp F;exact(d a (u a k).1).2
structure GS(n m:Nat)(hs rds:List P):Prop where
 hl:hs.length=n
 hh:∀x ∈ hs,∃(r:Int)(cs ws:List P),x=.tup [.int r,.tup cs,.tup ws]/\(∀c ∈ cs,SI c)/\(∀w ∈ ws,vf n w)/\ws.length≤1000
 rl:rds.length=m
 rr:∀x ∈ rds,SR x
theorem GS.hs{n m:Nat}{d f:List P}(h:GS n m d f):EU n d:=by refine⟨h.hl,λk x e=>?_⟩;obtain⟨r,c,w,rfl,_,a,s⟩:=h.hh x (aM e);exact⟨_,_,w,rfl,a,s⟩
variable{d:List P}{f:List P}
theorem MU(P:Pln B.fams B.roads B.wishes)(h:StL B d f):GS (aG B.fams).length B.PR.length d f:=by
 refine⟨h.hl,λx b=>?_,h.hr.1,λx b=>?_⟩
 .obtain⟨k,e⟩:=hU.mp b;obtain⟨r,A,G,p,j,y⟩:=(MS P h).2 k x e;have H:k < (aG B.fams).length:=by rw[<- h.hl];exact dB e
  obtain⟨D,w,o,s,u,t,C,E,a,K,v,_,z,_,_⟩:=h.hh k _ x (bq H) e;rw[v]at p;cases p;exact⟨_,a,_,v,λc n=>by obtain⟨i,_,q⟩:=z.2 c n;exact⟨i,q⟩,j,y⟩
 .obtain⟨F,S,rfl⟩:=h.hr.2 x b;refine⟨F,rfl,λk l e=>?_⟩;obtain⟨m,i,g,_,q⟩:=S.2 l (aM e);exact⟨m,i,g,q⟩
theorem zn(h:∀x ∈ b,SI x):SN (.tup b):=⟨b,rfl,λ_ x e=>h x (aM e)⟩
variable{x:P}
theorem DU(h:vf n x):SI x:=by obtain⟨j,_,_,e⟩:=h;exact⟨j,e⟩
theorem Di(h:SI x):di n x=true:=by obtain⟨i,rfl⟩:=h;cases n<;>rfl
theorem zA(h:SN x):di (n+1) x=true:=by obtain⟨s,rfl,h⟩:=h;show s.all (di n)=true;refine be.mpr λy a=>?_;obtain⟨k,e⟩:=hU.mp a;exact Di (h k y e)
theorem ME(h:SL x):di (n+1) x=true:=by obtain⟨m,i,a,rfl⟩:=h;cases n<;>simp[di,a]
theorem HD(h:SR x):di (n+2) x=true:=by obtain⟨s,rfl,h⟩:=h;show s.all (di (n+1))=true;refine be.mpr λy a=>?_;obtain⟨k,e⟩:=hU.mp a;exact ME (h k y e)
variable{a:List Nat}
theorem CI(h:dD (aq a)=true):∀i ∈ a,i < a.length:=by
 have P:=jE _ (aq a) rfl (dG h).2;intro i e;have:(i:Int) ∈ aq a:=a_.mpr ⟨i,e,rfl⟩
 have:=P.mem_iff.mp this;obtain⟨z,x,s⟩:=a_.mp this;have x:=iX.mp x;simp[aq]at x;lia
theorem iC(a:List Nat):(cG (aq a)).length=a.length:=by unfold cG;simp[aq]
variable{k:Nat}
theorem zm(h:dD (aq a)=true)(x:k < a.length):∃s,(cG (aq a))[k]? = some s/\s < a.length:=by have e:=bq (show k < (cG (aq a)).length by rw[iC];exact x);exact⟨_,e,by have:=Co h e;simpa[aq] using this⟩
theorem Hh(h:dD (aq a)=true)(hw:vf a.length w):vf a.length (.int (iK a (iv w))):=by
 obtain⟨j,e,s,rfl⟩:=hw;show vf a.length (.int (iK a j));unfold iK;by_cases x:j < 0
 .rw [ai x];exact⟨-1,by lia,by lia,rfl⟩
 .rw [al x];have l:j.toNat < a.length:=by lia
  refine⟨_,by lia,?_,rfl⟩;rw[bH,bq l];have:=CI h _ (ej l)
  simpa using this
theorem uo(h:dD (aq a)=true)(g:GS a.length b d f)(i:k < a.length):∃(s:Nat)(r:Int)(n x:List P),(cG (aq a))[k]? = some s/\d[s]? = some (.tup [.int r,.tup n,.tup x])/\(dt a d)[k]? = some (.tup [.int r,.tup n,.tup (eT a x)])/\(∀c ∈ n,SI c)/\(∀w ∈ x,vf a.length w)/\x.length≤1000:=by obtain⟨s,e,t⟩:=zm h i;have m:=bq (show s < d.length by rw[g.hl];exact t);obtain⟨r,n,x,p,q,v,u⟩:=g.hh _ (aM m);rw[p]at m;refine⟨s,r,n,x,e,m,?_,q,v,u⟩;unfold dt;rw[aZ,e];simp[hB,m,kL,sZ]
theorem zb(h:dD (aq a)=true)(hw:∀w ∈ b,vf a.length w):∀w ∈ eT a b,vf a.length w:=by intro w x;unfold eT at x;obtain⟨v,e,rfl⟩:=a_.mp x;exact Hh h (hw v e)
variable{m:List P}
theorem HM(h:RenArg a m)(g:GS a.length m.length d f):GS a.length m.length (dt a d) (iQ a m f):=by
 have l:(dt a d).length=a.length:=by unfold dt;rw[aU,iC]
 refine⟨l,λx b=>?_,?_,λx b=>?_⟩
 .obtain⟨k,e⟩:=hU.mp b;obtain⟨s,r,t,y,_,_,c,p,q,w⟩:=uo h.ha g (k:=k) (by rw[<- l];exact dB e);rw[e]at c;cases c;exact⟨r,t,eT a y,rfl,p,zb h.ha q,by unfold eT;rw[aU];exact w⟩
 .unfold iQ ga;simp
 .unfold iQ at b;obtain⟨v,i,rfl⟩:=a_.mp b;obtain⟨j,rfl,u⟩:=wA h v i;have n:j < f.length:=by rw[g.rl];exact u
  show SR (f.getD ((j:Int)).toNat .non);rw[lc,bH,bq n];exact g.rr _ (ej n)
theorem MV(g:GS n h d f):kZ (λ_=>SH) d/\kZ (λ_=>SR) f:=by refine⟨λk x e=>?_,λk x e=>g.rr x (aM e)⟩;obtain⟨r,c,b,rfl,a,s,_⟩:=g.hh x (aM e);exact⟨_,_,_,⟨r,rfl⟩,zn a,zn λw hw=>DU (s w hw),rfl⟩
theorem CH(h:dD (aq a)=true):(aq a).Nodup:=
 (jE _ (aq a) rfl (dG h).2).nodup_iff.mpr (List.Pairwise.map _ (λa b h e=>h (by lia)) su)
theorem lD(h:dD (aq a)=true)(x:k < a.length):(cG (aq a))[k]? = some b↔a[b]? = some k:=by
 have l:k < (aq a).length:=by simpa[aq] using x
 have m:=(dG h).2 k l;have e:(cG (aq a))[k]? = some ((aq a).idxOf (k:Int)):=by unfold cG;rw[aZ,hG l];rfl
 have t:∀{b k:Nat},(aq a)[b]? = some (k:Int)↔a[b]? = some k:=λ{b k}=>by
  unfold aq;rw[aZ];cases a[b]? with
  |none=>simp
  |some z=>simp;lia
 rw[e];constructor
 .intro q;cases q;refine t.mp ?_;rw[bq (yO m),List.getElem_idxOf]
 .intro q;obtain⟨d,s⟩:=aP.mp (t.mpr q);rw[<- s,(CH h).idxOf_getElem b d]
theorem Dm{a b:List Nat}{s t k:Nat}(h:a[s]? = some t)(x:b[t]? = some k):(fx a b)[s]? = some k:=by unfold fx;rw[aZ,h];simp[x]
theorem Hg(hw:vf a.length w):iK b (iK a (iv w))=iK (fx a b) (iv w):=by
 obtain⟨j,n,k,rfl⟩:=hw;show iK b (iK a j)=iK (fx a b) j;by_cases h:j < 0
 .simp [iK,h]
 .have l:j.toNat < a.length:=by lia
  have e:(fx a b).getD j.toNat 0=b.getD (a.getD j.toNat 0) 0:=by simp[fx,bH,l]
  have x:iK a j=((a.getD j.toNat 0:Nat):Int):=al h;have s:iK (fx a b) j=(((fx a b).getD j.toNat 0:Nat):Int):=al h;rw[x,s,e];show(if _ then _ else _)=_;rw[al (by lia),lc]
theorem He{a b:List Nat}(v:dD (aq a)=true)(u:dD (aq b)=true)(e:dD (aq (fx a b))=true)(h:b.length=a.length){m:Nat}{d f:List P}(g:GS a.length m d f):dt b (dt a d)=dt (fx a b) d:=by
 have l:(fx a b).length=a.length:=by unfold fx;rw[aU]
 have B:(dt b (dt a d)).length=a.length:=by unfold dt;rw[aU,iC,h]
 have C:(dt (fx a b) d).length=a.length:=by unfold dt;rw[aU,iC,l]
 refine i0 λk=>?_;by_cases n:k < a.length
 .obtain⟨t,q,i⟩:=zm u (k:=k) (by rw[h];exact n);obtain⟨s,r,p,x,j,y,z,_,hw,_⟩:=uo v g (k:=t) (by rw[<- h];exact i);have o:=(lD u (by rw[h];exact n)).mp q;have H:=(lD v (by rw[<- h];exact i)).mp j;have S:=(lD e (by rw[l];exact n)).mpr (Dm H o);have F:(dt b (dt a d))[k]? = some (.tup [.int r,.tup p,.tup (eT b (eT a x))]):=by
   rw[dt,aZ,q];simp[hB,z,kL,sZ]
  have K:(dt (fx a b) d)[k]? = some (.tup [.int r,.tup p,.tup (eT (fx a b) x)]):=by rw[dt,aZ,S];simp[hB,y,kL,sZ]
  have A:eT b (eT a x)=eT (fx a b) x:=by unfold eT;rw[gx];exact oA λw c=>d8 P.int (Hg (hw w c))
  rw[F,K,A]
 .rw [cB (by lia),cB (by lia)]
set_option tactic.hygienic true in
theorem C9:∀(m:List P)(k:Nat)(s:KV),KVok s->∀y d,df y (putAll k m s).1 (putAll k m s).2=some d->df y s.1 s.2=some d\/∃(j:Nat)(p:P),m[j]? = some p/\de p=y/\d=.p (.int ((k+j:Nat):Int))
 | [],k,s,h,y,d,e=>.inl e
 |p::r,k,s,h,y,d,e=>by
  rcases C9 r (k+1) _ (h.put (de p) (.p (.int (k:Int)))) y d e with e|⟨j,f,x,n,a⟩
  .rw [(j_ (de p) (.p (.int (k:Int))) s.1 s.2 h.nd h.ln).2.2.2.2]at e;split at e
   .rename_i q;cases e;exact .inr ⟨0,p,rfl,q,rfl⟩
   .exact .inl e
  .exact .inr ⟨j+1,f,by simpa using x,n,by rw[a,show k+1+j=k+(j+1) by lia]⟩
def KN(m:List P):Prop:=∀(j h:Nat)(q x:P),m[j]? = some q->m[h]? = some x->de q=de x->j=h
theorem uQ(h:RenArg a m)(e:m[k]? = some p):∃(j:Nat)(q:P),(ga a m)[k]? = some (.int (j:Int))/\m[j]? = some q/\de (dZ a q)=de p:=by
 obtain⟨v,s⟩:=h.hk p (aM e);rcases C9 _ 0 ([],[]) MN (de p) (.p v) s with z|⟨j,c,x,n,f⟩
 .cases z
 .rw [aZ]at x;obtain⟨q,b,rfl⟩:=cV.mp x;refine⟨j,q,?_,b,n⟩;unfold ga;rw[aZ,e];simp only[jX,s];cases f;simp
theorem j8{a:List Nat}{r:P}{x y:Nat}:de (dZ a (.tup [r,.int (x:Int),.int (y:Int)]))=[.inl ((a.getD x 0:Nat):Int),.inl ((a.getD y 0:Nat):Int)]:=by simp[de,dZ,kL,sZ,iv]
theorem zt{a:List Nat}(h:dD (aq a)=true){x y:Nat}(s:x < a.length)(n:y < a.length)(e:a.getD x 0=a.getD y 0):x=y:=by
 have d:=CH h;have k:(aq a)[x]'(by simpa[aq] using s)=(aq a)[y]'(by simpa[aq] using n):=by simp only[bH,bq s,bq n,om]at e;simp[aq,e]
 have i:=d.idxOf_getElem x (by simpa[aq] using s);have f:=d.idxOf_getElem y (by simpa[aq] using n);rw[k]at i;exact i.symm.trans f
theorem Gd{a:List Nat}{m:List P}(h:RenArg a m)(w:KN m){j f:Nat}{q b:P}(e:m[j]? = some q)(c:m[f]? = some b)(k:de (dZ a q)=de (dZ a b)):j=f:=by obtain⟨r,x,y,t,p,rfl⟩:=h.hp q (aM e);obtain⟨u,g,i,s,n,rfl⟩:=h.hp b (aM c);rw[j8,j8]at k;simp only[eZ,k5,jB]at k;have v:=zt h.ha t s (by lia);have d:=zt h.ha p n (by lia);subst v d;exact w j f _ _ e c rfl
theorem Hd{a b:List Nat}{m:List P}(d:RenArg a m)(w:RenArg b m)(h:RenArg (fx a b) m)(M:KN m){f:List P}(Z:f.length=m.length):iQ b m (iQ a m f)=iQ (fx a b) m f:=by
 have l:∀c R,(iQ c m R).length=m.length:=λc R=>by unfold iQ ga;simp
 refine i0 λk=>?_;by_cases S:k < m.length
 .have n:=bq S;obtain⟨t,q,i,p,D⟩:=uQ w n;obtain⟨s,u,j,v,e⟩:=uQ d p;obtain⟨V,u',o,H,E⟩:=uQ h n;have G:de (dZ (fx a b) u)=de m[k]:=by
   rw[<- D];obtain⟨r,x,y,F,A,rfl⟩:=d.hp u (aM v);obtain⟨r',W,X,K,B,rfl⟩:=w.hp q (aM p);rw[j8]at e;simp only[de,kL,sZ,iv,eZ,k5,jB]at e;have g:∀z,z < a.length->(fx a b).getD z 0=b.getD (a.getD z 0) 0:=λz C=>by simp[fx,bH,C]
   rw[j8,j8,g x F,g y A];have I:a.getD x 0=W:=by have:=e.1;simp[bH]at this ⊢;lia
   have L:a.getD y 0=X:=by have:=e.2;simp[bH]at this ⊢;lia
   rw[I,L]
  have:s=V:=Gd h M v H (G.trans E.symm);subst this;have N:(iQ b m (iQ a m f))[k]? = some ((iQ a m f).getD t .non):=by rw[iQ,aZ,i];simp[iv]
  have Q:(iQ a m f)[t]? = some (f.getD s .non):=by rw[iQ,aZ,j];simp[iv]
  have T:(iQ (fx a b) m f)[k]? = some (f.getD s .non):=by rw[iQ,aZ,o];simp[iv]
  rw[N,T,bH,Q];rfl
 .rw [cB (by rw[l];lia),cB (by rw[l];lia)]
theorem Nd(b:RenArg (List.range n) m)(K:KN m)(g:GS n m.length d f):dt (List.range n) d=d/\iQ (List.range n) m f=f:=by
 have h:(List.range n).length=n:=sB;have H:GS (List.range n).length m.length d f:=by rw[h];exact g
 constructor
 .refine i0 λk=>?_;by_cases a:k < n
  .obtain⟨s,r,B,p,e,z,o,_,hw,_⟩:=uo b.ha H (k:=k) (by rw[h];exact a);have q:=(lD b.ha (by rw[h];exact a)).mp e;have:s=k:=by
    rw[hG (by have:=dB q;rw[h]at this;exact this)]at q;exact du q
   subst this;rw[o,z];have A:eT (List.range n) p=p:=by
    unfold eT;refine(oA λw t=>?_).trans (yo p);obtain⟨j,C,S,rfl⟩:=hw w t;rw[h]at S;show P.int (iK (List.range n) j)=.int j;unfold iK;by_cases c:j < 0
    .rw [ai c,show j=-1 by lia]
    .rw [al c,bH,hG (by lia)];simp;lia
   rw[A]
  .rw [cB (by unfold dt;rw[aU,iC,h];lia),cB (by rw[g.hl];lia)]
 .refine i0 λk=>?_;by_cases a:k < m.length
  .have v:=bq a;obtain⟨j,q,l,e,F⟩:=uQ b v;have:j=k:=by
    refine K j k _ _ e v (Eq.trans ?_ F);obtain⟨r,x,y,u,i,rfl⟩:=b.hp q (aM e);rw[h]at u i;rw[j8,bH,bH,hG u,hG i];simp[de,kL,sZ,iv]
   subst this;have c:j < f.length:=by rw[g.rl];exact a
   rw[iQ,aZ,l];simp[iv,c]
  .rw [cB (by unfold iQ ga;simp;lia),cB (by rw[g.rl];lia)]
def kO(d:List P)(a:List Nat)(k:Nat):P:=.tup [kL (d.getD ((cG (aq a)).getD k 0) .non) 0,kL (d.getD ((cG (aq a)).getD k 0) .non) 1]
def kW(d:List P)(a:List Nat)(k:Nat):P:=.tup (eT a (sZ (kL (d.getD ((cG (aq a)).getD k 0) .non) 2)))
def kR(m f:List P)(a:List Nat)(k:Nat):P:=f.getD (iv ((ga a m).getD k .non)).toNat .non
noncomputable abbrev TT(m d f:List P)(a:List Nat):P:=BH a m d f
structure LB(rr:List (List Nat))(n:Nat)(ps hs rds:List P):Prop where
 ra:∀a ∈ rr,RenArg a ps/\a.length=n
 ne:rr≠[]
 hl:rr.length≤1000
 g:GS n ps.length hs rds
theorem LB.at(h:LB rr n m d f)(u:a ∈ rr)(i:k < n):∃(s:Nat)(r:Int)(c x:List P),(cG (aq a))[k]? = some s/\d[s]? = some (.tup [.int r,.tup c,.tup x])/\(dt a d)[k]? = some (.tup [.int r,.tup c,.tup (eT a x)])/\kO d a k=.tup [.int r,.tup c]/\kW d a k=.tup (eT a x)/\SN (.tup c)/\SN (.tup (eT a x))/\(∀w ∈ x,vf a.length w)/\x.length≤1000:=by
 obtain⟨p,v⟩:=h.ra a u;subst v;obtain⟨s,r,c,x,e,b,q,g,hw,l⟩:=uo p.ha h.g i;refine⟨s,r,c,x,e,b,q,?_,?_,zn g,zn λw t=>DU (zb p.ha hw w t),hw,l⟩
 .simp [kO,e,b,kL,sZ]
 .simp [kW,e,b,kL,sZ]
theorem LB.ty(h:LB rr n m d f)(s:a ∈ rr):kZ (λ_=>SH) (dt a d)/\kZ (λ_=>SR) (iQ a m f):=by obtain⟨x,e⟩:=h.ra a s;subst e;exact MV (HM x h.g)
theorem LB.rd(h:LB rr n m d f)(r:a ∈ rr)(t:k < m.length):∃j:Nat,(ga a m)[k]? = some (.int (j:Int))/\f[j]? = some (kR m f a k)/\(iQ a m f)[k]? = some (kR m f a k)/\SR (kR m f a k):=by
 obtain⟨c,p⟩:=h.ra a r;obtain⟨j,q,e,s,_⟩:=uQ c (bq t);have x:j < f.length:=by rw[h.g.rl];exact dB s
 have b:kR m f a k=f[j]:=by simp[kR,e,iv,x]
 rw[b];refine⟨j,e,bq x,?_,h.g.rr _ (ej x)⟩;rw[iQ,aZ,e];simp[iv,x]
theorem p6(v:A.length≤1000)(f:∀a ∈ A,e [c,r,some (.p (.lst (A.map λa=>bz a m))),t,p,some (.p (bz a m))] []=some (y a,[])) :
  bo (gv (vE (U 2))) [] 1 (ar 5) cE e [c,r,some (.p (.lst (A.map λa=>bz a m))),t,p] []=some (.lst (A.map y),[]):=by
 have g:∀(B:List (List Nat))(q:Option D),(∀a ∈ B,a ∈ A)->bt (ar 5) cE e (B.map λa=>bz a m) [c,r,some (.p (.lst (A.map λa=>bz a m))),t,p,q] []=some (B.map y,[]):=by
  intro B;induction B with
  |nil=>exact λ_ _=>rfl
  |cons a B i=>
   intro q hB;have s:=f a (hB a aO);have n:=i (some (.p (bz a m))) λb k=>hB b (aR _ k)
   have x:cE [c,r,some (.p (.lst (A.map λa=>bz a m))),t,p,some (.p (bz a m))] []=some (true,[]):=rfl;show bt _ _ _ (bz a m::B.map λa=>bz a m) _ _=_;rw[bt,show ar 5 (bz a m) [c,r,some (.p (.lst (A.map λa=>bz a m))),t,p,q]=some [c,r,some (.p (.lst (A.map λa=>bz a m))),t,p,some (.p (bz a m))] from rfl];simp only[x,aB,eL,s,n];rfl
 unfold bo;rw[show gv (vE (U 2)) [c,r,some (.p (.lst (A.map λa=>bz a m))),t,p] []=some (A.map λa=>bz a m,[]) by simp,aB,ai (by rw[jc,aU];lia),show kh [] 1 [c,r,some (D.p (.lst (A.map λa=>bz a m))),t,p]=[c,r,some (.p (.lst (A.map λa=>bz a m))),t,p,none] from rfl,g A none λ_ h=>h];rfl
def Ld(d:List P)(k:Nat)(a b:List Nat):Prop:=∀j,j < k->(dt a d)[j]? = (dt b d)[j]?
def KR(m d f:List P)(k:Nat)(a b:List Nat):Prop:=dt a d=dt b d/\∀j,j < k->(iQ a m f)[j]? = (iQ b m f)[j]?
section
variable{rr A:List (List Nat)}{n N k:Nat}{m d f:List P}
theorem GU(h:LB rr n m d f)(V:Sv rr A (TT m d f) (Ld d k))(p:k < n):∃i D,Sv rr i (TT m d f) (λa b=>Ld d k a b/\kO d a k=kO d b k)/\Sv rr D (TT m d f) (Ld d (k+1)) /\
  cU (Ph (N+2) "sifted") [.lst (A.map λa=>bz a m),.lst (A.map λa=>kO d a k)]=some (.lst (i.map λa=>bz a m))/\cU (Ph (N+2) "sifted") [.lst (i.map λa=>bz a m),.lst (i.map λa=>kW d a k)]=some (.lst (D.map λa=>bz a m)):=by
 obtain⟨i,L,Q⟩:=mB V h.hl (MF 18) (y:=fun a=>kO d a k) (fun a t=>by
  obtain⟨s,r,o,E,_,_,_,q,_,y,_,_,_⟩:=h.at t p;rw[q];refine⟨⟨_,_,⟨r,rfl⟩,y,rfl⟩,?_,_,rfl⟩;show[P.int r,.tup o].all (di 19)=true;rw[oo,oo,zA y];rfl) (λa t b w g e l=>by
  obtain⟨s,r,o,E,_,_,S,q,_,y,hw,_,_⟩:=h.at t p;obtain⟨M,I,H,C,_,_,x,c,_,K,u,_,_⟩:=h.at w p;rw[q,c]at e l;unfold TT BH;rw[zH (h.ty t).1 (h.ty w).1 g S x (λz=>by simp only[P.tup.injEq,eZ]at z;exact e (by rw[z.1,z.2.1])),JQ ⟨r,rfl⟩ y hw ⟨I,rfl⟩ K u e,l]) (λa=>bz a m) (n:=N)
 obtain⟨D,T,R⟩:=mB L h.hl (kj 19) (y:=fun a=>kW d a k) (fun a t=>by
  obtain⟨s,r,o,E,_,_,_,_,F,_,hw,_,_⟩:=h.at t p;rw[F];exact⟨hw,zA hw,_,rfl⟩) (λa t b w g e l=>by
  obtain⟨s,r,o,E,_,_,S,q,F,y,hw,_,_⟩:=h.at t p;obtain⟨M,I,H,C,_,_,x,c,v,K,u,_,_⟩:=h.at w p;have B:=g.2;rw[q,c]at B;cases B;rw[F,v]at e l;unfold TT BH;rw[zH (h.ty t).1 (h.ty w).1 g.1 S x (λz=>by simp only[P.tup.injEq,eZ,jB,true_and]at z;exact e (by rw[z])),JP ⟨r,rfl⟩ y hw u e,l]) (λa=>bz a m) (n:=N)
 refine⟨i,D,L,T.imp λa t b w g j G=>?_,Q,R⟩;rcases hX j k with G|G
 .exact g.1.1 j G
 .cases (show j=k by lia);obtain⟨s,r,o,E,_,_,S,q,F,_⟩:=h.at t p;obtain⟨M,I,H,C,_,_,x,c,v,_⟩:=h.at w p;have B:=g.1.2;rw[q,c]at B;cases B;have hw:=g.2;rw[F,v]at hw;rw[S,x,hw]
theorem GQ(h:LB rr n m d f)(o:Sv rr A (TT m d f) (KR m d f k))(c:k < m.length):∃w,Sv rr w (TT m d f) (KR m d f (k+1)) /\
  cU (Ph (N+2) "sifted") [.lst (A.map λa=>bz a m),.lst (A.map λa=>kR m f a k)]=some (.lst (w.map λa=>bz a m)):=by
 obtain⟨u,y,i⟩:=mB o h.hl (qN 18) (y:=fun a=>kR m f a k) (fun a s=>by
  obtain⟨j,_,_,_,t⟩:=h.rd s c;obtain⟨H,e,_⟩:=id t;exact⟨t,HD t,H,e⟩) (λa s b r g v l=>by
  obtain⟨j,_,_,p,t⟩:=h.rd s c;obtain⟨S,_,_,x,z⟩:=h.rd r c;unfold TT BH;rw[<- g.1];rw[GN (h.ty s).1 (h.ty s).2 (h.ty r).2 g.2 p x v,l]) (λa=>bz a m) (n:=N)
 refine⟨u,y.imp λa s b r g=>⟨g.1.1,λj q=>?_⟩,i⟩;rcases hX j k with q|q
 .exact g.1.2 j q
 .cases (show j=k by lia);obtain⟨_,_,_,p,_⟩:=h.rd s c;obtain⟨_,_,_,x,_⟩:=h.rd r c;rw[p,x,g.2]
end
end My
namespace My
open PySem L2 Ev
section
variable{t:List (List Nat)}{n N:Nat}{m u w:List P}
abbrev qm(x:P):P:=.tup [kL x 0,kL x 1]
abbrev jv(t A:List (List Nat))(m u w:List P)(q:Option D):Lc:=[some (.p (.lst (t.map λa=>bz a m))),some (.p (.tup [.tup u,.tup w])),some (.p (.lst (A.map λa=>bz a m))),some (.p (.lst (u.map qm))),q]
theorem GR(g:GS n m.length u w)(b:n≤1000)(h x:Option D):bo (gv (ce cF (vE (U 1)) (vC (.int 0)))) [] 1 (ar 5) cE (Av (vE (U 5)) pH (ng (vC (.int 2)))) [h,some (.p (.tup [.tup u,.tup w])),x,none,none] []=some (.lst (u.map qm),[]):=by
 have e:bt (ar 5) cE (Av (vE (U 5)) pH (ng (vC (.int 2)))) u [h,some (.p (.tup [.tup u,.tup w])),x,none,none,none] []=some (u.map qm,[]):=by
  have f:u.map qm=(u.filter λ_=>true).map qm:=by rw[hE.mpr (λ_ _=>rfl)]
  rw[f];refine cx (Inv:=λL=>∃q,L=[h,some (.p (.tup [.tup u,.tup w])),x,none,none,q]) (λv s L a=>?_) ⟨none,rfl⟩;obtain⟨q,rfl⟩:=a;obtain⟨r,c,k,rfl,_⟩:=g.hh v s;refine⟨[h,some (.p (.tup [.tup u,.tup w])),x,none,none,some (.p (.tup [.int r,.tup c,.tup k]))],rfl,⟨_,rfl⟩,by simp,λ_=>?_⟩;rfl
 unfold bo;rw[show gv (ce cF (vE (U 1)) (vC (.int 0))) [h,some (.p (.tup [.tup u,.tup w])),x,none,none] []=some (u,[]) by simp,aB,ai (by rw[jc,g.hl];lia),show kh [] 1 [h,some (D.p (.tup [.tup u,.tup w])),x,none,none]=[h,some (.p (.tup [.tup u,.tup w])),x,none,none,none] from rfl,e];rfl
theorem wr(h:LB t n m u w)(v:Sv t A T g):A.length≤1000:=bh v.len h.hl
theorem MM(h:LB t n m u w)(p:k < n)(v:Sv t A (TT m u w) (Ld u k)):∃b,Sv t b (TT m u w) (Ld u (k+1))/\eE (Ph (N+2)) (jv t A m u w (some (.p (.int (k:Int))))) []=some (.nx,jv t b m u w (some (.p (.int (k:Int)))),[]):=by
 obtain⟨x,b,i,P,o,H⟩:=GU (N:=N) h v p;refine⟨b,P,?_⟩;have j:=p6 (A:=A) (m:=m) (y:=fun a=>kO u a k) (e:=ce cF (vE (U 3)) (ce cF (vE (dW (aT Att) (U 5) "sources")) (vE (U 4)))) (c:=some (.p (.lst (t.map fun a=>bz a m)))) (r:=some (.p (.tup [.tup u,.tup w]))) (t:=some (.p (.lst (u.map qm)))) (p:=some (.p (.int (k:Int)))) (wr h v) (fun a c=>by
  obtain⟨s,r,z,G,q,g,_,B,_⟩:=h.at (v.sub a c) p;have f:=(jb (d:=.p (bz a m)) (S:=[]) (.inl rfl) (f:=U 5) (L:=jv t A m u w (some (.p (.int (k:Int))))++[some (.p (bz a m))]) rfl).2.2.1;have F:vE (dW (aT Att) (U 5) "sources") (jv t A m u w (some (.p (.int (k:Int))))++[some (.p (bz a m))]) []=some (.lst (am (cG (aq a))),[]):=by rw[vE,f];simp
  have D:L2.atI (am (cG (aq a))) (k:Int)=some (.int (s:Int)):=eO (by simp[am,q]);have E:L2.atI (u.map qm) (s:Int)=some (kO u a k):=eO (by rw[aZ,g,B];rfl);have K:ce cF (vE (dW (aT Att) (U 5) "sources")) (vE (U 4)) (jv t A m u w (some (.p (.int (k:Int))))++[some (.p (bz a m))]) []=some (.int (s:Int),[]):=by rw[ce,F,aB];simp[D]
  show ce cF (vE (U 3)) (ce cF (vE (dW (aT Att) (U 5) "sources")) (vE (U 4))) (jv t A m u w (some (.p (.int (k:Int))))++[some (.p (bz a m))]) []=_;rw[ce,show vE (U 3) (jv t A m u w (some (.p (.int (k:Int))))++[some (.p (bz a m))]) []=some (.lst (u.map qm),[]) by simp,aB,K,aB];simp[E])
 have y:=p6 (A:=x) (m:=m) (y:=λa=>kW u a k) (e:=vE (fC (mT Tb (Ph (N+2))) (U 5) "whos_at" (bj (U 1) (bj (U 4) dq)))) (c:=some (.p (.lst (t.map λa=>bz a m)))) (r:=some (.p (.tup [.tup u,.tup w]))) (t:=some (.p (.lst (u.map qm)))) (p:=some (.p (.int (k:Int)))) (wr h i) (λa c=>by obtain⟨s,r,z,G,q,g,_,_,C,_,_,hw,l⟩:=h.at (i.sub a c) p;have e:=u9 (d:=.p (bz a m)) (S:=[]) (.inl rfl) (n:=N) (s:=.tup w) (t:=U 5) (k:=bj (U 1) (bj (U 4) dq)) (L:=jv t x m u w (some (.p (.int (k:Int))))++[some (.p (bz a m))]) q g hw l rfl rfl;show vE _ (jv t x m u w (some (.p (.int (k:Int))))++[some (.p (bz a m))]) []=_;rw[vE,e,C];simp)
 unfold eE;rw[aY (e:=jv t x m u w (some (.p (.int (k:Int))))) (c:=[]) (by rw[aS,eV,aN,ae,show vE (U 2) (jv t A m u w (some (.p (.int (k:Int))))) []=some (.lst (A.map λa=>bz a m),[]) by simp,aB,ae,j];simp[o])]
 rw[aS,eV,aN,ae,show vE (U 2) (jv t x m u w (some (.p (.int (k:Int))))) []=some (.lst (x.map λa=>bz a m),[]) by simp,aB,ae,y];simp[H]
theorem ML(h:LB t n m u w)(s:k < m.length)(v:Sv t A (TT m u w) (KR m u w k)):∃x,Sv t x (TT m u w) (KR m u w (k+1))/\eD (Ph (N+2)) (jv t A m u w (some (.p (.int (k:Int))))) []=some (.nx,jv t x m u w (some (.p (.int (k:Int)))),[]):=by
 obtain⟨b,g,r⟩:=GQ (N:=N) h v s;refine⟨b,g,?_⟩;have c:=p6 (A:=A) (m:=m) (y:=fun a=>kR m w a k) (e:=ce cF (ce cF (vE (U 1)) (vC (.int 1))) (ce cF (vE (dW (aT Att) (U 5) "road_sources")) (vE (U 4)))) (c:=some (.p (.lst (t.map fun a=>bz a m)))) (r:=some (.p (.tup [.tup u,.tup w]))) (t:=some (.p (.lst (u.map qm)))) (p:=some (.p (.int (k:Int)))) (wr h v) (fun a i=>by
  obtain⟨j,l,y,_⟩:=h.rd (v.sub a i) s;have f:=(jb (d:=.p (bz a m)) (S:=[]) (.inl rfl) (f:=U 5) (L:=jv t A m u w (some (.p (.int (k:Int))))++[some (.p (bz a m))]) rfl).2.2.2;have p:vE (dW (aT Att) (U 5) "road_sources") (jv t A m u w (some (.p (.int (k:Int))))++[some (.p (bz a m))]) []=some (.lst (ga a m),[]):=by rw[vE,f];simp
  have z:L2.atI (ga a m) (k:Int)=some (.int (j:Int)):=eO l;have o:L2.atI w (j:Int)=some (kR m w a k):=eO y;have q:ce cF (vE (dW (aT Att) (U 5) "road_sources")) (vE (U 4)) (jv t A m u w (some (.p (.int (k:Int))))++[some (.p (bz a m))]) []=some (.int (j:Int),[]):=by rw[ce,p,aB];simp[z]
  show ce cF (ce cF (vE (U 1)) (vC (.int 1))) (ce cF (vE (dW (aT Att) (U 5) "road_sources")) (vE (U 4))) (jv t A m u w (some (.p (.int (k:Int))))++[some (.p (bz a m))]) []=_;rw[ce,show ce cF (vE (U 1)) (vC (.int 1)) (jv t A m u w (some (.p (.int (k:Int))))++[some (.p (bz a m))]) []=some (.tup w,[]) by simp,aB,q,aB];simp[o])
 unfold eD;rw[aS,eV,aN,ae,show vE (U 2) (jv t A m u w (some (.p (.int (k:Int))))) []=some (.lst (A.map λa=>bz a m),[]) by simp,aB,ae,c];simp[r]
end
structure Fst(rr:List (List Nat))(ps hs rds:List P)(a0:List Nat):Prop where
 sp:∃l1 l2,rr=l1++a0::l2/\∀b ∈ l1,BH b ps hs rds≠BH a0 ps hs rds
 le:∀b ∈ rr,BH b ps hs rds=BH a0 ps hs rds\/fy 20 (pd (BH a0 ps hs rds)) (pd (BH b ps hs rds))=some true
variable{s:List Nat}
theorem Fst.mem(h:Fst t m u w s):s ∈ t:=by obtain⟨l,x,rfl,_⟩:=h.sp;simp
section
variable{t:List (List Nat)}{n N:Nat}{m u w:List P}
theorem LB.st(h:LB t n m u w)(x:a ∈ t):ST (BH a m u w):=⟨_,_,rfl,(h.ty x).1,(h.ty x).2⟩
theorem Kh(h:LB t n m u w)(D:Sv t A (TT m u w) (KR m u w m.length)):∃s r,A=s::r/\Fst t m u w s:=by
 obtain⟨⟨p,rfl,q⟩,G⟩:=D;have H:∀l:List (List Nat),l.filter p≠[]->∃f s d,l=f++s::d/\(∀b ∈ f,p b=false)/\p s=true/\∃r,l.filter p=s::r:=by
  intro l;induction l with
  |nil=>exact λz=>absurd rfl z
  |cons x l E=>
   intro z;cases e:p x with
   |true=>exact⟨[],x,l,rfl,(by simp),e,_,by rw[yy,ai e]⟩
   |false=>
    rw[yy,al (by rw[e];exact a8)]at z ⊢;obtain⟨f,s,d,C,j,g,y⟩:=E z;refine⟨x::f,s,d,by rw[C];rfl,λb a=>?_,g,y⟩;rcases aW.mp a with rfl|a
    .exact e
    .exact j b a
 obtain⟨f,s,d,e,j,g,r,y⟩:=H t G;have S:s ∈ t:=by rw[e];simp
 have v:∀b ∈ t,p b=false->fy 20 (pd (BH s m u w)) (pd (BH b m u w))=some true:=λb a z=>(q s S g b a).2 z;refine⟨s,r,y,⟨f,d,e,λb a z=>?_⟩,λb a=>?_⟩
 .have o:b ∈ t:=by rw[e];exact lr _ a
  have:=v b o (j b a);rw[z,(zD 16).ir (h.st S)]at this;cases this
 .cases F:p b with
  |false=>exact .inr (v b a F)
  |true=>
   refine .inl ?_;obtain⟨P,B⟩:=(q s S g b a).1 F;have K:∀c,(iQ c m w).length=m.length:=λc=>by unfold iQ ga;simp
   have:iQ s m w=iQ b m w:=i0 λk=>by
    rcases hX k m.length with i|i
    .exact B k i
    .rw [cB (by rw[K];exact i),cB (by rw[K];exact i)]
   unfold BH;rw[P,this]
theorem MK(h:LB t n m u w)(T:n≤1000)(hp:m.length≤900000):∃s,Fst t m u w s/\cU (Ph (N+5) "least_by") [.lst (t.map λa=>bz a m),.tup [.tup u,.tup w]]=some (.tup [BH s m u w,.tup (am s)]):=by
 obtain⟨L1,S1,Z,p,l,F,rfl,rfl⟩:=bJ (g:=ar 4) (b:=eE (Ph (N+4))) (s:=intsFrom 0 n) (k:=0)
  (Inv:=λi L S=>∃p A,Sv t A (TT m u w) (Ld u i)/\L=jv t A m u w p/\S=[])
  (L:=jv t t m u w none) (S:=[]) (λi v L S H I=>by obtain⟨p,A,z,rfl,rfl⟩:=I;obtain⟨rfl,M⟩:=ints_get H;simp only[cD,cI]at z ⊢;obtain⟨B,D,y⟩:=MM (N:=N+2) h M z;exact⟨jv t A m u w (some (.p (.int (i:Int)))),_,_,rfl,y,_,B,D,rfl,rfl⟩)
  ⟨none,t,(Sv.all h.ne).imp λ_ _ _ _ _ j o=>absurd o (by lia),rfl,rfl⟩
 rw [cg,cD] at F;have K:Sv t l (TT m u w) (KR m u w 0):=F.imp fun a ha b hb E=>⟨i0 fun k=>by
  have V:∀c ∈ t,(dt c u).length=n:=λc hc=>by unfold dt;rw[aU,iC,(h.ra c hc).2]
  rcases hX k n with C|C
  .exact E k C
  .rw [cB (by rw[V a ha];exact C),cB (by rw[V b hb];exact C)],λj o=>absurd o (by lia)⟩
 obtain⟨L2,S2,y,q,B,P,rfl,rfl⟩:=bJ (g:=ar 4) (b:=eD (Ph (N+4))) (s:=intsFrom 0 m.length) (k:=0)
  (Inv:=λi L S=>∃p A,Sv t A (TT m u w) (KR m u w i)/\L=jv t A m u w p/\S=[])
  (L:=jv t l m u w p) (S:=[]) (λi v L S H I=>by obtain⟨p,A,z,rfl,rfl⟩:=I;obtain⟨rfl,M⟩:=ints_get H;simp only[cD,cI]at z ⊢;obtain⟨B,D,y⟩:=ML (N:=N+2) h M z;exact⟨jv t A m u w (some (.p (.int (i:Int)))),_,_,rfl,y,_,B,D,rfl,rfl⟩)
  ⟨p,l,K,rfl,rfl⟩
 rw[cg,cD]at P;obtain⟨s,r,rfl,R⟩:=Kh h P;obtain⟨W,G⟩:=h.ra s R.mem;refine⟨s,R,?_⟩;have hR:mj (.p (bz s m)) [] s m:=.inl rfl;have Q:=Hw hR W.ha (n:=N) (c:=u) (m:=w) (by rw[G];exact h.g.hs) (λv H=>by obtain⟨j,e,o⟩:=wA W v H;exact⟨j,e,by rw[h.g.rl];exact o⟩) hp
 rw[t_,bx];show(match jf (Ph (N+4)) [some (.p (.lst (t.map λa=>bz a m))),some (.p (.tup [.tup u,.tup w])),none,none,none] [] with|some (.rt d,_,S)=>(jk 9 d S).map (λx=>x.fst)|some (.nx,_,_)=>some .non|_=>none)=some (.tup [BH s m u w,.tup (am s)]);unfold jf;rw[aY (e:=[some (.p (.lst (t.map λa=>bz a m))),some (.p (.tup [.tup u,.tup w])),some (.p (.lst (t.map λa=>bz a m))),none,none]) (c:=[]) (by simp)];rw[aY (e:=jv t t m u w none) (c:=[]) (by rw[aS,eV,GR h.g T];rfl)];have hn':((n:Int)).natAbs < 1000000:=by lia
 have hp':((m.length:Int)).natAbs < 1000000:=by lia
 rw[aY (e:=jv t l m u w p) (c:=[]) (by rw[cf,show gZ (dS (U 3)) (jv t t m u w none) []=some (intsFrom 0 n,[]) by simp[dM,d9,h.g.hl,T];lia];exact Z)];rw[aY (e:=jv t (s::r) m u w q) (c:=[]) (by rw[cf,show gZ (dS (eV (ce cF (vE (U 1)) (vC (.int 1))))) (jv t l m u w p) []=some (intsFrom 0 m.length,[]) by simp[dM,d9,h.g.rl];lia];exact y)];have eM:vE (fC (mT Tb (Ph (N+4))) (eV (ce cF (vE (U 2)) (vC (.int 0)))) "standing_behind" (bj (U 1) dq)) (jv t (s::r) m u w q) []=some (BH s m u w,[]++[.fz (.lst (dt s u))]):=by
  have X:eV (ce cF (vE (U 2)) (vC (.int 0))) (jv t (s::r) m u w q) []=some (.p (bz s m),[]):=by simp
  have eA:bj (U 1) dq (jv t (s::r) m u w q) []=some ([.p (.tup [.tup u,.tup w])],[]):=by simp
  rw[vE,fC,X,aB];simp only[bz,Qe,Qp,eA,aB,fM,g7];simp only[bz]at Q;rw[Q];simp
 have eF:∀S:aL,vE (dW (aT Att) (eV (ce cF (vE (U 2)) (vC (.int 0)))) "renaming") (jv t (s::r) m u w q) S=some (.tup (am s),S):=λS=>by have f:=(jb (d:=.p (bz s m)) (S:=S) (.inl rfl) (f:=eV (ce cF (vE (U 2)) (vC (.int 0)))) (L:=jv t (s::r) m u w q) (by simp)).1;rw[vE,f];simp
 rw[b0,eV,bf,ae,eM,aB,ae,eF];rfl
end
theorem Ae(N:LS)(s:Str):(dr N s).Nodup:=su.filter _
theorem HJ(B:Pln f d i):KN (bi (aQ f) d):=by
 have a:∀(r:P)(x y:Nat),de (pr r x y)=[.inl (x:Int),.inl (y:Int)]:=λr x y=>rfl;have n:(bi (aQ f) d).Pairwise λp q=>de p≠de q:=by
  unfold bi;rw[yG];constructor
  .intro r _;unfold vO;rw[yG];constructor
   .intro x _;rw[sD];refine((Ae _ _).filter _).imp λ{o E} h z=>h ?_
    rw[a,a]at z;simp only[eZ,k5,jB]at z;lia
   .refine (Ae _ _).imp λ{x u} h p n q b z=>h ?_;obtain⟨o,_,rfl⟩:=a_.mp n;obtain⟨E,_,rfl⟩:=a_.mp b;rw[a,a]at z;simp only[eZ,k5,jB]at z;lia
  .refine B.rd.imp λ{r G} h p n q b z=>h ?_;have C:p ∈ bi (aQ f) [r]:=by simpa[bi] using n
   have D:q ∈ bi (aQ f) [G]:=by simpa[bi] using b
   obtain⟨M,K,x,y,g,l,_,rfl⟩:=lN.mp C;obtain⟨N,A,u,I,m,t,_,rfl⟩:=lN.mp D;cases g_.mp K;cases g_.mp A;rw[a,a]at z;simp only[eZ,k5,jB]at z;have S:x=u:=by lia
   have F:y=I:=by lia
   subst S F;rw[g]at m;rw[l]at t;exact⟨du m,du t⟩
 intro j c q L e H k;obtain⟨w,rfl⟩:=aP.mp e;obtain⟨s,rfl⟩:=aP.mp H;have v:=yN.mp n;rcases Nat.lt_trichotomy j c with h|h|h
 .exact absurd k (v j c w s h)
 .exact h
 .exact absurd k.symm (v c j s w h)
theorem j7(h:Shp k):(∃t,bI k=List.range k.length::t)/\(bI k).length≤24/\(∀a ∈ bI k,cG (aq a) ∈ bI k/\∀b ∈ bI k,fx a b ∈ bI k):=by
 have:=h.ok;unfold zB at this;simp only[av,be,qE,List.contains_iff_mem]at this;obtain⟨⟨⟨⟨⟨_,_⟩,s⟩,_⟩,c⟩,n⟩:=this;refine⟨?_,c,λa f=>⟨(n a f).1.2,(n a f).2⟩⟩;cases e:bI k with
 |nil=>rw[e]at s;cases s
 |cons x t=>rw[e]at s;cases s;exact⟨t,rfl⟩
section
variable{B:BD}{u w:List P}{N:Nat}
theorem H0(h:BP B):B.PR.length≤900000:=bh (EQ h) (by decide)
theorem gG(h:BP B):∀a ∈ bI (bv B.fams),RenArg a B.PR/\a.length=(aG B.fams).length:=λa x=>⟨Gf h x (H0 h),(lG (i8 h) x).1⟩
theorem qQ(h:BP B)(g:GS (aG B.fams).length B.PR.length u w):LB (bI (bv B.fams)) (aG B.fams).length B.PR u w:=by obtain⟨⟨t,e⟩,x,_⟩:=j7 (i8 h);exact⟨gG h,by rw[e];simp,by lia,g⟩
theorem pL(h:BP B)(g:GS (aG B.fams).length B.PR.length u w):∃s,Fst (bI (bv B.fams)) B.PR u w s/\cU (Ph (N+6) "least") [cR B,.tup [.tup u,.tup w]]=some (.tup [BH s B.PR u w,.tup (am s)]):=by
 have l:=qQ h g;have x:(aG B.fams).length≤1000:=by have:=tX h;simp only[aQ,aU]at this;lia
 obtain⟨s,F,e⟩:=MK (N:=N) l x (H0 h);refine⟨s,F,?_⟩;have r:=L9 (n:=N+1) (p:=cR B) (λa k=>(gG h a k).1) (tG (n:=N+1) h) (CG (n:=N+1) h) l.hl;rw[A6,bx];simp[rF,r,e]
theorem Hx(P:BP B)(g:GS (aG B.fams).length B.PR.length u w)(x:a ∈ bI (bv B.fams)):cU (Ph (N+6) "renamed") [cR B,.tup [.tup u,.tup w],.tup (am a)]=some (BH a B.PR u w):=by obtain⟨r,h⟩:=gG P a x;refine Ma r (tG (n:=N+2) P) (by rw[h];exact g.hs) λv k=>?_;obtain⟨j,e,s⟩:=wA r v k;exact⟨j,e,by rw[g.rl];exact s⟩
theorem tZ(P:BP B)(g:GS (aG B.fams).length B.PR.length u w)(x:a ∈ bI (bv B.fams)):GS (aG B.fams).length B.PR.length (dt a u) (iQ a B.PR w):=by obtain⟨r,h⟩:=gG P a x;rw[<- h]at g ⊢;exact HM r g
theorem ED(h:BP B)(g:GS (aG B.fams).length B.PR.length u w)(x:a ∈ bI (bv B.fams))(e:b ∈ bI (bv B.fams)):BH b B.PR (dt a u) (iQ a B.PR w)=BH (fx a b) B.PR u w/\fx a b ∈ bI (bv B.fams):=by obtain⟨r,l⟩:=gG h a x;obtain⟨s,k⟩:=gG h b e;have m:=((j7 (i8 h)).2.2 a x).2 b e;obtain⟨n,f⟩:=gG h _ m;rw[<- l]at g;refine⟨?_,m⟩;unfold BH;rw[He r.ha s.ha n.ha (k.trans l.symm) g,Hd r s n (HJ h) g.rl]
theorem xh(h:BP B)(g:GS (aG B.fams).length B.PR.length u w):∃t,bI (bv B.fams)=List.range (aG B.fams).length::t/\BH (List.range (aG B.fams).length) B.PR u w=.tup [.tup u,.tup w]:=by obtain⟨⟨t,e⟩,_,_⟩:=j7 (i8 h);rw[D4]at e;refine⟨t,e,?_⟩;have r:=(gG h (List.range (aG B.fams).length) (by rw[e];simp)).1;obtain⟨x,a⟩:=Nd r (HJ h) g;unfold BH;rw[x,a]
theorem GJ(h:dD (aq a)=true):fx a (cG (aq a))=List.range a.length:=by
 refine i0 λk=>?_;by_cases x:k < a.length
 .have e:=bq x;have s:=(lD h (CI h _ (ej x))).mpr e;rw[Dm e s,hG x]
 .rw [cB (by unfold fx;simp;lia),cB (by simp;lia)]
theorem kM(h:BP B)(g:GS (aG B.fams).length B.PR.length u w)(x:a ∈ bI (bv B.fams))(n:Fst (bI (bv B.fams)) B.PR u w s)(m:Fst (bI (bv B.fams)) B.PR (dt a u) (iQ a B.PR w) p):BH p B.PR (dt a u) (iQ a B.PR w)=BH s B.PR u w:=by
 have l:=qQ h g;obtain⟨b,r⟩:=ED h g x m.mem;have i:=((j7 (i8 h)).2.2 a x).1;obtain⟨e,S⟩:=ED h g x i;obtain⟨y,j⟩:=gG h a x;have d:=((j7 (i8 h)).2.2 _ i).2 s n.mem;have v:=tZ h g x;have c:BH (fx (cG (aq a)) s) B.PR (dt a u) (iQ a B.PR w)=BH s B.PR u w:=by rw[<- (ED h v i n.mem).1];obtain⟨t,H,q⟩:=xh h g;rw[GJ y.ha,j,q]at e;unfold BH at e;simp only[P.tup.injEq,eZ,jB]at e;rw[e.1,e.2]
 have o:=zD 16;rw[b];have f:=l.st r;have k:=l.st n.mem;refine o.one f k ?_ ?_
 .rcases n.le _ r with z|z
  .rw [z];exact o.ir k
  .exact o.asy k f z
 .rcases m.le _ d with z|z
  .rw [c,b]at z;rw[z];exact o.ir f
  .rw [c,b]at z;exact o.asy f k z
theorem wM(P:BP B)(g:GS (aG B.fams).length B.PR.length u w)(a:Fst (bI (bv B.fams)) B.PR u w s)(k:Fst (bI (bv B.fams)) B.PR (dt s u) (iQ s B.PR w) f):f=List.range (aG B.fams).length:=by
 have e:=kM P g a.mem a k;obtain⟨t,n,b⟩:=xh P (tZ P g a.mem);obtain⟨l,m,h,c⟩:=k.sp;cases l with
 |nil=>rw[n]at h;cases h;rfl
 |cons x l=>rw[n]at h;cases h;exact absurd (b.trans e.symm) (c _ aO)
end
theorem qM(h:ST x):di (n+4) x=true:=by
 obtain⟨u,s,rfl,m,t⟩:=h;have f:u.all (di (n+2))=true:=be.mpr λy a=>by obtain⟨k,e⟩:=hU.mp a;obtain⟨r,c,w,q,p,v,rfl⟩:=m k y e;show[r,c,w].all (di (n+1))=true;simp only[oo,Di q,zA p,zA v,List.all_nil,x']
 have b:s.all (di (n+2))=true:=be.mpr λy a=>by obtain⟨k,e⟩:=hU.mp a;exact HD (t k y e)
 show(u.all (di (n+2)) && (s.all (di (n+2)) && true))=true;rw[f,b];rfl
theorem uZ(n:Nat)(a:List Nat):di (n+1) (.tup (am a))=true:=by
 show(am a).all (di n)=true;refine be.mpr λy h=>?_
 obtain⟨k,_,rfl⟩:=a_.mp h;exact Di ⟨_,rfl⟩
theorem zy:∀s:List P,gq s=s.map pd
 | []=>rfl
 |x::r=>d8 (pd x::·) (zy r)
theorem EG(P:BP B):GS (aG B.fams).length B.PR.length ((aG B.fams).map ik) (List.replicate B.PR.length (.tup [])):=by
 refine⟨by simp,λx a=>?_,by simp,λx a=>?_⟩
 .obtain⟨f,n,rfl⟩:=a_.mp a;obtain⟨m,c,r,l,o,s,h,rfl⟩:=lS P.hf n;refine⟨0,l.map pU,List.replicate o.length (.int (-1)),rfl,λx a=>?_,λw hw=>?_,?_⟩
  .obtain⟨y,b,rfl⟩:=a_.mp a;obtain⟨x,lo,i,t,_,_,_,_,_,rfl⟩:=h.hce.1 y b;exact⟨t,rfl⟩
  .cases (sF.mp hw).2;exact⟨-1,by lia,by lia,rfl⟩
  .rw [sJ];have:=h.wl;lia
 .cases (sF.mp a).2;exact⟨[],rfl,λk x e=>by simp at e⟩
section
variable{B:BD}{u w:List P}{N:Nat}
abbrev pF(B:BD)(u w:List P):List P:=(bI (bv B.fams)).map λa=>BH a B.PR u w
abbrev qg(q:Option D)(B:BD)(u w:List P)(h x a e s:Option D):Lc:=[q,some (.p (cR B)),some (.p (.tup [.tup u,.tup w])),h,x,a,e,s]
theorem JL(P:BP B)(g:GS (aG B.fams).length B.PR.length u w)(x e s n k:Option D):bo (gv (vE (U 3))) [] 1 (ar 8) cE (aN (cU (Ph (N+6) "renamed")) (ae (vE (U 1)) (ae (vE (U 2)) (ae (vE (U 8)) aE)))) (qg x B u w (some (.p (.lst (tups (bI (bv B.fams)))))) e s n k) []=some (.lst (pF B u w),[]):=by
 have v:∀(A:List (List Nat))(q:Option D),(∀a ∈ A,a ∈ bI (bv B.fams))->bt (ar 8) cE (aN (cU (Ph (N+6) "renamed")) (ae (vE (U 1)) (ae (vE (U 2)) (ae (vE (U 8)) aE)))) (tups A) (qg x B u w (some (.p (.lst (tups (bI (bv B.fams)))))) e s n k++[q]) []=some (A.map λa=>BH a B.PR u w,[]):=by
  intro A;induction A with
  |nil=>exact λ_ _=>rfl
  |cons a A i=>
   intro q f;have m:=Hx (N:=N) P g (f a aO);have r:=i (some (.p (.tup (am a)))) λb p=>f b (aR _ p)
   show bt _ _ _ (.tup (am a)::tups A) _ _=_;rw[bt,show ar 8 (.tup (am a)) (qg x B u w (some (.p (.lst (tups (bI (bv B.fams)))))) e s n k++[q])=some (qg x B u w (some (.p (.lst (tups (bI (bv B.fams)))))) e s n k++[some (.p (.tup (am a)))]) from rfl];have t:aN (cU (Ph (N+6) "renamed")) (ae (vE (U 1)) (ae (vE (U 2)) (ae (vE (U 8)) aE))) (qg x B u w (some (.p (.lst (tups (bI (bv B.fams)))))) e s n k++[some (.p (.tup (am a)))]) []=some (BH a B.PR u w,[]):=by simp[m]
   have c:cE (qg x B u w (some (.p (.lst (tups (bI (bv B.fams)))))) e s n k++[some (.p (.tup (am a)))]) []=some (true,[]):=rfl;simp only[c,aB,eL,t,r];rfl
 have l:=(j7 (i8 P)).2.1;unfold bo;rw[show gv (vE (U 3)) (qg x B u w (some (.p (.lst (tups (bI (bv B.fams)))))) e s n k) []=some (tups (bI (bv B.fams)),[]) by simp,aB,ai (by rw[jc,tups,aU];lia),show kh [] 1 (qg x B u w (some (.p (.lst (tups (bI (bv B.fams)))))) e s n k)=qg x B u w (some (.p (.lst (tups (bI (bv B.fams)))))) e s n k++[none] from rfl,v _ none λ_ h=>h];rfl
theorem JM(P:BP B)(g:GS (aG B.fams).length B.PR.length u w)(k:Fst (bI (bv B.fams)) B.PR u w s):p_ (pF B u w)=some (BH s B.PR u w):=by
 have h:=qQ P g;obtain⟨m,f,e,l⟩:=Ak (zD 16) (f:=pF B u w) (λt b=>by obtain⟨a,x,rfl⟩:=a_.mp b;exact⟨h.st x,qM (n:=16) (h.st x)⟩) (λz=>h.ne (yE.mp z))
 obtain⟨a,x,rfl⟩:=a_.mp f;rw[e];rcases k.le a x with z|z
 .rw [z]
 .have:=l _ (a_.mpr ⟨s,k.mem,rfl⟩);rw[z]at this;cases this
theorem JN(P:BP B)(g:GS (aG B.fams).length B.PR.length u w)(k:Fst (bI (bv B.fams)) B.PR u w s):∃i:Nat,nN (pF B u w) (BH s B.PR u w)=some i/\(tups (bI (bv B.fams)))[i]? = some (.tup (am s)):=by
 have h:=qQ P g;have o:=zD 16;obtain⟨r,p,e,d⟩:=k.sp;have v:((pF B u w).all (di 19) && di 19 (BH s B.PR u w))=true:=by rw[qM (n:=15) (h.st k.mem),ya];refine be.mpr λt j=>?_;obtain⟨a,q,rfl⟩:=a_.mp j;exact qM (n:=15) (h.st q)
 have y:∀l:List (List Nat),(∀b ∈ l,b ∈ bI (bv B.fams)/\BH b B.PR u w≠BH s B.PR u w)->((l++s::p).map λb=>pd (BH b B.PR u w)).findIdx? (λz=>bB z (pd (BH s B.PR u w)))=some l.length:=by
  intro l;induction l with
  |nil=>intro _;show yr _ (pd (BH s B.PR u w)::_)=some 0;rw[sE,(o.eq (h.st k.mem) (h.st k.mem)).mpr rfl];rfl
  |cons x l H=>intro m;have c:=m x aO;show yr _ (pd (BH x B.PR u w)::((l++s::p).map λb=>pd (BH b B.PR u w)))=some (l.length+1);rw[sE,o.neq (h.st c.1) (h.st k.mem) c.2,H λb f=>m b (aR _ f)];rfl
 refine⟨r.length,?_,?_⟩
 .unfold nN;rw[ai v,zy,gx];have:=y r λb f=>⟨by rw[e];exact lr _ f,d b f⟩
  rw[<- e]at this;exact this
 .unfold tups;rw[aZ,e,bU (ag _),yS];rfl
theorem HH(P:BP B)(g:GS (aG B.fams).length B.PR.length u w)(d:Fst (bI (bv B.fams)) B.PR u w s)(f c m:Option D):∀(A:List (List Nat))(r k:Option D),(∀a ∈ A,a ∈ bI (bv B.fams))->∃q h,bR (ar 6) (kU (Ph (N+6))) (A.map λa=>BH a B.PR u w) (qg f B u w c m (some (.p (.tup [BH s B.PR u w,.tup (am s)]))) r k) []=some (.nx,qg f B u w c m (some (.p (.tup [BH s B.PR u w,.tup (am s)]))) q h,[])
 | [],r,k,_=>⟨r,k,rfl⟩
 |a::A,r,k,o=>by
  have H:=o a aO;have l:=tZ P g H;obtain⟨t,z,i⟩:=pL (N:=N) P l;have j:=Hx (N:=N) P l z.mem;have S:=kM P g H d z;rw[S]at i j;have p:cU (Ph (N+6) "least") [cR B,BH a B.PR u w]=some (.tup [BH s B.PR u w,.tup (am t)]):=i;have v:cU (Ph (N+6) "renamed") [cR B,BH a B.PR u w,.tup (am t)]=some (BH s B.PR u w):=j;have K:=lL (qM (n:=16) ((qQ P g).st d.mem));obtain⟨q,h,e⟩:=HH P g d f c m A (some (.p (BH a B.PR u w))) (some (.p (.tup [BH s B.PR u w,.tup (am t)]))) λb F=>o b (aR _ F);refine⟨q,h,?_⟩;rw[aF];refine(cz (h:=qg f B u w c m (some (.p (.tup [BH s B.PR u w,.tup (am s)]))) (some (.p (BH a B.PR u w))) k) rfl ?_).trans e;generalize BH s B.PR u w=x at *
  generalize BH a B.PR u w=y at *
  simp[kU,p,v,K]
theorem HG(P:BP B)(g:GS (aG B.fams).length B.PR.length u w)(q X y m k b:Option D):∃j z o f c,kT (Ph (N+6)) (qg q B u w X y m k b) []=some (.nx,qg q B u w j z o f c,[]):=by
 obtain⟨s,a,F⟩:=pL (N:=N) P g;have M:=CG (n:=N+3) P;have v:cU (Ph (N+6) "renamings") [cR B]=some (.lst (tups (bI (bv B.fams)))):=M;have I:=JL (N:=N) P g q y m k b;have l:=qQ P g;have V:=lL (qM (n:=16) (l.st a.mem));have T:=lL (uZ 19 s);have G:=JM P g a;obtain⟨i,E,Q⟩:=JN P g a;have d:=eO Q;obtain⟨f,c,L⟩:=HH (N:=N) P g a q (some (.p (.lst (tups (bI (bv B.fams)))))) (some (.p (.lst (pF B u w)))) (bI (bv B.fams)) k b λ_ h=>h;have R:=tZ P g a.mem;obtain⟨Z,S,H⟩:=pL (N:=N) P R;have K:=kM P g a.mem a S;have A:=wM P g a S;subst A;rw[K]at H;have r:cU (Ph (N+6) "least") [cR B,BH s B.PR u w]=some (.tup [BH s B.PR u w,.tup (am (List.range (aG B.fams).length))]):=H;have C:L2.atI (tups (bI (bv B.fams))) 0=some (.tup (am (List.range (aG B.fams).length))):=by obtain⟨t,e,_⟩:=xh P g;rw[e];exact eO (p:=0) rfl
 have W:Bo (.tup [BH s B.PR u w,.tup (am (List.range (aG B.fams).length))]) (.tup [BH s B.PR u w,.tup (am (List.range (aG B.fams).length))])=some false:=lL (by show(di 19 (BH s B.PR u w) && (di 19 (.tup (am (List.range (aG B.fams).length))) && true))=true;rw[qM (n:=15) (l.st a.mem),uZ 18];rfl)
 refine⟨some (.p (.lst (tups (bI (bv B.fams))))),some (.p (.lst (pF B u w))),some (.p (.tup [BH s B.PR u w,.tup (am s)])),f,c,?_⟩;change bR _ _ (pF B u w) _ _=_ at L;unfold kT;rw[aY (e:=qg q B u w (some (.p (.lst (tups (bI (bv B.fams)))))) y m k b) (c:=[]) (by simp[v])];rw[aY (e:=qg q B u w (some (.p (.lst (tups (bI (bv B.fams)))))) (some (.p (.lst (pF B u w)))) m k b) (c:=[]) (by rw[aS,eV,I];rfl)];rw[aY (e:=qg q B u w (some (.p (.lst (tups (bI (bv B.fams)))))) (some (.p (.lst (pF B u w)))) (some (.p (.tup [BH s B.PR u w,.tup (am s)]))) k b) (c:=[]) (by simp[F])];generalize pF B u w=os at *
 generalize BH s B.PR u w=x at *
 rw[aY (e:=qg q B u w (some (.p (.lst (tups (bI (bv B.fams)))))) (some (.p (.lst os))) (some (.p (.tup [x,.tup (am s)]))) k b) (c:=[]) (by simp[zP,dM,d9,jN,G,V])];rw[aY (e:=qg q B u w (some (.p (.lst (tups (bI (bv B.fams)))))) (some (.p (.lst os))) (some (.p (.tup [x,.tup (am s)]))) k b) (c:=[]) (by simp[E,d,T])];rw[aY (e:=qg q B u w (some (.p (.lst (tups (bI (bv B.fams)))))) (some (.p (.lst os))) (some (.p (.tup [x,.tup (am s)]))) f c) (c:=[]) (by rw[cf,show gv (vE (U 4)) (qg q B u w (some (.p (.lst (tups (bI (bv B.fams)))))) (some (.p (.lst os))) (some (.p (.tup [x,.tup (am s)]))) k b) []=some (os,[]) by simp];exact L)]
 simp[r,C,W]
end
theorem JT{n:Nat}(s:List Int):cU (Ph (n+8) "law") [eU s]=some (.bl true):=by
 obtain⟨f,o,i,P,v⟩:=Gs (n:=n+1) s;let B:BD:=⟨f,o,i,[],[]⟩
 have h:BP B:=P;have p:cU (Ph (n+7) "_law_plan") [eU s,.int 3]=some (cR B):=v;obtain⟨st,⟨u,w,rfl,t⟩,q⟩:=IL h (n:=n+2) s;have e:cU (Ph (n+7) "begin") [cR B]=some (.tup [.tup ((aG B.fams).map ik),.tup (List.replicate B.PR.length (.tup []))]):=EF (n:=n+3) h;obtain⟨a,k,b,c,m,j⟩:=HG (N:=n+1) h (MU h t) (some (.p (eU s))) none none none none none;obtain⟨y,z,H,F,K,l⟩:=HG (N:=n+1) h (EG h) (some (.p (eU s))) a k b c m;rw[G6,bx];show(match uq (Ph (n+7)) [some (.p (eU s)),none,none,none,none,none,none,none] [] with|some (.rt d,_,S)=>(jk 9 d S).map (λx=>x.fst)|some (.nx,_,_)=>some .non|_=>none)=some (.bl true);unfold uq;rw[aY (e:=[some (.p (eU s)),some (.p (cR B)),none,none,none,none,none,none]) (c:=[]) (by simp[p])];rw[aY (by rw[cf,gv,show(bQ (ae (aN (cU (Ph (n+7) "_law_standing")) (ae (vE (U 0)) (ae (vE (U 1)) aE))) (ae (aN (cU (Ph (n+7) "begin")) (ae (vE (U 1)) aE)) aE))) [some (.p (eU s)),some (.p (cR B)),none,none,none,none,none,none] []=some (.lst [.tup [.tup u,.tup w],.tup [.tup ((aG B.fams).map ik),.tup (List.replicate B.PR.length (.tup []))]],[]) by simp[q,e]];exact(cz (L:=[some (.p (eU s)),some (.p (cR B)),none,none,none,none,none,none]) rfl j).trans ((cz (g:=ar 2) (L:=qg (some (.p (eU s))) B u w a k b c m) (r:=[]) rfl l).trans rfl))]
 simp
theorem DA{K:FG}{H:Y}{a:Addr}{s:List Int}(l:s.length≤63)(h:L2.Bn H)(S:L2.fG K H a (s.map L2.V.int)):Ev.oJ K (Ev.Lb My.Gv My.Att My.Tb 200 "law") [.ref a] H (λv _=>v=.bl true) (λ_ _ _=>False):=
 Ev.JU h S (JT (n:=192) s)
end My
set_option tactic.hygienic true
namespace PySem.W.Fast
def tw6509832447261164721:=Nat
def tw2960879727322106913:=Nat
def tw14298233630313516748:=Nat
def tw6029294837060913198:=Nat
def tw4252849951332625918:=Nat
def tw838483398327951336:=Nat
def tw7939699924906334063:=Nat
def tw10971632587572437960:=Nat
def tw11315880256974252119:=Nat
def tw3093959305896919690:=Nat
def tw10690211839030826439:=Nat
def tw5306956702794628417:=Nat
def tw1879646929467951958:=Nat
def tw17630186534822526950:=Nat
def tw13913395990222891162:=Nat
def tw8312479457740381124:=Nat
def tw13864266749547708242:=Nat
def tw16828667578320001301:=Nat
def tw7981662531300064667:=Nat
def tw10122704766905394303:=Nat
def tw16675683914406553133:=Nat
def tw16561274358615392866:=Nat
def tw1033847580090462900:=Nat
def tw6407391568748615032:=Nat
def tw15974018304659706198:=Nat
def tw3819251260075441977:=Nat
def tw4745956478105828819:=Nat
def tw9528672936765193503:=Nat
def tw13944008489573823455:=Nat
def tw9543243919792862338:=Nat
def tw7698697927082662450:=Nat
def tw11343265251399825655:=Nat
def tw4766841685025174210:=Nat
def tw482660990071303401:=Nat
def tw1528764542264193796:=Nat
def tw1296603989573821348:=Nat
def tw81162265530559349:=Nat
def tw10664967704795431255:=Nat
def tw6855402026238810778:=Nat
def tw12429225769036693885:=Nat
def tw10780290433144147999:=Nat
def tw12440831080541245488:=Nat
def tw18128637351034364298:=Nat
def tw13187237626072254603:=Nat
def tw6087754833432946433:=Nat
def tw7181254689123481492:=Nat
def tw12658621651417429449:=Nat
def tw14023640363867203388:=Nat
def tw17229829871380605289:=Nat
def tw16956947005326587694:=Nat
def tw8367109675726435075:=Nat
def tw12078432027452325458:=Nat
def tw1642329990855095341:=Nat
def tw17913529955949174324:=Nat
def tw4356111112622738318:=Nat
def tw16921678616299283454:=Nat
def tw7295375496696237796:=Nat
def tw12230099759330041531:=Nat
def tw8730674626934772428:=Nat
def tw1328686147204053109:=Nat
def tw2016997650228939396:=Nat
def tw10851043105138543941:=Nat
def tw16349069993852829769:=Nat
def tw11517923909756703740:=Nat
def tw14583393957600453908:=Nat
def tw3757080484563229301:=Nat
def tw15364704045751341055:=Nat
def tw16209654938461011411:=Nat
def tw17028491815956294533:=Nat
def tw14209646028763218216:=Nat
def tw12156285941132272746:=Nat
def tw16431355400442162401:=Nat
def tw13717328695726648007:=Nat
def tw16494935676058922276:=Nat
def tw10608344872512445324:=Nat
def tw7857841993259184476:=Nat
def tw6544209263521276919:=Nat
def tw8857308124015427633:=Nat
def tw5529264929852812259:=Nat
def tw10383412434792888585:=Nat
def tw6247219054393362222:=Nat
def tw16706570290684221594:=Nat
def tw3308564383895843629:=Nat
def tw9127437484092309116:=Nat
def tw1037383963617889219:=Nat
def tw18297043183674812725:=Nat
def tw14324157737164972299:=Nat
def tw5720539347794476494:=Nat
def tw17482076896389337187:=Nat
def tw5333839293013357320:=Nat
def tw14323133450268891417:=Nat
def tw2473072237238076556:=Nat
def tw12692987732430347489:=Nat
def tw7317977217339036821:=Nat
def tw12256957924277866212:=Nat
def tw6513182536695866993:=Nat
def tw7643728624619882478:=Nat
def tw12505098124340549191:=Nat
def tw9946791689977030877:=Nat
def tw11535868177103875218:=Nat
def tw9460763045798035929:=Nat
def tw11098946200372054030:=Nat
def tw5250027182473575042:=Nat
def tw9118713422087696104:=Nat
def tw6303400992202931518:=Nat
def tw14874167122414675052:=Nat
def tw4677209143666805919:=Nat
def tw10056219466972250574:=Nat
def tw3949509231251603798:=Nat
def tw571136952374137715:=Nat
def tw12724560718161886871:=Nat
def tw11024606384044260007:=Nat
def tw8084780944584640281:=Nat
def tw15411029068489165441:=Nat
end PySem.W.Fast
open PySem PySem.W PyProof.Rows
set_option maxRecDepth 100000 in
set_option maxHeartbeats 0 in
theorem PySem.Challenge.cw_roadsall_k37_least_ones_holds : PySem.Challenge.rw_roadsall_k37_least_ones.Holds := by
 w_on;o_law;k_head;(case hw=>w_witness2)
 k_fill
 refine L2.B7 (l:=PySem.Challenge.rw_roadsall_k37_least_ones) (n:=63) (k:=200) (x:="_law_script") (CX:=L2.qh) (sp:=fun K=>Ev.oJ K (Ev.Lb My.Gv My.Att My.Tb 200 "law")) rfl (by decide) rfl ⟨rfl,by decide,by decide⟩ (fun w h Y=>PySem.W.km_in_of Y) (fun w=>by kernel_rfl) (fun w h Y=>My.FY Y (by kernel_rfl) (by kernel_rfl)) ?F ?S ?C
 case F=>
  intro w mg fa h KX G hmg
  have T:Ev.TOk w My.Gv My.Att My.Tb (L2.Qy KX) mg:=by
   dsimp only [L2.Qy]
   refine' My.KH KX G ?cb ?hh ?lmk ?gv1 ?z
   case cb=>exact⟨⟨by k_is,by k_is,by k_is,by k_is,by k_is,by k_is,by k_is⟩,by k_is,by k_is,by k_is,by k_is,⟨_,_,_,_,_,_,_,_,_,_,by k_is,by k_is,by k_is,by k_is,by k_is⟩,⟨_,_,_,_,_,_,_,_,_,_,by k_is,by k_is,by k_is,by k_is,by k_is⟩,⟨_,_,_,_,_,_,_,_,_,_,by k_is,by k_is,by k_is,by k_is,by k_is⟩⟩
   case hh=>
    intro d hd
    simp only [My.La,List.mem_cons,List.not_mem_nil,or_false] at hd
    rcases hd with rfl|rfl|rfl|rfl|rfl|rfl|rfl|rfl|rfl|rfl|rfl|rfl|rfl|rfl|rfl|rfl|rfl|rfl|rfl|rfl|rfl|rfl|rfl|rfl|rfl <;> (dsimp only [My.jp,My.ny,My.kt,My.lZ,My.kx,My.nw,My.kr,My.io,My.lX,My.jM,My.lY,My.iI,My.l0,My.ku,My.iH,My.jq,My.lV,My.re,My.kq,My.pZ,My.lW,My.jo,My.rc,My.nv,My.oQ,My.nh];exact⟨_,_,_,_,_,_,_,_,_,_,by k_is,by k_is,by k_is,by k_is⟩)
   case lmk=>kernel_rfl
   case gv1=>exact⟨_,by k_is⟩
   case z=>
    intro x hx
    simp only [Ev.Hc,List.mem_cons,List.not_mem_nil,or_false] at hx
    rcases hx with rfl|rfl|rfl|rfl|rfl|rfl|rfl|rfl|rfl|rfl|rfl|rfl|rfl|rfl|rfl|rfl|rfl|rfl|rfl <;> k_is
  obtain⟨f,fd,h1⟩:=T.fn My.oQ (by simp [My.Tb,My.La])
  have e0:=hmg.symm.trans (h1.gl (by decide +kernel))
  cases e0
  refine⟨fd,?_,fun base kb nb=>(Ev.z4 T 200).1 My.oQ (by simp [My.Tb,My.La]) _ fd h1.fn⟩
  obtain⟨kV,doc,pm,an,cdv,ct,rfl⟩:=h1.pl (by decide +kernel)
  exact fun s v=>.of_eq rfl
 case S=>exact fun w H a ns hl hO hS=>My.DA hl hO hS
 case C=>exact fun _ _ _ _ z=>z
