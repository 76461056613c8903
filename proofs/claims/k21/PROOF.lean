import PyProof.Rows.All
import Wide.All
import OpenK.AllK
import Wide.FinOn
import Lean
import PyProof.EqAt
import PyProof.EqKinds
import PyProof.TupleCall
import PySem.Challenge.RW_roadsall_k21_possible_deeds
set_option Elab.async false
set_option linter.all false
set_option maxRecDepth 100000
set_option maxHeartbeats 4000000
noncomputable section
abbrev VP:=PySem.Value->PySem.Shared->Prop
abbrev PN:=List (PySem.Addr×PySem.Obj)
abbrev SV:=PySem.Str->Option PySem.Value
abbrev Aa:=PySem.Addr->Prop
abbrev LS:=List PySem.Str
abbrev LV:=List PySem.Value
abbrev Ab:=List PySem.Expr
abbrev OV:=Option PySem.Value
abbrev FG:=PySem.W.Frag
open Sum.inl renaming inj->w1
abbrev bC:=@of_decide_eq_true
abbrev aj:=@if_pos
abbrev al:=@if_neg
abbrev cG:=@decide_eq_false
abbrev jT:=@decide_eq_true
abbrev gy:=@or_false
abbrev gZ:=@congrArg
abbrev rJ:=@beq_eq_false_iff_ne
abbrev ll:=@beq_iff_eq
abbrev mQ:=@and_true
abbrev kr:=@not_or
abbrev mP:=@if_true
abbrev yE:=@beq_false_of_ne
abbrev rV:=@if_false
open Sum.inr renaming inj->ko
open PySem renaming wpAny_bind->ac,wpAny_pure->aA,wpAny_mono->di,wpAny_field->eI,wpAny_holding->iB,wpAny_truthy_bool->lp,wpAny_Call_Name_kw->mO,wpAny_seqItems->lm,wpAny_callSpecial?_slot->rT,call_meets->je,wpAny_loadPart'->mN,mem_of_lookup->rS,wpAny_call_entry->oK,wpAny_setField_rec->rR,tupleKind_room_in1->rQ,wpAny_newObj_type->rO,wpAny_passesOwn->rN,wpAny_pyIter_tuple->vb,wpAny_pyIter_enum->va,sizeLine_eq->oJ,wpAny_typeOf->rM,wpAny_nextOf_list_item->yD,call_meetsIn->rL,typeIs_int->rK,wpAny_pyIter_list->yC,wpAny_Call_method->yB,codeAny_mono->uX,wpAny_pyIter_zip->yA,noFill_tuple_add->yz,wpAny_execs_nil->yy,Within->yx,wpAny_rule->uW,wpAny_newTuple->yw,wpAny_letOwnedTupleGo_enum->Ee,wpAny_binaryOp_repeat_ref->Ed,wpAny_standAt->yv,wpAny_onRaise->yu,seq_tuple_add->yt,wpAny_Call_method_late->Ec,seqSlot_of->Eb,seqIndex_neg->yr,concat_meets->yq,wpAny_nextOf_list_end->Ea,builtinLookup_eq_fast->D',wpAny_updateSeq_pair->D_,seqIndex_of->yp,wpAny_Name->yo,wpAny_sequenceKey->D9,wpAny_assign_Name->D8,slot_list_getitem->D7,slot_dict_getitem->D6,wpAny_execs_cons->D5,wpAny_eqBool_str->D4,wpAny_eqBool_int->D3,wpAny_Dict_empty->D2,typeLookup_type->D1,codeAny_builtin->D0,wpAny_setField->DZ,wpAny_newList->DY,rangeSize_one->DX,plainId_quiet->DW,eval_ListComp->DV,evalPart_none->DU,call_list_seq->DT
open PySem.Heap renaming get?_push_of_some->bD,lt_size->aO,get?_push_size->db,SameBut->gx,size_push->rH,get?_update_self->yn,get?_update_other->DS,ExtBut->ym,IsTuple->DR
open Option.some renaming inj->eP,injEq->KA
open PySem.W renaming findIn->eO,keepIn->iA,emptyDict->kg,instObj->lj,fnOf->jL,plainGet->rG,codeIn->rF,hasDictIn->uV,kas_sort->uU,nsIn->nG,lookIn->qW,plainGet_of->vL,callWith_K->vK,plainOver->vJ,methodObj->vI,isFn->qV,takerIn->vH,makesIn->vG,mg_of->vF,cellsFrom_some->Bq,methodCall_KW->Bp,specialIn->Bo,handedIn->Bn,kia_one->Bm,OpenLaw->Bl,KasFin->Bk,WalkO->Bj
open Nat renaming le_refl->ah,le_trans->aF,lt_of_lt_of_le->cq,ne_of_lt->bB,ne_of_gt->cm,zero_le->cT,zero_add->dX,lt_succ_self->i3,lt_of_le_of_lt->lX,le_of_lt->iY,lt_irrefl->jA,le_succ->kq,lt_trans->lW,mul_comm->nE,pow_le_pow_right->vD,succ_mul->qU,le_of_succ_le->vA,le_of_eq->qT,min_eq_left->vx,add_sub_cancel_left->Bi,sub_zero->vw,add_comm->vu,mul_le_mul_left->Bh,eq_zero_or_pos->Bg,le_succ_of_le->Bf,ble->qS,min_eq_right->Be,le_add_right->Bc,pow_succ->Bb,mul_succ->Ba,lt_or_ge->A',log2_lt->A_,not_lt->A9
open List renaming mem_cons_of_mem->ao,mem_cons_self->ar,getElem?_set_ne->aG,getElem?_eq_getElem->bj,getElem?_append_left->bA,mem_of_getElem?->aZ,getElem?_eq_some_iff->bL,map_cons->aE,length_cons->aV,length_map->aR,getElem?_append_right->ce,length_append->bg,size_toArray->be,getElem?_set_self->cc,mem_map->aM,mem_cons->aW,all_eq_true->bK,nodup_cons->b_,mem_append->b9,mem_singleton->cS,replicate_succ->dw,append_assoc->cR,nil_append->cH,not_mem_nil->de,set_set->b8,mem_flatMap->dt,getElem?_map->dW,flatMap_cons->dU,getD_eq_getElem?_getD->ie,eq_nil_of_length_eq_zero->iX,set_getElem_self->fR,mem_append_right->fQ,getElem?_take_of_lt->iW,length_filter_le->ib,mem_filter->eR,append_nil->eQ,all_cons->dS,mem_iff_getElem->h_,length_set->fq,map_nil->eE,getElem_mem->gF,flatten_cons->hZ,foldl_cons->gE,length_take->hY,any_cons->fP,map_map->gC,flatMap_map->jz,findIdx?_eq_some_iff_getElem->qQ,mem_append_left->lV,lookup->gB,filterMap_cons->lU,forIn_cons->kn,filter_map->km,nodup_append->lT,mem_of_mem_take->nD,cons_append->lS,pairwise_iff_getElem->qP,find?_cons->lR,mem_filterMap->nC,filter_cons_of_pos->qO,filter_cons_of_neg->qN,mem_range->lQ,filter_congr->nB,getElem?_eq_none->qM,take_length->nA,isEmpty_iff->nz,mem_of_mem_drop->qL,of_mem_zip->ny,filter_eq_self->qK,mem_replicate->qJ,drop_zero->nw,findIdx?_eq_none_iff->vr,map_flatMap->qI,lookup_cons->qH,length_drop->qG,getElem_map->qF,getElem?_replicate->vq,drop_length->qE,any_eq_true->qD,filter_eq_nil_iff->vp,map_append->qC,length_nil->qB,set_append_right->vo,length_singleton->vn,map_id->nv,length->nu,findIdx?_cons->vm,filterMap_map->vl,set_eq_take_append_cons_drop->A8,all_nil->qA,eraseIdx_eq_take_drop_succ->A7,range'_succ->vk,length_zip->vj,foldl->qz,mem_or_eq_of_mem_set->A6,mem_of_find?_eq_some->A5,getElem?_eq_none_iff->A4,drop_eq_getElem_cons->A3,mem_of_mem_eraseIdx->A2,map_take->vh,length_eraseIdx_le->A1,getElem?_cons_succ->A0,take_of_length_le->AZ,pairwise_flatMap->AY,length_replicate->AX,map_congr_left->AW,length_pos_iff->AV,zip_cons_cons->AU,map_inj_right->AT,flatMap_assoc->AS,filter_filter->AR,take_sublist->AQ,length_range->AO,mem_reverse->AN,flatMap_nil->AM,filter_cons->AL,take_left'->AK,find?_some->AJ,nodup_nil->AI,forIn_nil->AH,drop_drop->AG,range'->AF
open Option renaming map_eq_some_iff->fO,bind_some->kl,bind_eq_some_iff->nr,isSome_iff_exists->qy,map_some->qx,getD_some->vg,map->vf,isSome_map->AE,getD_none->AD
open Ne renaming symm->aQ
open PySem.Calls renaming spliced_cons->fN,spliced_nil->jy,callWith_builtin->lP,evalArgs_plain->nq,Name_function_global->AC
open Array renaming length_toList->np,getElem?_eq_some_iff->AB,getElem?_append_left->AA,getElem?_eq_getElem->Az,toList->ve,forIn_toList->Ay,size_append->Ax,all_append->Aw
open PyProof.Rows renaming callWith_type1->kj,slot_tuple_getitem->ki,boot_list->qw,boot_zip->Av,reads_list_at->vd,subscriptTail_builtinR->Au,tail_any->qv,lt_int->As,entry_tuple_getitem->Ar,args_tuple_getitem->Aq,get?_update_seq->Ap,callWith_builtin1->HS,boot_tuple->HR,boot_sorted->HQ,boot_isinstance->HP,boot_int->HN,boot_dict->HM,boot_bool->HL,boot_abs->HK,slicePart_none->Ao,boot_enumerate->An,tupleItemsOf_->Am,listUpdate_at->Al
open Bool renaming and_eq_true->aD,false_ne_true->b7,eq_iff_iff->qu,false_or->qo,and_true->qm,not_eq_true'->vc,or_eq_false_iff->Ak,or_eq_true->Aj,true_and->Ai
open PySem.EqNone renaming ne_str_none->HJ,ne_none_str->HI,ne_none_none->HH,ne_none_int->HG,ne_none_bool->HF,ne_int_none->HE,ne_bool_none->HD,eq_str_none->HC,eq_none_str->HB,eq_none_none->HA,eq_none_int->Hz,eq_none_bool->Hy,eq_int_none->Hx,eq_bool_none->Hw
open PySem.EqMixed renaming ne_str_int->Hv,ne_str_bool->Hu,ne_int_str->Ht,ne_bool_str->Hs,eq_str_int->Hr,eq_str_bool->Hq,eq_int_str->Ho,eq_bool_str->Hn
open PySem.Around renaming under->u_,under_plainId->Ah
open PySem.F renaming slot_dict_get->lO,slot_tuple_iterator_next->qk,plainAttrs_list->qj,slot_tuple_mul->qh,entry_dict_get->qg,slot_int_rmul->qf,args_tuple_add_2->u9,plainAttrs_dict->u7,entry_tuple_add->u6,slot_tuple_add->u5,slot_zip_getattribute->u4,slot_dict_setdefault->Ag,slot_tuple_index->Af,args_tuple_mul_2->Ae,slot_tuple_rmul->Ad,slot_list_index->Ac,entry_tuple_mul->z_,args_dict_get_3->z5,args_dict_get_2->z4,args_tuple_iterator_next_1->z3,type_dict_get->z0,entry_tuple_iterator_next->zZ,slot_list_extend->zY,slot_list_append->zX,slot_list_clear->zW,args_int_rmul_2->zV,slot_int_index->zU,entry_int_rmul->zT,fills_int_mul->zS,slot_zip_next->zR
open Int renaming emod_lt_of_pos->dR,emod_nonneg->dr,zero_add->dq,toNat_natCast->qe,toNat_of_nonneg->zQ,natCast_mul->zP,lt_irrefl->zO,le_of_lt->zN
open PySem.Builtin.Slice renaming slicePlaces->qd,sliceAdjust->u3,sliceApplied->zM,slicePartIndex->Hm,sliceFields->Hl
open PySem.Builtin.Tuple renaming tupleExact->qc,tupleItemsOf->zL,tupleTooMany->Hk
open PySem.Str renaming length->nl,ofString_eq_toList->zK
open PySem.Obj renaming mapSeq->kh,mapFields->zJ
open PySem.Builtin.List renaming listTooLong->p'
open PySem.PyData renaming strOk->aq,eqv->bz,eqvAll->hX,depth->p_,canLayAll0->u0,depthAll->uZ
open PySem.SeqAt renaming eqv_refl->p9,readOf->nj,shaped->zI
open PySem.AutoSeq1 renaming wpAny_loadPart'->uY,sub_tuple_tuple->zH,idx_int->zG
open List.cons renaming injEq->jx
open PySem.Heap.SameBut renaming update->ni
open PySem.Builtin.SmallTypes renaming nextOf->gA,ownedTupleIsFree->p7,ownedTupleHandOut->Hj
open PySem.Builtin.Dict renaming updateFrom->zF,selfAndRest->Hi,pairItems->Hh,addKeywords->Hg
open Classical renaming propDecidable->zE,choose_spec->zD
set_option Elab.async false
set_option linter.all false
set_option maxRecDepth 100000
set_option tactic.hygienic false
namespace L2
open PySem PySem.Spec PyProof.Rows
noncomputable abbrev bG:=Sum Int Str
noncomputable def uv:bG->Value->Bool
 | .inl k,v=>Value.isInt k v
 | .inr x,v=>Value.isStrOf x v
noncomputable def RG(w:World):bG->Int
 | .inl k=>hashInt k
 | .inr x=>hashStr w x
theorem dG:∀{k:bG}{v:Value},uv k v=true->(∃i t,k=Sum.inl i/\v=Value.int i t)\/(∃x t,k=Sum.inr x/\v=Value.str x t)
 | .inl i,v,h=>by obtain⟨t,e⟩:=Value.isInt_shape (k:=i) (v:=v) h;exact .inl ⟨i,t,rfl,e⟩
 | .inr x,v,h=>by obtain⟨t,e⟩:=Value.isStrOf_shape (x:=x) (v:=v) h;exact .inr ⟨x,t,rfl,e⟩
theorem Dh(i:Int)(t:Tok):uv (.inl i) (.int i t)=true:=by simp[uv,Value.isInt]
theorem Dg(x:Str)(t:Tok):uv (.inr x) (.str x t)=true:=by simp[uv,Value.isStrOf]
theorem Mm(a b:Int):decide ((Sum.inl a:bG)=Sum.inl b)=(a == b):=by
 by_cases e:a=b
 .subst e;simp
 .have h:¬(Sum.inl a:bG)=Sum.inl b:=λq=>e (w1 q);rw[cG h];exact(rJ.mpr e).symm
theorem Mi(a b:Str):decide ((Sum.inr a:bG)=Sum.inr b)=decide (a=b):=by
 by_cases e:a=b
 .subst e;simp
 .have h:¬(Sum.inr a:bG)=Sum.inr b:=λq=>e (ko q);rw[cG h,cG e]
theorem Ml(a:Int)(b:Str):decide ((Sum.inl a:bG)=Sum.inr b)=false:=cG (λq=>nomatch q)
theorem Mj(a:Str)(b:Int):decide ((Sum.inr a:bG)=Sum.inl b)=false:=cG (λq=>nomatch q)
def cJ(prog:Program)(w:World):PySem.KeyKind prog w bG where
 is:=uv
 hash:=RG w
 inj:=λv a b c f=>by
  rcases dG c with ⟨i,t,rfl,rfl⟩|⟨x,t,rfl,rfl⟩
  .rcases dG f with ⟨j,u,rfl,e⟩|⟨y,u,rfl,e⟩
   .injection e with s _;rw[s]
   .exact nomatch e
  .rcases dG f with ⟨j,u,rfl,e⟩|⟨y,u,rfl,e⟩
   .exact nomatch e
   .injection e with s _;rw[s]
 byValue:=λk v h=>by rcases dG h with ⟨i,t,rfl,rfl⟩|⟨x,t,rfl,rfl⟩<;>rfl
 pyHash:=λn h=>by
  rcases dG n with ⟨i,t,rfl,rfl⟩|⟨x,t,rfl,rfl⟩
  .exact wpAny_pyHash_int h
  .exact wpAny_pyHash_str h
 eqBool:=λm n h=>by
  rcases dG m with ⟨i,t,rfl,rfl⟩|⟨x,t,rfl,rfl⟩
  .rcases dG n with ⟨j,u,rfl,rfl⟩|⟨y,u,rfl,rfl⟩
   .rw [Mm]at h;exact D3 h
   .rw [Ml]at h;exact SeqAt.EqAt.int_str i t y u _ _ _ _ h
  .rcases dG n with ⟨j,u,rfl,rfl⟩|⟨y,u,rfl,rfl⟩
   .rw [Mj]at h;exact SeqAt.EqAt.str_int x t j u _ _ _ _ h
   .rw [Mi]at h;exact D4 h
 «strs»:=λk x t v h=>by
  rcases dG h with ⟨i,u,rfl,e⟩|⟨y,u,rfl,e⟩
  .exact nomatch e
  .injection e with s _;subst s;cases v<;>rfl
theorem xH(prog:Program)(w:World)(i:Int)(t:Tok):(cJ prog w).is (.inl i) (.int i t)=true:=Dh i t
theorem xG(prog:Program)(w:World)(x:Str)(t:Tok):(cJ prog w).is (.inr x) (.str x t)=true:=Dg x t
inductive V where
 |non|bl (b:Bool)|int (i:Int)|str (x:Str)|byt (b:Array UInt8)|flt (b:UInt64)|ref (a:Addr)|ty (n:String)
 deriving DecidableEq
def RelV:V->Value->Prop
 | .non,u=>u=Value.none
 | .bl b,u=>u=Value.bool b
 | .int i,u=>∃t,u=Value.int i t
 | .str x,u=>∃t,u=Value.str x t
 | .byt b,u=>∃t,u=Value.bytes b t
 | .flt b,u=>∃t,u=Value.float b t
 | .ref a,u=>u=Value.ref a
 | .ty n,u=>u=Value.type n
abbrev bc:List V->LV->Prop:=Paired RelV
variable{j:LV}
theorem bc.length(r:bc xs j):xs.length=j.length:=Paired.length r
theorem bc.get:∀{xs:List V}{j:LV}{i:Nat}{x:V},bc xs j->xs[i]? = some x->∃u,j[i]? = some u/\RelV x u
 |_,_,_,_,.nil,e=>by simp at e
 |_,_,0,_,.cons r _,e=>by simp at e;subst e;exact⟨_,rfl,r⟩
 |_,_,i+1,x,.cons _ t,e=>by obtain⟨u,h1,h2⟩:=bc.get (i:=i) (x:=x) t (by simpa using e);exact⟨u,by simpa using h1,h2⟩
variable{u:Value}
theorem bc.set(r:RelV x u):∀{xs:List V}{j:LV}(i:Nat),bc xs j->bc (xs.set i x) (j.set i u)
 |_,_,_,.nil=>.nil
 |_,_,0,.cons _ t=>.cons r t
 |_,_,i+1,.cons q t=>.cons q (bc.set r i t)
theorem bc.append:∀{xs ys:List V}{j w:LV},bc xs j->bc ys w->bc (xs++ys) (j++w)
 |_,_,_,_,.nil,s=>s
 |_,_,_,_,.cons r t,s=>.cons r (bc.append t s)
theorem bc.take:∀{xs:List V}{j:LV}(n:Nat),bc xs j->bc (xs.take n) (j.take n)
 |_,_,0,_=>.nil
 |_,_,_+1,.nil=>.nil
 |_,_,n+1,.cons r t=>.cons r (bc.take n t)
theorem bc.drop:∀{xs:List V}{j:LV}(n:Nat),bc xs j->bc (xs.drop n) (j.drop n)
 |_,_,0,r=>r
 |_,_,_+1,.nil=>.nil
 |_,_,n+1,.cons _ t=>bc.drop n t
def lf:Option V->OV->Prop
 |some v,some u=>RelV v u
 |none,none=>True
 |_,_=>False
def KV:List (κ×V)->List (κ×Value)->Prop:=Paired λ(p:κ×V)(q:κ×Value)=>p.1=q.1/\RelV p.2 q.2
noncomputable def kV:bG->V
 | .inl i=>.int i
 | .inr x=>.str x
def pk(h:Heap)(a:Addr)(i:Array Value):Prop:=∃o,h.get? a=some o/\(o.cls=.type "tuple"/\∃n,o.data=.seq i n)/\o.dict=none
variable{h:Heap}{a:Addr}
theorem pk.tup(x:pk h a q):IsTup h a q:=by obtain⟨o,e,c,_⟩:=x;exact⟨o,e,c⟩
theorem pk.lt(x:pk h a q):a < h.objs.size:=x.tup.lt
theorem pk.new(h:Heap)(i:Array Value):pk (h.push { cls:=.type "tuple",data:=.seq i }) h.objs.size i:=⟨_,db _ rfl,⟨rfl,_,rfl⟩,rfl⟩
inductive HO where
 |lst (xs:List V)
 |tup (xs:List V)
 |dK (kvs:List (bG×V))|dT (kvs:List (List bG×V))
 |set (S:Int->Bool) (n:Nat)
 |ins (C dx:Addr) (fs:List (Str×V))
 |own (x:Addr)
 |xd (fs:List (Str×V))
 |met (f x:Addr)
 |rng (lo hi:Int)
 |frz (o:Obj) (u:HO)
 |tbl (ps:Array Value)
 |ext (φ:Heap->Prop)
noncomputable abbrev Hp:=Addr->Option HO
noncomputable def cx(H:Hp)(a:Addr)(o:HO):Hp:=λb=>if b=a then some o else H b
variable{H:Hp}
theorem aU:cx H a o a=some o:=by unfold cx;rw[aj rfl]
variable{b:Addr}
theorem aw(h:b≠a):cx H a o b=H b:=by unfold cx;rw[al h]
theorem OT{H:Hp}{a b:Addr}{o u:HO}(h:H a=some o)(h':H b=some u)(d:o≠u):a≠b:=by intro e;subst e;rw[h]at h';exact d (eP h')
theorem br(h:H a=some o)(h':H b=none):a≠b:=by intro e;subst e;rw[h]at h';cases h'
section
variable(P:Program)(w:World)
def eB(H:Hp)(h:Heap)(a:Addr):HO->Prop
 | .lst xs=>xs.length≤sizeLine/\∃(its:LV)(n:Nat),bc xs its/\h.get? a=some { cls:=.type "list",data:=.seq its.toArray n }
 | .tup xs=>xs.length≤sizeLine/\∃its:LV,bc xs its/\pk h a its.toArray
 | .dK kvs=>kvs.length≤sizeLine/\(a == sysModules)=false/\∃vs,KV kvs vs/\h.DictOf (cJ P w) a vs
 | .dT kvs=>kvs.length≤sizeLine/\(a == sysModules)=false/\∃xs:List (List bG×Addr×Value),
   Paired (λ(p:List bG×V)(q:List bG×Addr×Value)=>p.1=q.1/\H q.2.1=some (.tup (p.1.map kV))/\RelV p.2 q.2.2) kvs xs /\
   ∃o es ep,h.get? a=some o/\o.ExactDict/\o.data=.dict es ep/\es.toList=xs.map (entryOfKey (tupleKind (cJ P w)))/\(xs.map (·.1)).Nodup
 | .set S n=>h.SetOf (intKind P w) a S n
 | .ins C dx fs=>H dx=some (.own a)/\fs.length≤1000/\dx≠a/\h.get? a=some (lj C dx) /\
   ∃mA,h.Ns1 dx mA/\(∀f,lf (fs.lookup f) (mA f))/\yx mA (fs.map (·.1))
 | .own _=>∃o,h.get? a=some o
 | .xd fs=>∃mA,h.Ns1 a mA/\∀f,lf (fs.lookup f) (mA f)
 | .rng lo hi=>∃t u v,h.get? a=some { cls:=.type "range",data:=.fields #[.int lo t,.int hi u,.int 1 v] }
 | .frz o u=>h.get? a=some o/\eB H h a u
 | .tbl ps=>h.get? a=some { cls:=.none,data:=.fields ps }
 | .met f x=>h.get? a=some (vI (.ref f) (.ref x))
 | .ext φ=>φ h/\(∃o,h.get? a=some o)/\∀h1 h2:Heap,φ h1->(∀o,h1.get? a=some o->h2.get? a=some o)->φ h2
def HOk(H:Hp)(h:Heap):Prop:=∀a o,H a=some o->eB P w H h a o
end
section
variable{P:Program}{w:World}{H H':Hp}{h h':Heap}{a:Addr}{o:HO}
theorem eB.lt(x:eB P w H h a o):a < h.objs.size:=by
 cases o with
 |lst xs=>obtain⟨_,_,_,_,e⟩:=x;exact aO e
 |tup xs=>obtain⟨_,_,_,p⟩:=x;exact p.lt
 |dK kvs=>obtain⟨_,_,_,_,o,_,_,e,_⟩:=x;exact aO e
 |dT kvs=>obtain⟨_,_,_,_,o,_,_,e,_⟩:=x;exact aO e
 |set S n=>obtain⟨o,_,_,_,e,_⟩:=x;exact aO e
 |ins C dx fs=>obtain⟨_,_,_,e,_⟩:=x;exact aO e
 |own y=>obtain⟨_,e⟩:=x;exact aO e
 |xd fs=>obtain⟨_,⟨_,_,_,e,_⟩,_⟩:=x;exact aO e
 |rng lo hi=>obtain⟨_,_,_,e⟩:=x;exact aO e
 |frz ob u=>obtain⟨e,_⟩:=x;exact aO e
 |tbl ps=>exact aO (show h.get? a=some _ from x)
 |met f y=>exact aO (show h.get? a=some _ from x)
 |ext φ=>obtain⟨_,⟨_,e⟩,_⟩:=x;exact aO e
theorem Paired.mapP:∀{l:List α}{h:List z},Paired F l h->(∀a b,F a b->q a b)->Paired q l h
 |_,_,.nil,_=>.nil
 |_,_,.cons r t,f=>.cons (f _ _ r) (Paired.mapP t f)
theorem eB.stay(x:eB P w H h a o)(k:∀b u,(b=a\/H b=some (.own a))->h.get? b=some u->h'.get? b=some u)
  (ho:∀b,H b=some (.own a)->H' b=some (.own a)) (ht:∀b xs,H b=some (.tup xs)->H' b=some (.tup xs)):eB P w H' h' a o:=by
 induction o with
 |lst xs=>obtain⟨z,its,n,r,e⟩:=x;exact⟨z,its,n,r,k _ _ (.inl rfl) e⟩
 |tup xs=>obtain⟨z,its,r,ob,e,c⟩:=x;exact⟨z,its,r,ob,k _ _ (.inl rfl) e,c⟩
 |dK kvs=>obtain⟨z,y,vs,r,ob,es,ep,e,c⟩:=x;exact⟨z,y,vs,r,ob,es,ep,k _ _ (.inl rfl) e,c⟩
 |dT kvs=>obtain⟨z,y,xs,r,ob,es,ep,e,c⟩:=x;exact⟨z,y,xs,Paired.mapP r λp q z=>⟨z.1,ht _ _ z.2.1,z.2.2⟩,ob,es,ep,k _ _ (.inl rfl) e,c⟩
 |set S n=>obtain⟨ob,es,ep,t,e,c⟩:=x;exact⟨ob,es,ep,t,k _ _ (.inl rfl) e,c⟩
 |ins C dx fs=>obtain⟨d,z,ne,e,mA,⟨od,es,ep,e2,c⟩,r⟩:=x;exact⟨ho _ d,z,ne,k _ _ (.inl rfl) e,mA,⟨od,es,ep,k _ _ (.inr d) e2,c⟩,r⟩
 |own y=>obtain⟨ob,e⟩:=x;exact⟨ob,k _ _ (.inl rfl) e⟩
 |xd fs=>obtain⟨mA,⟨od,es,ep,e,c⟩,r⟩:=x;exact⟨mA,⟨od,es,ep,k _ _ (.inl rfl) e,c⟩,r⟩
 |rng lo hi=>obtain⟨t,u,v,e⟩:=x;exact⟨t,u,v,k _ _ (.inl rfl) e⟩
 |frz ob u ih=>obtain⟨e,q⟩:=x;exact⟨k _ _ (.inl rfl) e,ih q⟩
 |tbl ps=>have e:h.get? a=some { cls:=.none,data:=.fields ps }:=x;show h'.get? a=some { cls:=.none,data:=.fields ps };exact k a _ (.inl rfl) e
 |met f y=>have e:h.get? a=some (vI (.ref f) (.ref y)):=x;show h'.get? a=some (vI (.ref f) (.ref y));exact k a _ (.inl rfl) e
 |ext φ=>obtain⟨p,⟨o,e⟩,st⟩:=x;exact⟨st _ _ p λo q=>k _ _ (.inl rfl) q,⟨o,k _ _ (.inl rfl) e⟩,st⟩
theorem HOk.lt(x:HOk P w H h)(e:H a=some o):a < h.objs.size:=(x a o e).lt
theorem HOk.fresh(x:HOk P w H h)(e:h.objs.size≤a):H a=none:=by
 cases q:H a with
 |none=>rfl
 |some u=>exact absurd (cq (x.lt q) e) (jA _)
theorem HOk.kept(x:HOk P w H h)(k:∀b u,h.get? b=some u->h'.get? b=some u):HOk P w H h':=λa o e=>
 (x a o e).stay (λb u _ q=>k b u q) (λ_ q=>q) λ_ _ q=>q
theorem HOk.laid(x:HOk P w H h)(k:∀b u,h.get? b=some u->h'.get? b=some u)(hp:h.objs.size≤a)(n:eB P w (cx H a o) h' a o):HOk P w (cx H a o) h':=λb u e=>by
 have f:=x.fresh hp;by_cases s:b=a
 .subst s;rw[aU]at e;cases e;exact n
 .rw [aw s]at e;exact(x b u e).stay (λc v _ q=>k c v q) (λc q=>by rw[aw (br q f)];exact q) λc xs q=>by rw[aw (br q f)];exact q
end
def Rd(H:Hp)(a:Addr)(u:HO):Prop:=H a=some u\/∃o,H a=some (.frz o u)
theorem Rd.ok{P:Program}{w:World}{H:Hp}{h:Heap}{a:Addr}{u:HO}(r:Rd H a u)(x:HOk P w H h):eB P w H h a u:=by
 rcases r with r|⟨o,r⟩
 .exact x a u r
 .obtain⟨_,q⟩:=x a _ r;exact q
def PQ:Option HO->Prop
 |some (.lst _)=>True
 |some (.dK _)=>True
 |some (.dT _)=>True
 |some (.set _ _)=>True
 |some (.ins _ _ _)=>True
 |some (.ext _)=>True
 |_=>False
section
variable{P:Program}{w:World}{H:Hp}{h h':Heap}{x e:Addr}{o':HO}
theorem HOk.write(ok:HOk P w H h)(m:PQ (H x))(d:e=x\/H e=some (.own x))(k:∀b u,b≠e->h.get? b=some u->h'.get? b=some u)(o:∃u,h'.get? e=some u)
  (p:eB P w (cx H x o') h' x o'):HOk P w (cx H x o') h':=λb u q=>by
 have n:∀c y,H c=some (.own y)->c≠x:=λc y r z=>by subst z;rw[r]at m;exact m
 have t:∀c xs,H c=some (.tup xs)->c≠x:=λc xs r z=>by subst z;rw[r]at m;exact m
 by_cases s:b=x
 .subst s;rw[aU]at q;cases q;exact p
 .rw [aw s]at q;by_cases a:b=e
  .have g:H b=some (.own x):=by
    rcases d with z|z
    .exact absurd (a.trans z) s
    .rw [a];exact z
   rw[q]at g;cases g;obtain⟨v,i⟩:=o;exact⟨v,by rw[a];exact i⟩
  .refine (ok b u q).stay (λc v f r=>k c v ?_ r) (λc r=>by rw[aw (n c b r)];exact r) λc xs r=>by rw[aw (t c xs r)];exact r
   rcases f with rfl|f
   .exact a
   .rintro rfl;rcases d with z|z
    .exact n c b f z
    .rw [f]at z;cases z;exact s rfl
end
structure Un(fs ex:List Addr)(H H':Hp)(h h':Heap):Prop where
 keep:∀b o,h.get? b=some o->H b=none->b ∉ fs->b ∉ ex->h'.get? b=some o
 slot:∀b o,h.get? b=some o->H b=none->b ∈ fs->b ∉ ex->∃sl,h'.get? b=some { o with slots:=sl }
 free:∀b o,h.get? b=some o->H b=none->b ∉ ex->H' b=none
 there:∀b o,h.get? b=some o->b ∉ ex->∃o',h'.get? b=some o'
 tups:∀b xs,H b=some (.tup xs)->H' b=some (.tup xs)
 frzs:∀b o u,H b=some (.frz o u)->H' b=some (.frz o u)
 tbls:∀b ps,H b=some (.tbl ps)->∃more,H' b=some (.tbl (ps++more))
section
variable{fs fs' ex ex':List Addr}{H G H2:Hp}{h h1 h2 h':Heap}{a x e:Addr}{o:HO}
theorem Un.any(u:Un fs ex H G h h1)(q:h.get? b=some z)(n:H b=none)(a:b ∉ ex):∃s,h1.get? b=some { z with slots:=s }:=by
 by_cases x:b ∈ fs
 .exact u.slot b z q n x a
 .exact⟨z.slots,u.keep b z q n x a⟩
theorem Un.kept(k:∀b u,h.get? b=some u->h'.get? b=some u):Un fs ex H H h h':=
 ⟨λb o q _ _ _=>k b o q,λb o q _ _ _=>⟨o.slots,k b o q⟩,λ_ _ _ n _=>n,λb o q _=>⟨o,k b o q⟩,λ_ _ q=>q,λ_ _ _ q=>q,λ_ ps q=>⟨#[],by rw[q];simp⟩⟩
theorem Un.refl:Un fs ex H H h h:=Un.kept λ_ _ q=>q
theorem Un.laid(k:∀b u,h.get? b=some u->h'.get? b=some u)(hp:h.objs.size≤a)(x:H a=none):Un fs ex H (cx H a o) h h' where
 keep:=λb u q _ _ _=>k b u q
 slot:=λb u q _ _ _=>⟨u.slots,k b u q⟩
 free:=λb u q n _=>by rw[aw (bB (cq (aO q) hp))];exact n
 there:=λb u q _=>⟨u,k b u q⟩
 tups:=λb xs q=>by rw[aw (br q x)];exact q
 frzs:=λb u xs q=>by rw[aw (br q x)];exact q
 tbls:=λb ps q=>⟨#[],by rw[aw (br q x),q];simp⟩
theorem Un.write(m:PQ (H x))(p:e=x\/H e=some (.own x))(k:∀b u,b≠e->h.get? b=some u->h'.get? b=some u)(s:∃u,h'.get? e=some u):Un fs ex H (cx H x o) h h':=by
 have t:∀b,H b=none->b≠x:=λb n z=>by subst z;rw[n]at m;exact m
 have c:∀b,H b=none->b≠e:=λb n z=>by
  subst z;rcases p with r|r
  .exact t b n r
  .rw [n]at r;cases r
 have f:∀b u,H b=some u->¬PQ (some u)->b≠x:=λb u q nm z=>by subst z;rw[q]at m;exact nm m
 refine⟨fun b u q n _ _=>k b u (c b n) q,fun b u q n _ _=>⟨u.slots,k b u (c b n) q⟩,fun b u q n _=>by rw [aw (t b n)];exact n,fun b u q _=>?_,
  λb xs q=>by rw[aw (f b _ q λz=>z)];exact q,λb u xs q=>by rw[aw (f b _ q λz=>z)];exact q,λb ps q=>⟨#[],by rw[aw (f b _ q λz=>z),q];simp⟩⟩
 by_cases a:b=e
 .subst a;exact s
 .exact⟨u,k b u a q⟩
end
noncomputable def trk(h:Heap)(H:Hp):List Addr:=(List.range h.objs.size).filter λa=>(H a).isSome
def wz(h:Heap)(H:Hp):Heap:=PySem.W.hideAll h (trk h H)
theorem Dm(h:Heap)(H:Hp):(wz h H).objs.size=h.objs.size:=PySem.W.hideAll_size _ _
variable{o:Obj}
theorem Gf(e:h.get? b=some o)(n:H b=none):(wz h H).get? b=some o:=
 PySem.W.hideAll_get _ e λm=>by have q:(H b).isSome=true:=(eR.mp m).2;rw[n]at q;simp at q
theorem Ja(e:(wz h H).get? b=some o):h.get? b=some o/\H b=none:=by
 have a:h.get? b=some o:=PySem.W.of_hideAll (trk h H) e;refine⟨a,?_⟩;cases q:H b with
 |none=>rfl
 |some x=>have m:b ∈ trk h H:=eR.mpr ⟨lQ.mpr (aO a),by simp[q]⟩;have z:(wz h H).get? b=none:=PySem.W.hideAll_none (trk h H) m;rw[z]at e;cases e
noncomputable def oE(g h:Heap)(L:Addr):PN:=(List.range h.objs.size).filterMap λa=>if a=L\/(g.get? a).isSome=true then none else (h.get? a).map λo=>(a,o)
variable{g:Heap}{L:Addr}
theorem xI(h1:a≠L)(h2:g.get? a=none)(x:h.get? a=some o):(a,o) ∈ oE g h L:=
 nC.mpr ⟨a,lQ.mpr (aO x),by simp[h1,h2,x]⟩
set_option tactic.hygienic true in
theorem sC(hp:p ∈ oE g h L):p.1≠L/\g.get? p.1=none/\h.get? p.1=some p.2:=by
 obtain⟨b,_,e⟩:=nC.mp hp;split at e
 .cases e
 .rename_i n;cases q:h.get? b with
  |none=>rw[q]at e;simp at e
  |some u=>
   rw[q]at e;simp only[qx,KA]at e;subst e;refine⟨λz=>n (.inl z),?_,q⟩;show g.get? b=none;cases r:g.get? b with
   |none=>rfl
   |some v=>exact(n (.inr (by simp[r]))).elim
theorem FF:News g L h (oE g h L):=λp hp=>let ⟨a,b,c⟩:=sC hp;⟨c,a,b⟩
structure Mod(K:FG)(mg:SV)(base:Heap):Prop where
 kin:K.In base
 glob:base.Ns mainGlobals mg
 blt:∃mb,base.Ns builtinsNs mb/\∀x:Str,x≠"__name__"->mb x=bootBuiltins x
 nolimit:base.NoLimit
structure Cx where
 p:Program
 w:World
 K:FG
 g:SV
 b:Heap
 A:Around
 N:LS
 z:Shared
 y:Hp
 e:Env
 o:List Env
 k:List Env
 ex:List Addr
 fn:Str->Bool
 c:Bool
 pn:PN
 xe:VP
noncomputable def Gk(l:List Env):List Addr:=l.filterMap (·.frame)
abbrev Cx.fs(X:Cx):List Addr:=Gk X.o
def Nv(sc:Scope)(x:Str):Prop:=sc.names.lookup x=some .local\/sc.names.lookup x=some .cell\/sc.names.lookup x=some .free
def Loc(sc:Scope)(x:Str):Prop:=sc.names.lookup x=some .local\/sc.names.lookup x=some .cell
def Look(e:Env)(h:Heap)(m:SV)(x:Str)(u:Value):Prop:=
 (e.kindOf x=some .local/\m x=some u)\/((e.kindOf x=some .cell\/e.kindOf x=some .free)/\∃c,e.cells.lookup x=some c/\h.IsCell c (some u))
structure Cx.Ok(X:Cx):Prop where
 mod:Mod X.K X.g X.b
 kind:X.e.scope.kind=.function
 glob:X.e.globals=mainGlobals
 blt:X.e.builtins=builtinsNs
 above:X.z.heap.objs.size≤X.e.locals
 inj:∀x y c,X.e.cells.lookup x=some c->X.e.cells.lookup y=some c->x=y
 has:∀x,(X.e.kindOf x=some .cell\/X.e.kindOf x=some .free)->∃c,X.e.cells.lookup x=some c
 cab:∀x c,X.fn x=true->X.e.cells.lookup x=some c->X.z.heap.objs.size≤c
 hd:X.c=true->X.A.handled=none
 frames:X.A.frames=some X.k
 stk:X.k=X.o\/(X.k=X.e::X.o/\X.e.frame=some X.e.locals)
 exf:∀b ∈ X.ex,b≠X.e.locals/\∀x c,X.e.cells.lookup x=some c->c≠b
 bs:∀b o,X.b.get? b=some o->X.z.heap.get? b=some o/\X.y b=none
 bsz:X.b.objs.size≤X.z.heap.objs.size
 noex:∀b o,X.b.get? b=some o->b ∉ X.ex
 exfs:∀b ∈ X.ex,b ∉ X.fs
 funs:X.z.heap.FunFrames X.b X.o
 frf:∀b ∈ X.fs,X.y b=none
structure Inv(X:Cx)(pins:PN)(J:List (Option V))(H:Hp)(s:Shared):Prop where
 o:X.Ok
 os:s.os=X.z.os
 bare:AllBare s.gens
 base:Un X.fs X.ex X.y H X.z.heap s.heap
 loc:∃m,s.heap.Ns X.e.locals m/\∀(i:Nat)(x:Str)(v:V),X.N[i]? = some x->J[i]? = some (some v)->Nv X.e.scope x->∃u,RelV v u/\Look X.e s.heap m x u
 cell:∀x c,X.e.cells.lookup x=some c->∃v,s.heap.IsCell c v
 free:H X.e.locals=none
 freeC:∀x c,X.e.cells.lookup x=some c->H c=none
 pin:∀p ∈ X.pn++pins,s.heap.get? p.1=some p.2/\H p.1=none/\p.1≠X.e.locals/\p.1 ∉ X.fs/\∀v,p.2.data≠.cell v
 h:HOk X.p X.w H s.heap
 len:J.length=X.N.length
section
variable{X:Cx}{pins:PN}{J:List (Option V)}{H H':Hp}{s:Shared}{h':Heap}
theorem Cx.Ok.nofr(ok:X.Ok)(e:X.b.get? b=some o):b ∉ X.fs:=λh=>by have:=(ok.funs.mem h).1;rw[e]at this;cases this
theorem Inv.bs(I:Inv X pins J H s):∀b o,X.b.get? b=some o->s.heap.get? b=some o/\H b=none:=λb o e=>
 ⟨I.base.keep b o (I.o.bs b o e).1 (I.o.bs b o e).2 (I.o.nofr e) (I.o.noex b o e),I.base.free b o (I.o.bs b o e).1 (I.o.bs b o e).2 (I.o.noex b o e)⟩
theorem Inv.bk(I:Inv X pins J H s):∀b o,X.b.get? b=some o->s.heap.get? b=some o:=λb o e=>(I.bs b o e).1
theorem Inv.mod(I:Inv X pins J H s):Mod X.K X.g X.b:=I.o.mod
theorem Inv.kIn(I:Inv X pins J H s):X.K.In s.heap:=I.o.mod.kin.keeps I.bk
theorem Inv.fr(I:Inv X pins J H s):∃m,Fr X.b X.e.locals s.heap m:=
 let ⟨m,h,_⟩:=I.loc
 ⟨m,h,I.bk,aF I.o.bsz I.o.above⟩
theorem Inv.lt(I:Inv X pins J H s):X.e.locals < s.heap.objs.size:=let ⟨_,h,_⟩:=I.loc;h.lt
theorem Inv.sz(I:Inv X pins J H s):X.z.heap.objs.size≤s.heap.objs.size:=aF I.o.above (iY I.lt)
theorem Inv.nofs(I:Inv X pins J H s)(h:s.heap.objs.size≤a):a ∉ X.fs:=λb=>by obtain⟨_,o,x,_⟩:=I.o.funs.mem b;exact absurd (cq (aO x) (aF I.sz h)) (jA _)
theorem Inv.cne(I:Inv X pins J H s):∀x c,X.e.cells.lookup x=some c->c≠X.e.locals:=λx c e z=>by obtain⟨v,o,n,hd⟩:=I.cell x c e;obtain⟨m,⟨o',es,p,a,h,_⟩,_⟩:=I.loc;rw[z,a]at n;cases n;rw[h]at hd;cases hd
theorem Inv.funs(I:Inv X pins J H s):s.heap.FunFrames X.b X.o:=by
 have all:∀(l:List Env),(∀b ∈ Gk l,b ∈ X.fs)->X.z.heap.FunFrames X.b l->s.heap.FunFrames X.b l:=by
  intro l;induction l with
  |nil=>intro _ _;trivial
  |cons n r i=>
   intro a c;obtain⟨k,⟨L,o,f,m,t,hd⟩,p⟩:=c;have h:L ∈ X.fs:=a L (by unfold Gk;rw[lU,f];exact ar);obtain⟨q,e⟩:=I.base.slot L o t (I.o.frf L h) h λz=>I.o.exfs L z h
   exact⟨k,⟨L,_,f,m,e,hd⟩,i (λb x=>a b (by unfold Gk;rw[lU,f];exact ao _ x)) p⟩
 exact all X.o (λ_ x=>x) I.o.funs
theorem Inv.stack(I:Inv X pins J H s):s.heap.FunFrames X.b X.k:=by
 rcases I.o.stk with e|⟨e,h⟩
 .rw [e];exact I.funs
 .rw [e];obtain⟨m,n,_⟩:=I.loc;refine .cons (by rw[I.o.kind];decide) h n ?_ I.funs;exact Heap.get?_none_of_le (aF I.o.bsz I.o.above)
theorem Inv.stkSub(I:Inv X pins J H s):∀b ∈ Gk X.k,b ∈ X.e.locals::X.fs:=λb h=>by
 rcases I.o.stk with e|⟨e,f⟩
 .rw [e]at h;exact ao _ h
 .rw [e]at h;unfold Gk at h;rw[lU,f]at h;exact h
theorem Inv.stkFree(I:Inv X pins J H s):∀b ∈ Gk X.k,H b=none:=λb h=>by
 rcases aW.mp (I.stkSub b h) with e|h
 .rw [e];exact I.free
 .obtain⟨_,o,x,_⟩:=I.o.funs.mem h;exact I.base.free b o x (I.o.frf b h) λz=>I.o.exfs b z h
theorem Inv.step{g':Array GenState}{t':Nat}{d':Drawn}{ch:List Addr}(I:Inv X pins J H s)
  (a:∀b ∈ ch,(b ∈ X.ex\/X.z.heap.objs.size≤b)/\b≠X.e.locals/\(∀x c,X.e.cells.lookup x=some c->c≠b)/\∀p ∈ X.pn++pins,p.1≠b)
  (t:∀b o,b≠X.e.locals->b ∉ X.fs->b ∉ ch->s.heap.get? b=some o->H b=none->h'.get? b=some o)
  (slot:∀b o,b≠X.e.locals->b ∈ X.fs->b ∉ ch->s.heap.get? b=some o->H b=none->∃E,h'.get? b=some { o with slots:=E }) (f:∀b o,b ∉ ch->s.heap.get? b=some o->H b=none->H' b=none)
  (y:∀b o,b ∉ ch->s.heap.get? b=some o->∃o',h'.get? b=some o')
  (B:∀b xs,H b=some (.tup xs)->H' b=some (.tup xs)) (P:∀b o u,H b=some (.frz o u)->H' b=some (.frz o u)) (A:∀b ps,H b=some (.tbl ps)->∃more,H' b=some (.tbl (ps++more)))
  (ns:∀m,s.heap.Ns X.e.locals m->h'.Ns X.e.locals m) (D:HOk X.p X.w H' h') (T:AllBare g') :
  Inv X pins J H' { s with heap:=h',gens:=g',drawn:=d',toks:=t' }:=by
 have L:∀b o,X.z.heap.get? b=some o->b≠X.e.locals:=λb o e=>bB (cq (aO e) I.o.above);have C:∀b o,X.z.heap.get? b=some o->b ∉ X.ex->b ∉ ch:=λb o e h j=>by
  rcases(a b j).1 with z|z
  .exact h z
  .exact absurd (cq (aO e) z) (jA _)
 have K:∀x c,X.e.cells.lookup x=some c->∀v,s.heap.IsCell c v->h'.IsCell c v:=λx c e v Z=>by
  obtain⟨o,S,hd⟩:=Z;have w:c ∉ ch:=λz=>(a c z).2.2.1 x c e rfl;by_cases M:c ∈ X.fs
  .obtain⟨E,q⟩:=slot c o (I.cne x c e) M w S (I.freeC x c e);exact⟨_,q,hd⟩
  .exact⟨o,t c o (I.cne x c e) M w S (I.freeC x c e),hd⟩
 refine⟨I.o,I.os,T,⟨λb o e n j h=>?_,λb o e n j h=>?_,λb o e n h=>?_,λb o e h=>?_,λb xs e=>B b xs (I.base.tups b xs e),λb o xs e=>P b o xs (I.base.frzs b o xs e),λb ps e=>?_⟩,?_,λx c e=>?_,?_,λx c e=>?_,λp hp=>?_,D,I.len⟩
 .exact t b o (L b o e) j (C b o e h) (I.base.keep b o e n j h) (I.base.free b o e n h)
 .obtain⟨E,g⟩:=I.base.slot b o e n j h;obtain⟨G,F⟩:=slot b _ (L b o e) j (C b o e h) g (I.base.free b o e n h);exact⟨G,F⟩
 .obtain⟨o',g⟩:=I.base.there b o e h;exact f b o' (C b o e h) g (I.base.free b o e n h)
 .obtain⟨o',g⟩:=I.base.there b o e h;exact y b o' (C b o e h) g
 .obtain⟨m1,g⟩:=I.base.tbls b ps e;obtain⟨m2,F⟩:=A b _ g;exact⟨m1++m2,by rw[F,Array.append_assoc]⟩
 .obtain⟨m,W,V⟩:=I.loc;refine⟨m,ns m W,λi x v g F R=>?_⟩;obtain⟨u,r,l⟩:=V i x v g F R;refine⟨u,r,?_⟩;rcases l with l|⟨k,c,e,z⟩
  .exact .inl l
  .exact .inr ⟨k,c,e,K x c e _ z⟩
 .obtain⟨v,z⟩:=I.cell x c e;exact⟨v,K x c e v z⟩
 .obtain⟨m,⟨o,_,_,S,_⟩,_⟩:=I.loc;exact f _ o (λz=>(a _ z).2.1 rfl) S I.free
 .obtain⟨v,o,S,hd⟩:=I.cell x c e;exact f c o (λz=>(a c z).2.2.1 x c e rfl) S (I.freeC x c e)
 .obtain⟨e,n,N,Q,d⟩:=I.pin p hp;have w:p.1 ∉ ch:=λz=>(a p.1 z).2.2.2 p hp rfl;exact⟨t p.1 p.2 N Q w e n,f p.1 p.2 w e n,N,Q,d⟩
theorem Inv.un{t':Nat}(I:Inv X pins J H s)(u:Un X.fs [] H H' s.heap h')(k:HOk X.p X.w H' h'):Inv X pins J H' { s with heap:=h',toks:=t' }:=by
 obtain⟨m,⟨o,es,q,f,r⟩,_⟩:=id I.loc;obtain⟨l,L⟩:=u.any f I.free (by simp);exact I.step (g':=s.gens) (d':=s.drawn) (ch:=[]) (λ_ z=>nomatch z) (λb o _ a _ e n=>u.keep b o e n a (by simp)) (λb o _ a _ e n=>u.slot b o e n a (by simp)) (λb o _ e n=>u.free b o e n (by simp)) (λb o _ e=>u.there b o e (by simp)) u.tups u.frzs u.tbls (λv c=>by obtain⟨o',x,p,h,t⟩:=c;rw[f]at h;cases h;exact⟨_,x,p,L,t⟩) k I.bare
theorem Inv.call{g':Array GenState}{t':Nat}{d':Drawn}{ch:List Addr}(I:Inv X pins J H s)(u:Un (Gk X.k) ch H H' s.heap h')(q:HOk X.p X.w H' h')(g:AllBare g')
  (a:∀b ∈ ch,(b ∈ X.ex\/X.z.heap.objs.size≤b)/\b≠X.e.locals/\(∀x c,X.e.cells.lookup x=some c->c≠b)/\∀p ∈ X.pn++pins,p.1≠b) :
  Inv X pins J H' { s with heap:=h',gens:=g',drawn:=d',toks:=t' }:=by
 obtain⟨m,⟨o,es,j,v,r⟩,_⟩:=id I.loc;obtain⟨y,L⟩:=u.any v I.free λz=>(a _ z).2.1 rfl;exact I.step (ch:=ch) a (λb o L d h e n=>u.keep b o e n (λz=>(aW.mp (I.stkSub b z)).elim L d) h) (λb o _ _ h e n=>u.any e n h) (λb o h e n=>u.free b o e n h) (λb o h e=>u.there b o e h) u.tups u.frzs u.tbls (λl w=>by obtain⟨o',t,f,k,i⟩:=w;rw[v]at k;cases k;exact⟨_,t,f,L,i⟩) q g
theorem Inv.turned{t':Nat}{i:Addr}(I:Inv X pins J H s)(k:∀b o,b≠i->s.heap.get? b=some o->h'.get? b=some o)(g:H i=none)(L:i≠X.e.locals)
  (h1:i ∈ X.ex\/X.z.heap.objs.size≤i) (h2:∀x c,X.e.cells.lookup x=some c->c≠i) (f:∀p ∈ X.pn++pins,p.1≠i):Inv X pins J H { s with heap:=h',toks:=t' }:=by
 have t:∀b u,H b=some u->b≠i:=λb u e z=>by rw[z,g]at e;cases e
 refine I.step (g':=s.gens) (d':=s.drawn) (ch:=[i]) (λb d=>?_) (λb o _ _ h e _=>k b o (λz=>h (by simp[z])) e) (λb o _ _ h e _=>⟨o.slots,k b o (λz=>h (by simp[z])) e⟩) (λ_ _ _ _ n=>n)
  (λb o h e=>⟨o,k b o (λz=>h (by simp[z])) e⟩) (λ_ _ e=>e) (λ_ _ _ e=>e) (λb ps e=>⟨#[],by rw[e];simp⟩) (λm w=>?_) (λb u e=>?_) I.bare
 .have e:b=i:=by simpa using d
  subst e;exact⟨h1,L,h2,f⟩
 .obtain⟨o,es,a,j,r⟩:=w;exact⟨o,es,a,k _ o (aQ L) j,r⟩
 .refine (I.h b u e).stay (λc v h q=>k c v ?_ q) (λ_ q=>q) λ_ _ q=>q;rcases h with z|z
  .rw [z];exact t b u e
  .exact t c _ z
theorem Inv.tok(I:Inv X pins J H s)(t:Nat):Inv X pins J H { s with toks:=t }:=I.un (h':=s.heap) (t':=t) Un.refl I.h
theorem Inv.kept{t':Nat}(I:Inv X pins J H s)(k:∀b u,s.heap.get? b=some u->h'.get? b=some u):Inv X pins J H { s with heap:=h',toks:=t' }:=I.un (Un.kept k) (I.h.kept k)
theorem Inv.laid{a:Addr}{o:HO}{t':Nat}(I:Inv X pins J H s)(k:∀b u,s.heap.get? b=some u->h'.get? b=some u)(hp:s.heap.objs.size≤a)(n:eB X.p X.w (cx H a o) h' a o) :
  Inv X pins J (cx H a o) { s with heap:=h',toks:=t' }:=I.un (Un.laid k hp (I.h.fresh hp)) (I.h.laid k hp n)
theorem Inv.write{x e:Addr}{o:HO}{t:Nat}(I:Inv X pins J H s)(m:PQ (H x))(a:e=x\/H e=some (.own x))(k:∀b u,b≠e->s.heap.get? b=some u->h'.get? b=some u)(h:∃u,h'.get? e=some u)
  (n:eB X.p X.w (cx H x o) h' x o):Inv X pins J (cx H x o) { s with heap:=h',toks:=t }:=I.un (Un.write m a k h) (I.h.write m a k h n)
theorem Inv.pins_of(I:Inv X pins J H s)(h:∀p ∈ q,s.heap.get? p.1=some p.2/\H p.1=none/\p.1≠X.e.locals/\p.1 ∉ X.fs/\∀v,p.2.data≠.cell v):Inv X q J H s:=
 ⟨I.o,I.os,I.bare,I.base,I.loc,I.cell,I.free,I.freeC,λp hp=>(b9.mp hp).elim (λz=>I.pin p (lV _ z)) (h p),I.h,I.len⟩
theorem xD{N:LS}(s:N.Nodup){i j:Nat}{x:Str}(a:N[i]? = some x)(b:N[j]? = some x):i=j:=by obtain⟨h1,e⟩:=bL.mp a;obtain⟨h2,h⟩:=bL.mp b;exact(List.getElem_inj s).mp (e.trans h.symm)
theorem ui{M:Model}{A:Around}{E:VP}{i:Nat}{x:Str}{v:V}{u:Value}{Q:Unit->Shared->Prop}(I:Inv X pins J H s)(hN:X.N.Nodup)(hi:X.N[i]? = some x)(l:Loc X.e.scope x)(r:RelV v u)
  (h:∀s',Inv X pins (J.set i (some v)) H s'->(∃a,gx a s.heap s'.heap/\(a=X.e.locals\/X.e.cells.lookup x=some a))->Q () s') (hf:X.fn x=true\/X.e.scope.names.lookup x=some .local:=by first|exact .inl rfl|exact .inr rfl|assumption):wpAny M A (storeName X.e x u) Q E s:=by
 obtain⟨m,hn,hl⟩:=id I.loc;have N:(X.e.scope.kind == .class ||(X.e.scope.kind == .module && X.e.locals != X.e.globals))=false:=by rw[I.o.kind];rfl
 have R:i < J.length:=by rw[I.len];exact(bL.mp hi).1
 have P:=I.cne;have w:∀{a:Addr}{h':Heap},(∃o,s.heap.get? a=some o/\H a=none)->gx a s.heap h'->HOk X.p X.w H h':=λ{a h'} ha f b ob e=>by
  obtain⟨_,_,S⟩:=ha;refine(I.h b ob e).stay (λc w' g q=>(f.2 c ?_).trans q) (λ_ q=>q) λ_ _ q=>q;rintro rfl;rcases g with rfl|g
  .rw [S]at e;cases e
  .rw [S]at g;cases g
 rcases l with K|K
 .refine wpAny_storeName_local K hn (λh' hn' f=>?_) N;obtain⟨oL,_,_,hoL,_⟩:=id hn;refine h _ ⟨I.o,I.os,I.bare,⟨λb o e n B l=>?_,λb o e n B l=>?_,I.base.free,λb o e l=>?_,I.base.tups,I.base.frzs,I.base.tbls⟩,⟨_,hn',λj y v' t F e3=>?_⟩,λy c e=>?_,I.free,I.freeC,λp hp=>?_,w ⟨oL,hoL,I.free⟩ f,by simpa using I.len⟩ ⟨_,f,.inl rfl⟩
  .exact (f.2 b (bB (cq (aO e) I.o.above))).trans (I.base.keep b o e n B l)
  .obtain⟨sl,t⟩:=I.base.slot b o e n B l;exact⟨sl,(f.2 b (bB (cq (aO e) I.o.above))).trans t⟩
  .obtain⟨o',t⟩:=I.base.there b o e l;exact⟨o',(f.2 b (bB (cq (aO e) I.o.above))).trans t⟩
  .by_cases D:j=i
   .subst D;rw[hi]at t;cases t;rw[cc R]at F;cases F;exact⟨u,r,.inl ⟨K,by simp⟩⟩
   .rw [aG (aQ D)]at F;obtain⟨u',r',q⟩:=hl j y v' t F e3;refine⟨u',r',?_⟩;rcases q with ⟨k,e⟩|⟨k,c,e,z⟩
    .refine .inl ⟨k,?_⟩;have:y≠x:=λe=>D (xD hN t (e ▸ hi));simp[this,e]
    .exact .inr ⟨k,c,e,z.sameBut f (P y c e)⟩
  .obtain⟨w',z⟩:=I.cell y c e;exact⟨w',z.sameBut f (P y c e)⟩
  .obtain⟨e,n,ne,nf,d⟩:=I.pin p hp;exact⟨(f.2 p.1 ne).trans e,n,ne,nf,d⟩
 .have C:X.fn x=true:=by
   rcases hf with z|z
   .exact z
   .rw [z]at K;cases K
  obtain⟨c,g⟩:=I.o.has x (.inl K);obtain⟨w',z⟩:=I.cell x c g;refine wpAny_storeName_cell I.o.kind K g z (λh' G f=>?_);obtain⟨oc,T,W⟩:=id z;refine h { s with heap:=h' } ⟨I.o,I.os,I.bare,⟨λb o e n B l=>?_,λb o e n B l=>?_,I.base.free,λb o e l=>?_,I.base.tups,I.base.frzs,I.base.tbls⟩,⟨m,hn.sameBut f (aQ (P x c g)),λj y v' t F e3=>?_⟩,λy Z e=>?_,I.free,I.freeC,λp hp=>?_,w ⟨oc,T,I.freeC x c g⟩ f,by simpa using I.len⟩ ⟨c,f,.inr g⟩
  .exact (f.2 b (bB (cq (aO e) (I.o.cab x c C g)))).trans (I.base.keep b o e n B l)
  .obtain⟨sl,t⟩:=I.base.slot b o e n B l;exact⟨sl,(f.2 b (bB (cq (aO e) (I.o.cab x c C g)))).trans t⟩
  .obtain⟨o',t⟩:=I.base.there b o e l;exact⟨o',(f.2 b (bB (cq (aO e) (I.o.cab x c C g)))).trans t⟩
  .by_cases D:j=i
   .subst D;rw[hi]at t;cases t;rw[cc R]at F;cases F;exact⟨u,r,.inr ⟨.inl K,c,g,G⟩⟩
   .rw [aG (aQ D)]at F;obtain⟨u',r',q⟩:=hl j y v' t F e3;refine⟨u',r',?_⟩;rcases q with q|⟨k,Z,e,z'⟩
    .exact .inl q
    .refine .inr ⟨k,Z,e,z'.sameBut f ?_⟩;rintro rfl;exact D (xD hN t (I.o.inj _ _ _ e g ▸ hi))
  .by_cases L:Z=c
   .subst L;exact⟨_,G⟩
   .obtain⟨w2,z2⟩:=I.cell y Z e;exact⟨w2,z2.sameBut f L⟩
  .obtain⟨e,n,ne,nf,d⟩:=I.pin p hp;refine⟨(f.2 p.1 ?_).trans e,n,ne,nf,d⟩;intro q;rw[q,T]at e;have q':oc=p.2:=eP e;exact d w' (by rw[<- q'];exact W)
theorem xj(I:Inv X pins J H s)(N:X.N.Nodup)(hi:X.N[i]? = some x)(e:Loc X.e.scope x)(r:RelV v u)
  (h:∀s',Inv X pins (J.set i (some v)) H s'->Q () s') (f:X.fn x=true\/X.e.scope.names.lookup x=some .local:=by first|exact .inl rfl|exact .inr rfl|assumption):wpAny M A (storeName X.e x u) Q E s:=
 ui I N hi e r (λs' a _=>h s' a) f
theorem Inv.call'(I:Inv X pins J H s)(n:s'.os=s.os)(u:Un (Gk X.k) q H H' s.heap s'.heap)(o:HOk X.p X.w H' s'.heap)(a:AllBare s'.gens)
  (h:∀b ∈ q,(b ∈ X.ex\/X.z.heap.objs.size≤b)/\b≠X.e.locals/\(∀x c,X.e.cells.lookup x=some c->c≠b)/\∀p ∈ X.pn++pins,p.1≠b):Inv X pins J H' s':=by
 obtain⟨h',g,d,t,o'⟩:=s';have e:o'=s.os:=n;subst e;exact I.call (g':=g) (t':=t) (d':=d) u o a h
end
noncomputable abbrev XK:=Value->Option Addr->Hp->Prop
noncomputable abbrev St:=List (Option V)
noncomputable abbrev VK:=V->Hp->Prop
noncomputable abbrev TE:=St->Hp->VK->Prop
noncomputable abbrev TT:=St->Hp->(Bool->Hp->Prop)->Prop
noncomputable abbrev TA:=St->Hp->(List V->Hp->Prop)->Prop
structure Ends where
 nx:St->Hp->Prop
 rt:VK
 bk:St->Hp->Prop:=λ_ _=>False
 ct:St->Hp->Prop:=λ_ _=>False
noncomputable abbrev TS:=Ends->St->Hp->Prop
def EP(X:Cx)(pins:PN)(J:St)(Q:VK)(u:Value)(s':Shared):Prop:=∃v H',Inv X pins J H' s'/\RelV v u/\Q v H'
def TP(X:Cx)(pins:PN)(J:St)(Q:Bool->Hp->Prop)(b:Bool)(s':Shared):Prop:=∃H',Inv X pins J H' s'/\Q b H'
def AP(X:Cx)(pins:PN)(J:St)(Q:List V->Hp->Prop)(j:LV)(s':Shared):Prop:=∃v H',Inv X pins J H' s'/\bc v j/\Q v H'
def SP(X:Cx)(pins:PN)(D:Ends)(f:Flow)(s':Shared):Prop:=
 match f with
 | .next=>∃h H',Inv X pins h H' s'/\D.nx h H'
 | .brk=>∃h H',Inv X pins h H' s'/\D.bk h H'
 | .cont=>∃h H',Inv X pins h H' s'/\D.ct h H'
 | .ret u=>∃v h H',Inv X pins h H' s'/\RelV v u/\D.rt v H'
variable{α:Type}
noncomputable abbrev wx(X:Cx)(m:Sem α):=wpAny (model X.p X.w) X.A m
def PE(X:Cx)(e:Expr)(t:TE):Prop:=
 ∀(pins:PN)(s:Shared)(J:St)(H:Hp)(Q:VK),Inv X pins J H s->t J H Q->wx X (eval e X.e) (EP X pins J Q) X.xe s
def PT(X:Cx)(e:Expr)(t:TT):Prop:=
 ∀(pins:PN)(s:Shared)(J:St)(H:Hp)(Q:Bool->Hp->Prop),Inv X pins J H s->t J H Q->wx X (isTrue e X.e (eval e X.e)) (TP X pins J Q) X.xe s
def PW(X:Cx)(e:Expr)(t:TT):Prop:=
 ∀(w:Sem Value)(pins:PN)(s:Shared)(J:St)(H:Hp)(Q:Bool->Hp->Prop),Inv X pins J H s->t J H Q->wx X (isTrue e X.e w) (TP X pins J Q) X.xe s
variable{X:Cx}{e:Expr}
theorem PW.pt(h:PW X e t):PT X e t:=h _
def PA(X:Cx)(es:Ab)(t:TA):Prop:=
 ∀(B:Pos)(pins:PN)(s:Shared)(J:St)(H:Hp)(Q:List V->Hp->Prop),Inv X pins J H s->t J H Q->wx X (spliced (backTo B (starEach es X.e))) (AP X pins J Q) X.xe s
def PS(X:Cx)(st:Stmt)(t:TS):Prop:=
 ∀(pins:PN)(s:Shared)(J:St)(H:Hp)(D:Ends),Inv X pins J H s->t D J H->wx X (exec st X.e) (SP X pins D) X.xe s
def p0(X:Cx)(st:List Stmt)(t:TS):Prop:=
 ∀(pins:PN)(s:Shared)(J:St)(H:Hp)(D:Ends),Inv X pins J H s->t D J H->wx X (execs st X.e) (SP X pins D) X.xe s
variable{M:Model}{A:Around}{E:VP}{s:Shared}
theorem dL(h:wpAny M A t Q E s)(e:∀a s,Q a s->q a s):wpAny M A t q E s:=di h e λ_ _ x=>x
section
variable{X:Cx}
noncomputable def Q2(i:Nat):TE:=λJ H Q=>∃v,J[i]? = some (some v)/\Q v H
noncomputable def tC(v:V):TE:=λ_ H Q=>Q v H
theorem LI(N:X.N[i]? = some x)(q:Nv X.e.scope x)(hd:(x == ("__debug__":Str))=false:=by decide)(d:(x == ("__classdict__":Str))=false:=by decide):PE X (.Name x B) (Q2 i):=by
 intro pins s J H Q I h;obtain⟨v,e,h⟩:=h;obtain⟨m,p,b⟩:=I.loc;obtain⟨u,r,l⟩:=b i x v N e q;have f:EP X pins J Q u s:=⟨v,H,I,r,h⟩;rcases l with ⟨k,t⟩|⟨k,c,n,a⟩
 .exact yo (wpAny_loadName_local I.o.kind k p t f) hd
 .rcases k with k|k
  .exact yo (wpAny_loadName_cell I.o.kind k n a f) hd
  .exact yo (wpAny_loadName_free I.o.kind k n a f d) hd
theorem LN {i q B}:PE X (.Constant (.int i) q B) (tC (.int i)):=λ_ _ _ H _ I h=>wpAny_Constant_int ⟨.int i,H,I.tok _,⟨_,rfl⟩,h⟩
theorem OB {b q B}:PE X (.Constant (.bool b) q B) (tC (.bl b)):=λ_ _ _ H _ I h=>Constant_bool ⟨.bl b,H,I,rfl,h⟩
theorem LM {q B}:PE X (.Constant .none q B) (tC .non):=λ_ _ _ H _ I h=>Constant_none ⟨.non,H,I,rfl,h⟩
theorem LJ {x q B}:PE X (.Constant (.str x) q B) (tC (.str x)):=λ_ _ _ H _ I h=>Calls.Constant_str ⟨.str x,H,I.tok _,⟨_,rfl⟩,h⟩
def Gl(X:Cx)(x:Str):Prop:=X.e.kindOf x=some .globalImplicit
theorem wu(I:Inv X pins J H s)(g:Gl X x)(m:X.g x=some u)(h:Q u s)
  (hd:(x == ("__debug__":Str))=false:=by decide):wx X (eval (.Name x B) X.e) Q E s:=
 AC I.o.kind g (Calls.loadGlobal_global (by rw[I.o.glob];exact I.mod.glob.keeps I.bk) m h) hd
theorem kE(I:Inv X pins J H s)(g:Gl X x)(m:X.g x=none)(v:bootBuiltins x=some u)(h:Q u s)
  (n:x≠"__name__":=by decide) (hd:(x == ("__debug__":Str))=false:=by decide):wx X (eval (.Name x B) X.e) Q E s:=by
 obtain⟨b,h1,h2⟩:=I.mod.blt;exact AC I.o.kind g (Calls.loadGlobal_builtin (by rw[I.o.glob];exact I.mod.glob.keeps I.bk) m (by rw[I.o.blt];exact h1.keeps I.bk) ((h2 x n).trans v) h) hd
theorem IV(g:Gl X x)(m:X.g x=some u)(r:RelV v u)(hd:(x == ("__debug__":Str))=false:=by decide):PE X (.Name x B) (tC v):=
 λ_ _ _ H _ I h=>wu I g m ⟨v,H,I,r,h⟩ hd
theorem IW(g:Gl X x)(m:X.g x=none)(a:bootBuiltins x=some u)(r:RelV v u)(n:x≠"__name__":=by decide)(hd:(x == ("__debug__":Str))=false:=by decide):PE X (.Name x B) (tC v):=
 λ_ _ _ H _ I h=>kE I g m a ⟨v,H,I,r,h⟩ n hd
variable{a b:Expr}{ta tb:TE}{B:Pos}
variable{tA tB':TT}{rest:Ab}
noncomputable def Rc(t u:TT):TT:=λJ H Q=>t J H λc G=>if c=true then u J G Q else Q false G
noncomputable def Tg(t u:TT):TT:=λJ H Q=>t J H λc G=>if c=true then Q true G else u J G Q
noncomputable def Q7(t:TT):TT:=λJ H Q=>t J H λc G=>Q (!c) G
theorem IF(x:PT X a tA):PW X (.BoolOp .And [a] B) tA:=by
 intro w pins s J H Q I h;refine isTrue_and (dL (x pins s J H Q I h) λc n e=>?_);cases c with
 |true=>exact isTrue_and_nil e
 |false=>exact e
theorem Lu(x:PT X a tA):PW X (.BoolOp .Or [a] B) tA:=by
 intro w pins s J H Q I h;refine isTrue_or (dL (x pins s J H Q I h) λc n e=>?_);cases c with
 |false=>exact isTrue_or_nil e
 |true=>exact e
theorem Lv(e:PT X a tA)(n:PW X (.BoolOp .And (b::rest) B) tB'):PW X (.BoolOp .And (a::b::rest) B) (Rc tA tB'):=by
 intro w pins s J H Q I h;refine isTrue_and (dL (e pins s J H _ I h) λc k z=>?_);obtain⟨G,x,q⟩:=z;cases c with
 |true=>exact n w pins k J G Q x q
 |false=>exact⟨G,x,q⟩
theorem Ow(e:PT X a tA)(n:PW X (.BoolOp .Or (b::rest) B) tB'):PW X (.BoolOp .Or (a::b::rest) B) (Tg tA tB'):=by
 intro w pins s J H Q I h;refine isTrue_or (dL (e pins s J H _ I h) λc k z=>?_);obtain⟨G,x,q⟩:=z;cases c with
 |true=>exact⟨G,x,q⟩
 |false=>exact n w pins k J G Q x q
theorem Lw(x:PT X a tA):PT X (.UnaryOp .Not a B) (Q7 tA):=by intro pins s J H Q I h;exact isTrue_not (x pins s J H (λc G=>Q (!c) G) I h)
noncomputable def Oi(ta tb:TE):TE:=λJ H Q=>ta J H λx G=>∃c,x=.bl c/\if c=true then tb J G Q else Q (.bl false) G
noncomputable def Q6(ta tb:TE):TE:=λJ H Q=>ta J H λx G=>∃c,x=.bl c/\if c=true then Q (.bl true) G else tb J G Q
noncomputable def N_(ta:TE):TE:=λJ H Q=>ta J H λx G=>∃c,x=.bl c/\Q (.bl (!c)) G
theorem LK {q} (h:PE X a t):PE X (.BoolOp q [a] B) t:=λpins s J H Q I hw=>BoolOp_one (h pins s J H Q I hw)
theorem LQ(n:PE X a ta)(k:PE X (.BoolOp .And (b::rest) B) tb):PE X (.BoolOp .And (a::b::rest) B) (Oi ta tb):=by
 intro pins s J H Q I h;refine BoolOp_and (dL (n pins s J H _ I h) λv f z=>?_);obtain⟨x,G,e,r,q⟩:=z;obtain⟨c,rfl,q⟩:=q;cases r;refine lp ?_;cases c with
 |true=>exact k pins f J G Q e q
 |false=>exact⟨.bl false,G,e,rfl,q⟩
theorem Oz(n:PE X a ta)(k:PE X (.BoolOp .Or (b::rest) B) tb):PE X (.BoolOp .Or (a::b::rest) B) (Q6 ta tb):=by
 intro pins s J H Q I h;refine BoolOp_or (dL (n pins s J H _ I h) λv f z=>?_);obtain⟨x,G,e,r,q⟩:=z;obtain⟨c,rfl,q⟩:=q;cases r;refine lp ?_;cases c with
 |false=>exact k pins f J G Q e q
 |true=>exact⟨.bl true,G,e,rfl,q⟩
theorem LL(n:PE X a ta):PE X (.UnaryOp .Not a B) (N_ ta):=by intro pins s J H Q I h;refine UnaryOp_ (dL (n pins s J H _ I h) λv k z=>?_);obtain⟨x,G,e,r,q⟩:=z;obtain⟨c,rfl,q⟩:=q;cases r;exact not_of (lp ⟨.bl (!c),G,e,rfl,q⟩)
noncomputable def Th(t:TT)(ta tb:TE):TE:=λJ H Q=>t J H λc G=>if c=true then ta J G Q else tb J G Q
theorem Fp(f:PT X c tA)(n:PE X a ta)(k:PE X b tb):PE X (.IfExp c a b B) (Th tA ta tb):=by
 intro pins s J H Q I h;refine wpAny_IfExp (dL (f pins s J H _ I h) λd e z=>?_);obtain⟨G,x,q⟩:=z;cases d with
 |true=>exact n pins e J G Q x q
 |false=>exact k pins e J G Q x q
end
def gY(K:FG)(H:Hp)(a:Addr)(xs:List V):Prop:=
 Rd H a (.lst xs) \/
  ∃(o:Obj)(i:Array Value)(n:Nat),K.lookup a=some o/\o.cls=.type "list"/\o.dict=none/\o.data=.seq i n/\i.size≤sizeLine/\bc xs i.toList
def oF(K:FG)(H:Hp)(a:Addr)(xs:List V):Prop:=
 Rd H a (.tup xs) \/
  ∃(o:Obj)(i:Array Value)(n:Nat),K.lookup a=some o/\o.cls=.type "tuple"/\o.dict=none/\o.data=.seq i n/\i.size≤sizeLine/\bc xs i.toList
noncomputable def R5:Value->Option V
 | .none=>some .non
 | .bool b=>some (.bl b)
 | .int i _=>some (.int i)
 | .str x _=>some (.str x)
 | .bytes b _=>some (.byt b)
 | .float b _=>some (.flt b)
 | .ref a=>some (.ref a)
 | .type n=>some (.ty n)
 |_=>none
theorem RelV.abs(r:RelV x u):R5 u=some x:=by
 cases x with
 |non=>cases r;rfl
 |bl _=>cases r;rfl
 |int _=>obtain⟨t,rfl⟩:=r;rfl
 |str _=>obtain⟨t,rfl⟩:=r;rfl
 |byt _=>obtain⟨t,rfl⟩:=r;rfl
 |flt _=>obtain⟨t,rfl⟩:=r;rfl
 |ref _=>cases r;rfl
 |ty _=>cases r;rfl
variable{y:V}
theorem RelV.inj(r:RelV x u)(q:RelV y u):x=y:=eP (r.abs.symm.trans q.abs)
theorem bc.inj:∀{xs ys:List V}{j:LV},bc xs j->bc ys j->xs=ys
 |_,_,_,.nil,.nil=>rfl
 |_,_,_,.cons r t,.cons h x=>by rw[r.inj h,bc.inj t x]
section
variable{X:Cx}{pins:PN}{J:St}{H:Hp}{s:Shared}{a:Addr}{xs ys:List V}
theorem gY.of{K:FG}(h:H a=some (.lst xs)):gY K H a xs:=.inl (.inl h)
theorem Inv.list(I:Inv X pins J H s)(h:gY X.K H a xs):∃i:LV,bc xs i/\PlainL s.heap a i.toArray/\xs.length≤sizeLine:=by
 rcases h with h|⟨o,i,n,k,c,hd,x,f,r⟩
 .obtain⟨z,i,n,r,e⟩:=h.ok I.h;exact⟨i,r,⟨_,n,e,rfl,rfl,rfl⟩,z⟩
 .refine⟨i.toList,r,⟨o,n,I.kIn a o k,c,hd,by simpa using x⟩,?_⟩;have e:=r.length;simp only[np]at e;lia
theorem Inv.tuple(I:Inv X pins J H s)(h:oF X.K H a xs):∃i:LV,bc xs i/\IsTup s.heap a i.toArray/\xs.length≤sizeLine:=by
 rcases h with h|⟨o,i,n,k,c,_,x,f,r⟩
 .obtain⟨z,i,r,p⟩:=h.ok I.h;exact⟨i,r,p.tup,z⟩
 .refine⟨i.toList,r,⟨o,I.kIn a o k,c,n,by simpa using x⟩,?_⟩;have e:=r.length;simp only[np]at e;lia
theorem Inv.tupleN(I:Inv X pins J H s)(h:oF X.K H a xs):∃its:LV,bc xs its/\pk s.heap a its.toArray:=by
 rcases h with q|⟨ob,vs,m,e1,e2,e3,e4,_,rv⟩
 .exact⟨_,(q.ok I.h).2.choose_spec⟩
 .exact⟨vs.toList,rv,ob,I.kIn a ob e1,⟨e2,m,by simpa using e4⟩,e3⟩
theorem Inv.list_inj(I:Inv X pins J H s)(h:gY X.K H a xs)(h':gY X.K H a ys):xs=ys:=by
 obtain⟨t,r,⟨o,n,e,_,_,d⟩,_⟩:=I.list h;obtain⟨i,b,⟨o',c,k,_,_,x⟩,_⟩:=I.list h';rw[e]at k;cases k;rw[d]at x;injection x with f _;have:t=i:=by simpa using gZ ve f
 subst this;exact r.inj b
theorem Inv.tuple_inj(I:Inv X pins J H s)(h:oF X.K H a xs)(h':oF X.K H a ys):xs=ys:=by
 obtain⟨t,r,⟨o,e,_,n,d⟩,_⟩:=I.tuple h;obtain⟨i,b,⟨o',k,_,c,x⟩,_⟩:=I.tuple h';rw[e]at k;cases k;rw[d]at x;injection x with f _;have:t=i:=by simpa using gZ ve f
 subst this;exact r.inj b
end
noncomputable abbrev Cx.wish(X:Cx)(E:VP):Cx:={ X with xe:=E }
abbrev Cx.nox(X:Cx):Cx:=X.wish λ_ _=>False
theorem Cx.Ok.wish(ok:X.Ok)(E:VP):(X.wish E).Ok:=
 ⟨ok.mod,ok.kind,ok.glob,ok.blt,ok.above,ok.inj,ok.has,ok.cab,ok.hd,ok.frames,ok.stk,ok.exf,ok.bs,ok.bsz,ok.noex,ok.exfs,ok.funs,ok.frf⟩
theorem Cx.Ok.unwish(ok:(X.wish E).Ok):X.Ok:=
 ⟨ok.mod,ok.kind,ok.glob,ok.blt,ok.above,ok.inj,ok.has,ok.cab,ok.hd,ok.frames,ok.stk,ok.exf,ok.bs,ok.bsz,ok.noex,ok.exfs,ok.funs,ok.frf⟩
section
variable{X:Cx}{pins:PN}{J:St}{H:Hp}{s:Shared}{E:VP}
theorem Inv.wish(I:Inv X pins J H s)(E:VP):Inv (X.wish E) pins J H s:=⟨I.o.wish E,I.os,I.bare,I.base,I.loc,I.cell,I.free,I.freeC,I.pin,I.h,I.len⟩
theorem Inv.unwish(I:Inv (X.wish E) pins J H s):Inv X pins J H s:=⟨I.o.unwish,I.os,I.bare,I.base,I.loc,I.cell,I.free,I.freeC,I.pin,I.h,I.len⟩
set_option tactic.hygienic true in
theorem SP.unwish(h:SP (X.wish E) pins D f s'):SP X pins D f s':=by
 cases f with
 |next=>obtain⟨x,H',I,q⟩:=h;exact⟨x,H',I.unwish,q⟩
 |brk=>obtain⟨x,H',I,q⟩:=h;exact⟨x,H',I.unwish,q⟩
 |cont=>obtain⟨x,H',I,q⟩:=h;exact⟨x,H',I.unwish,q⟩
 |ret u=>obtain⟨v,x,H',I,r,q⟩:=h;exact⟨v,x,H',I.unwish,r,q⟩
theorem p0.nox{st:List Stmt}{t:TS}(h:p0 X.nox st t):p0 X st t:=λpins s J H D I hw=>
 di (h pins s J H D (I.wish _) hw) (λ_ _ q=>q.unwish) λ_ _ z=>False.elim z
end
section
variable{X:Cx}{st:Stmt}{rest:List Stmt}{t u:TS}{e:Expr}{te:TE}{B:Pos}
noncomputable def Ob:TS:=λD J H=>D.nx J H
noncomputable def Q4(t u:TS):TS:=λD J H=>t { D with nx:=u D } J H
theorem IH:p0 X [] Ob:=λ_ _ J H _ I h=>yy ⟨J,H,I,h⟩
set_option tactic.hygienic true in
theorem Fd(h1:PS X st t)(h2:p0 X rest u):p0 X (st::rest) (Q4 t u):=by
 intro pins s J H D I h;refine D5 (dL (h1 pins s J H { D with nx:=u D } I h) λf e q=>?_);cases f with
 |next=>obtain⟨a,H',x,q⟩:=q;exact h2 pins e a H' D x q
 |ret v=>exact q
 |brk=>exact q
 |cont=>exact q
set_option tactic.hygienic true in
theorem IG(h1:PS X st t):p0 X [st] t:=by
 intro pins s J H D I h;refine D5 (dL (h1 pins s J H D I h) λf x q=>?_);cases f with
 |next=>exact yy q
 |ret v=>exact q
 |brk=>exact q
 |cont=>exact q
noncomputable def Oe:TS:=λD J H=>D.ct J H
theorem xr:PS X (.Continue B) Oe:=λ_ _ J H _ I h=>wpAny_Continue ⟨J,H,I,h⟩
theorem Inv.quiet(I:Inv X pins J H s):interactive X.e=false:=by simp[interactive,I.o.kind]
noncomputable def Od(te:TE):TS:=λD J H=>te J H λ_ G=>D.nx J G
theorem II(n:PE X e te)(k:swapsWith e none B.line X.e=pure false:=by rfl):PS X (.Expr e B) (Od te):=by intro pins s J H D I h;exact wpAny_Expr_any (dL (n pins s J H _ I h) λv f z=>by obtain⟨x,G,a,r,q⟩:=z;exact⟨J,G,a,q⟩) I.quiet k
noncomputable def Q5(te:TE):TS:=λD J H=>te J H D.rt
theorem Ly(n:PE X e te):PS X (.Return (some e) B) (Q5 te):=by intro pins s J H D I h;exact wpAny_Return_some (dL (n pins s J H _ I h) λv k z=>by obtain⟨x,G,a,r,q⟩:=z;exact⟨x,J,G,a,r,q⟩)
noncomputable def Q9(c:TT)(t u:TS):TS:=λD J H=>c J H λb G=>if b=true then t D J G else u D J G
theorem Ox{c:Expr}{a b:List Stmt}{tc:TT}(f:PT X c tc)(n:p0 X a t)(k:p0 X b u):PS X (.If c a b B) (Q9 tc t u):=by
 intro pins s J H D I h;refine wpAny_If (dL (f pins s J H _ I h) λd e z=>?_);obtain⟨G,x,q⟩:=z;cases d with
 |true=>exact n pins e J G D x q
 |false=>exact k pins e J G D x q
noncomputable def EJ:TS:=λ_ _ _=>False
theorem Fe:PS X st EJ:=λ_ _ _ _ _ _ h=>h.elim
theorem C1:p0 X q EJ:=λ_ _ _ _ _ _ h=>h.elim
end
noncomputable abbrev TG:=V->St->Hp->(St->Hp->Prop)->Prop
noncomputable abbrev M7:=List V->St->Hp->(St->Hp->Prop)->Prop
def PG(X:Cx)(a:Expr)(t:TG):Prop:=
 ∀(pins:PN)(s:Shared)(J:St)(H:Hp)(v:V)(u:Value)(Q:St->Hp->Prop),Inv X pins J H s->RelV v u->t v J H Q ->
  wx X (assign a X.e u) (λ_ s'=>∃h H',Inv X pins h H' s'/\Q h H') X.xe s
def PP(X:Cx)(x:Ab)(t:M7):Prop:=
 ∀(pins:PN)(s:Shared)(J:St)(H:Hp)(v:List V)(j:LV)(Q:St->Hp->Prop),Inv X pins J H s->bc v j->t v J H Q ->
  wx X (assignInOrder ((assignEach x X.e).map (·.2)) j) (λ_ s'=>∃h H',Inv X pins h H' s'/\Q h H') X.xe s
noncomputable abbrev M6:=V->V->V->Hp->(Hp->Prop)->Prop
def PK(X:Cx)(t:M6):Prop:=
 ∀(pins:PN)(s:Shared)(J:St)(H:Hp)(o i v:V)(h iv u:Value)(Q:Hp->Prop),Inv X pins J H s->RelV o h->RelV i iv->RelV v u->t o i v H Q ->
  wx X (setItem h iv u) (λ_ s'=>∃H',Inv X pins J H' s'/\Q H') X.xe s
section
variable{X:Cx}{B:Pos}
noncomputable def Kl(i:Nat):TG:=λv J H Q=>Q (J.set i (some v)) H
theorem IT(N:X.N.Nodup)(hi:X.N[i]? = some x)(e:Loc X.e.scope x)(f:X.fn x=true\/X.e.scope.names.lookup x=some .local:=by first|exact .inl rfl|exact .inr rfl|assumption):PG X (.Name x B) (Kl i):=by intro pins s J H v u Q I r h;exact D8 (xj I N hi e r (λs' a=>⟨_,H,a,h⟩) f)
noncomputable def RT:M7:=λv J H Q=>v=[]/\Q J H
noncomputable def Pb(t:TG)(u:M7):M7:=λs J H Q=>∃v r,s=v::r/\t v J H λh H'=>u r h H' Q
theorem IS:PP X [] RT:=by intro pins s J H v j Q I r h;obtain⟨e,h⟩:=h;subst e;cases r;exact assignInOrder_nil ⟨J,H,I,h⟩
theorem Fk{e:Expr}{es:Ab}{t:TG}{u:M7}(h1:PG X e t)(h2:PP X es u)
  (k:(assignEach (e::es) X.e).map (·.2)=assign e X.e::(assignEach es X.e).map (·.2):=by rfl):PP X (e::es) (Pb t u):=by
 intro pins s J H m j Q I r h;obtain⟨v,c,n,h⟩:=h;subst n;cases r with
 |cons r f=>rw[k];refine assignInOrder_cons (dL (h1 pins s J H _ _ _ I r h) λ_ b z=>?_);obtain⟨a,G,x,q⟩:=z;exact h2 pins b a G _ _ Q x f q
noncomputable def RR(K:FG)(n:Nat)(t:M7):TG:=λv J H Q=>∃a xs,v=.ref a/\oF K H a xs/\xs.length=n/\t xs J H Q
theorem LG(p:X.c=true)(h:PP X es t)
  (q:(assignEach es X.e).length=n:=by rfl) (x:(assignEach es X.e).findIdx? (·.1)=none:=by rfl):PG X (.Tuple es k B) (RR X.K n t):=by
 intro pins s J H v u Q I r hw;obtain⟨a,xs,m,d,l,hw⟩:=hw;subst m;cases r;obtain⟨i,f,w,z⟩:=I.tuple d;refine assign_Tuple_tuple (I.o.hd p) w (by simp[q,<- l,f.length]) x λh' g=>?_
 have c:Inv X pins J H { s with heap:=h' }:=I.kept (t':=s.toks) λb o e=>g b o (bB (aO e)) e;exact h pins _ J H xs _ Q c (by simpa using f) hw
noncomputable def RS(to x:TE)(t:M6):TG:=λv J H Q=>to J H λo G=>x J G λi H2=>t o i v H2 λh=>Q J h
theorem LH{o i:Expr}{to a:TE}{t:M6}(c:PE X o to)(hi:PE X i a)(m:PK X t)
  (b:∀v,assign (.Subscript o i B) X.e v=(do
   let q <- holding [v] (eval o X.e)
   let iv <- holding [v,q] (eval i X.e)
   standAt B
   holding [v,q,iv] (setItem q iv v)
   release [v,q,iv] []):=by intro _;rfl):PG X (.Subscript o i B) (RS to a t):=by
 intro pins s J H v u Q I r h;rw[b];refine ac (iB (dL (c pins s J H _ I h) λq l z=>?_));obtain⟨x,G,n,g,p⟩:=z;refine ac (iB (dL (hi pins l J G _ n p) λiv S z=>?_));obtain⟨y,H2,k,j,d⟩:=z;refine ac (yv (ac (iB (dL (m pins S J H2 x y v q iv u _ k g j r d) λ_ F z=>?_))));obtain⟨e,f,w⟩:=z;exact wpAny_release ⟨J,e,f,w⟩
noncomputable def Oh(te:TE)(g:TG):TS:=λD J H=>te J H λx G=>g x J G D.nx
theorem Ff{tg e:Expr}{te:TE}{g:TG}(n:PE X e te)(k:PG X tg g)(f:swapsWithSole [tg] e B.line X.e=pure false:=by rfl)(hw:swappedStores [tg] e X.e=pure none:=by rfl)
  (h1:(assignEach [tg] X.e).map (·.2)=[assign tg X.e]:=by rfl):PS X (.Assign [tg] e B) (Oh te g):=by
 intro pins s J H D I h;refine wpAny_Assign_stores (dL (n pins s J H _ I h) λv c z=>?_) f hw;obtain⟨x,G,a,r,b⟩:=z;rw[h1];exact dL (k pins c J G x v _ a r b) λ_ m q=>q
theorem Lx(N:X.N.Nodup)(hi:X.N[i]? = some x)(c:Loc X.e.scope x)(k:PE X e te)(b:swapsWith e (some (.Name x pos')) B.line X.e=pure false:=by rfl)(f:X.fn x=true\/X.e.scope.names.lookup x=some .local:=by first|exact .inl rfl|exact .inr rfl|assumption) :
  PS X (.Assign [.Name x pos'] e B) (Oh te (Kl i)):=by
 intro pins s J H D I h;refine wpAny_Assign_Name (dL (k pins s J H _ I h) λv m z=>?_) b;obtain⟨y,G,a,r,q⟩:=z;exact xj a N hi c r (λt n=>⟨_,G,n,q⟩) f
end
structure It where
 go:Nat->Hp->Prop
 yld:Nat->Hp->V->Hp->Prop
 stop:Nat->Hp->Prop
def tu(X:Cx)(pins:PN)(H:Hp)(b:Addr):Prop:=
 H b=none/\b≠X.e.locals/\b ∉ X.fs/\(b ∈ X.ex\/X.z.heap.objs.size≤b)/\(∀x c,X.e.cells.lookup x=some c->c≠b)/\∀p ∈ X.pn++pins,p.1≠b
variable{pins:PN}{J:St}
theorem Inv.fpOk(I:Inv X pins J H s)(h:s.heap.objs.size≤b)(n:H' b=none):tu X pins H' b:=by
 refine⟨n,cm (cq I.lt h),I.nofs h,.inr (aF I.sz h),λx c e z=>?_,λp hp z=>?_⟩
 .obtain⟨v,q⟩:=I.cell x c e;exact absurd (cq q.lt (by rw[z];exact h)) (jA _)
 .exact absurd (cq (aO (I.pin p hp).1) (by rw[z];exact h)) (jA _)
structure jR(P:Program)(w:World)(K:FG)(tg:Expr)(J9:It)(fp:List Addr)(it:Addr)(tn:Nat->Heap->Prop):Prop where
 mem:it ∈ fp
 obj:∀i h,tn i h->∀b ∈ fp,∃o,h.get? b=some o/\∀v,o.data≠.cell v
 keep:∀i h h',tn i h->(∀b ∈ fp,∀o,h.get? b=some o->h'.get? b=some o)->tn i h'
 item:∀(X:Cx),X.p=P->X.w=w->X.K=K->X.c=true->∀(i:Nat)(pins:PN)(s:Shared)(J:St)(H:Hp)(E:VP),Inv X pins J H s->(∀b ∈ fp,tu X pins H b)->tn i s.heap->J9.go i H ->
  wpAny (model P w) X.A (pyNext (.ref it)) (fun r s1=>∃u,r=some u /\
   wpAny (model P w) X.A (letOwnedTupleGo tg (.ref it) u) (λ_ s2=>∃x H',Inv X pins J H' s2/\RelV x u/\J9.yld i H x H'/\tn (i+1) s2.heap/\∀b ∈ fp,H' b=none) E s1) E s
 done:∀(X:Cx),X.p=P->X.w=w->X.K=K->X.c=true->∀(i:Nat)(pins:PN)(s:Shared)(J:St)(H:Hp)(E:VP),Inv X pins J H s->(∀b ∈ fp,tu X pins H b)->tn i s.heap->J9.stop i H ->
  wpAny (model P w) X.A (pyNext (.ref it)) (λr s1=>r=none/\Inv X pins J H s1) E s
 self:∀(A:Around)(i:Nat)(s:Shared)(Q:VP)(E:VP),tn i s.heap->Q (.ref it) s->wpAny (model P w) A (pyIter (.ref it)) Q E s
noncomputable abbrev TI:=St->Hp->(It->Hp->Prop)->Prop
def PM(X:Cx)(pins:PN)(J:St)(tg:Expr)(R:It->Hp->Prop)(i:Value)(s:Shared):Prop:=
 ∃(t:Addr)(f:List Addr)(n:Nat->Heap->Prop)(h:It)(H':Hp),i=.ref t/\Inv X pins J H' s/\jR X.p X.w X.K tg h f t n/\n 0 s.heap/\(∀b ∈ f,tu X pins H' b)/\R h H'
def PI(X:Cx)(tg iter:Expr)(w:TI):Prop:=
 ∀(pins:PN)(s:Shared)(J:St)(H:Hp)(R:It->Hp->Prop),Inv X pins J H s->w J H R ->
  wx X (eval iter X.e) (λv h=>wx X (pyIter v) (PM X pins J tg R) X.xe h) X.xe s
variable{tg:Expr}
theorem Gg(e:s.heap.get? q=some o)(c:o.cls=.type n)(hd:o.data=.fields z)
    (a:["enumerate","zip","dict_itemiterator","dict_reverseitemiterator","odict_iterator","itertools.zip_longest","itertools.pairwise"].contains n=false) (x:Q () s):wpAny M A (letOwnedTupleGo tg (.ref q) u) Q E s:=by
  unfold letOwnedTupleGo;cases tg<;>first
    |exact aA x
    | (cases u <;> first
        |exact aA x
        | (refine ac (wpAny_load e ?_)
           rw[c,hd];show wpAny M A (if (["enumerate","zip","dict_itemiterator","dict_reverseitemiterator","odict_iterator","itertools.zip_longest","itertools.pairwise"].contains n && z[0]? == some (rawInt _))=true then _ else _) Q E s;rw[al (by intro h;rw[a,Bool.false_and]at h;cases h)];exact aA x))
noncomputable def PU(K:FG)(a:Addr):It:=
 ⟨λi H=>∃xs x,gY K H a xs/\xs[i]? = some x,λi H x H'=>H'=H/\∀xs,gY K H a xs->xs[i]? = some x,λi H=>∃xs,gY K H a xs/\xs.length≤i⟩
noncomputable def SQ(K:FG)(a:Addr):It:=
 ⟨λi H=>∃xs x,oF K H a xs/\xs[i]? = some x,λi H x H'=>H'=H/\∀xs,oF K H a xs->xs[i]? = some x,λi H=>∃xs,oF K H a xs/\xs.length≤i⟩
noncomputable def Qy(lo:Int)(n:Nat):It:=⟨λi _=>i < n,λi H x H'=>H'=H/\x=.int (lo+i),λi _=>n≤i⟩
variable{w:World}{K:FG}
theorem uh(a t:Addr):jR P w K tg (PU K a) [t] t (λi h=>h.IsListIter t a i) where
 mem:=by simp
 obj:=λi h st b n=>by
  have e:b=t:=by simpa using n
  subst e;obtain⟨o,e,c,d⟩:=st;exact⟨o,e,λv z=>by rw[d]at z;cases z⟩
 keep:=λi h h' st k=>st.at λo e=>k t (by simp) o e
 item:=by
  intro X F hw S G i pins s J H E I m st A;subst F hw S;obtain⟨xs,x,q,B⟩:=A;obtain⟨C,D,p,T⟩:=I.list q;obtain⟨u,Q,V⟩:=D.get B;obtain⟨r,g,N,j,l,y⟩:=m t (by simp);refine wpAny_pyNext_list_item st p.isList (x:=u) (by simpa using Q) λh' f W=>?_
  have L:Inv X pins J H { s with heap:=h' }:=I.turned (t':=s.toks) (λb o n e=>(W.2 b n).trans e) r g j l y;obtain⟨o,e,c,d⟩:=id f;exact⟨u,rfl,Gg (s:={ s with heap:=h' }) e c d (by decide) ⟨x,H,L,V,⟨rfl,λys R=>by rw[I.list_inj R q];exact B⟩,f,λb n=>(m b n).1⟩⟩
 done:=by intro X F hw S G i pins s J H E I m st A;subst F hw S;obtain⟨xs,q,B⟩:=A;obtain⟨C,D,p,T⟩:=I.list q;obtain⟨r,g,N,j,l,y⟩:=m t (by simp);have Z:=D.length;exact wpAny_pyNext_list_end (I.o.hd G) st p.isList (by simp;lia) λh' M=>⟨rfl,I.turned (t':=s.toks) (λb o n e=>M b o n e) r g j l y⟩
 self:=λ_ _ _ _ _ st h=>wpAny_pyIter_listiter st h
theorem yH(a t:Addr):jR P w K tg (SQ K a) [t] t (λi h=>h.IsTupleIter t a i) where
 mem:=by simp
 obj:=λi h st b n=>by
  have e:b=t:=by simpa using n
  subst e;obtain⟨o,e,c,d⟩:=st;exact⟨o,e,λv z=>by rw[d]at z;cases z⟩
 keep:=λi h h' st k=>st.at λo e=>k t (by simp) o e
 item:=by
  intro X A hw F G i pins s J H E I r st B;subst A hw F;obtain⟨xs,x,q,C⟩:=B;obtain⟨f,D,p,T⟩:=I.tuple q;obtain⟨u,Q,V⟩:=D.get C;obtain⟨g,j,N,l,y,S⟩:=r t (by simp);refine wpAny_pyNext_tuple_item st (show s.heap.IsTuple a f.toArray from p) (x:=u) (by simpa using Q) λh' m W=>?_
  have L:Inv X pins J H { s with heap:=h' }:=I.turned (t':=s.toks) (λb o n e=>(W.2 b n).trans e) g j l y S;obtain⟨o,e,c,d⟩:=id m;exact⟨u,rfl,Gg (s:={ s with heap:=h' }) e c d (by decide) ⟨x,H,L,V,⟨rfl,λys R=>by rw[I.tuple_inj R q];exact C⟩,m,λb n=>(r b n).1⟩⟩
 done:=by intro X A hw F G i pins s J H E I r st B;subst A hw F;obtain⟨xs,q,C⟩:=B;obtain⟨f,D,p,T⟩:=I.tuple q;obtain⟨g,j,N,l,y,S⟩:=r t (by simp);have Z:=D.length;exact wpAny_pyNext_tuple_end (I.o.hd G) st (show s.heap.IsTuple a f.toArray from p) (by simp;lia) λh' M=>⟨rfl,I.turned (t':=s.toks) (λb o n e=>M b o n e) g j l y S⟩
 self:=λ_ _ _ _ _ st h=>wpAny_pyIter_tupleiter st h
theorem yI(x:Addr)(lo:Int)(n:Nat):jR P w K tg (Qy lo n) [x] x (λi h=>IsRangeIter h x (lo+(i:Nat) * 1) ((n:Int)-(i:Nat)) 1) where
 mem:=by simp
 obj:=λi h st b a=>by
  have e:b=x:=by simpa using a
  subst e;exact⟨_,st,λv z=>by have C:Data.fields _=Data.cell v:=z;cases C⟩
 keep:=λi h h' st k=>k x (by simp) _ st
 item:=by
  intro X g hw u j i pins s J H E I c st l;subst g hw u;obtain⟨m,r,F,p,q,d⟩:=c x (by simp);have W:=Walks.range (prog:=X.p) (w:=X.w) (I.o.hd j) x lo 1 n;refine W.item i s _ _ l st λv h' tk A f B=>?_
  obtain⟨t,rfl⟩:=A;have y:Inv X pins J H { s with heap:=h',toks:=tk }:=I.turned (λb o a e=>B b o (by simpa using a) e) m r p q d;refine⟨_,rfl,Gg (s:={ s with heap:=h',toks:=tk }) (n:="range_iterator") f rfl rfl (by decide) ⟨.int (lo+i),H,y,⟨t,?_⟩,⟨rfl,rfl⟩,f,λb a=>(c b a).1⟩⟩;rw[Int.mul_one]
 done:=by intro X g hw u j i pins s J H E I c st l;subst g hw u;obtain⟨m,r,F,p,q,d⟩:=c x (by simp);exact wpAny_pyNext_range_end (I.o.hd j) st (by have:n≤i:=l;lia) λh' S=>⟨rfl,I.turned (t':=s.toks) (λb o a e=>S b o a e) m r p q d⟩
 self:=λ_ _ _ _ _ st h=>wpAny_pyIter_rangeiter st h
section
variable{X:Cx}{tg:Expr}
noncomputable def O3(K:FG)(tl:TE):TI:=λJ H R=>tl J H λx G=>∃a,x=.ref a/\(∃xs,gY K G a xs)/\R (PU K a) G
theorem IR(c:PE X l tl):PI X tg l (O3 X.K tl):=by
 intro pins s J H R I h;refine dL (c pins s J H _ I h) λv k z=>?_
 obtain⟨x,G,n,t,r⟩:=z;obtain⟨a,e,⟨xs,m⟩,q⟩:=r;subst e;cases t;obtain⟨i,d,p,z⟩:=n.list m;refine yC p.isList ?_;refine⟨k.heap.objs.size,[k.heap.objs.size],_,_,G,rfl,n.kept (t':=k.toks) λb o e=>bD _ e,uh a _,⟨_,db _ rfl,rfl,rfl⟩,λb f=>?_,q⟩;have e:b=k.heap.objs.size:=by simpa using f
 subst e;exact n.fpOk (ah _) (n.h.fresh (ah _))
theorem E9{lo hi:Int}{t u v:Tok}{tk:Nat}(I:Inv X pins J H s)(h1:-(2 ^ 62)≤lo)(h2:lo < 2 ^ 62)(n:-(2 ^ 62)≤hi)(k:hi < 2 ^ 62)
  (q:R (Qy lo (hi-lo).toNat) H):wx X (pyIter (.ref s.heap.objs.size)) (PM X pins J tg R) E { s with heap:=s.heap.push { cls:=.type "range",data:=.fields #[.int lo t,.int hi u,.int 1 v] },toks:=tk }:=by
 refine wpAny_pyIter_range (IsRange.new ..) (small_one h1 h2 n k) ?_;have h:Inv X pins J H { s with heap:=s.heap.push { cls:=.type "range",data:=.fields #[.int lo t,.int hi u,.int 1 v] },toks:=tk }:=I.kept fun b o e=>bD _ e;refine⟨(s.heap.push { cls:=.type "range",data:=.fields #[.int lo t,.int hi u,.int 1 v] }).objs.size,[(s.heap.push { cls:=.type "range",data:=.fields #[.int lo t,.int hi u,.int 1 v] }).objs.size],_,_,H,rfl,
  h.kept (t':=tk) λb o e=>bD _ e,yI _ lo (hi-lo).toNat,?_,λb f=>?_,q⟩
 .have x:lo+((0:Nat):Int) * 1=lo:=by simp
  have a:(((hi-lo).toNat:Nat):Int)-((0:Nat):Int)=Builtin.Range.rangeSize lo hi 1:=by rw[DX];split<;>lia
  show IsRangeIter _ _ (lo+((0:Nat):Int) * 1) ((((hi-lo).toNat:Nat):Int)-((0:Nat):Int)) 1;rw[x,a];exact db _ rfl
 .have e:b=(s.heap.push { cls:=.type "range",data:=.fields #[.int lo t,.int hi u,.int 1 v] }).objs.size:=by simpa using f
  subst e;exact h.fpOk (ah _) (h.h.fresh (ah _))
noncomputable def O2(ta:TA):TI:=λJ H R=>ta J H λv G=>∃j:Int,v=[.int j]/\-(2 ^ 62)≤j/\j < 2 ^ 62/\R (Qy 0 j.toNat) G
theorem C6{a:Expr}{ta:TA}{p B:Pos}(g:Gl X "range")(m:X.g "range"=none)(f:PA X [a] ta)(b:starEach [a] X.e=[(false,eval a X.e)]:=by rfl):PI X tg (.Call (.Name "range" p) [a] [] B) (O2 ta):=by
 intro pins s J H R I h;refine Call_ (kE I g m boot_range (kj (dL (f B pins s J H _ I h) λj w z=>?_) b rfl));obtain⟨u,G,k,v,n⟩:=z;obtain⟨x,e,n,c,q⟩:=n;subst e;cases v with
 |cons r d=>cases d;obtain⟨t,rfl⟩:=r;exact call_range_1 (E9 k (by lia) (by lia) n c (by simpa using q))
noncomputable def Q_(w:TI)(g:TG)(tb:TS):TS:=λD J H=>w J H λh G=>∃W:Nat->Nat->St->Hp->Prop,(∃m,W 0 m J G)/\∀i m J H,W i m J H ->
 (h.stop i H/\D.nx J H)\/(h.go i H/\∃N:St->Hp->Prop,(∀a H',N a H'->∃e,e < m/\W (i+1) e a H')/\∀x H',h.yld i H x H'->g x J H' λs H2=>tb { D with nx:=N,ct:=N,bk:=D.nx } s H2)
noncomputable def oW(f:List Addr)(h:Heap):PN:=f.filterMap λb=>(h.get? b).map λo=>(b,o)
theorem kD(x:b ∈ q)(e:h.get? b=some o):(b,o) ∈ oW q h:=nC.mpr ⟨b,x,by rw[e];rfl⟩
theorem C9(hp:p ∈ oW z h):p.1 ∈ z/\h.get? p.1=some p.2:=by
 obtain⟨b,a,e⟩:=nC.mp hp;cases q:h.get? b with
 |none=>rw[q]at e;cases e
 |some o=>rw[q]at e;have x:(b,o)=p:=eP e;subst x;exact⟨a,q⟩
theorem Inv.pinned(I:Inv X pins J H s)(k:∀b ∈ q,tu X pins H b)(c:∀b ∈ q,∃o,s.heap.get? b=some o/\∀v,o.data≠.cell v):Inv X (pins++oW q s.heap) J H s:=
 I.pins_of λp hp=>(b9.mp hp).elim (λz=>I.pin p (fQ _ z)) λz=>by obtain⟨x,e⟩:=C9 z;obtain⟨f,a,n,_⟩:=k p.1 x;obtain⟨o,h,d⟩:=c p.1 x;rw[e]at h;cases h;exact⟨e,f,a,n,d⟩
theorem Inv.unpinned(I:Inv X (pins++q) J H s):Inv X pins J H s:=I.pins_of λp hp=>I.pin p (fQ _ (lV _ hp))
set_option tactic.hygienic true in
theorem Lz{iter:Expr}{y:List Stmt}{wi:TI}{g:TG}{tb:TS}{B:Pos}(hp:PassesOwn (model X.p X.w) X.A X.e X.xe)(Z:X.c=true)(hi:PI X tg iter wi)(hg:PG X tg g)(t:p0 X y tb)
  (hs:∀x,foldedSetIterable iter X.e x=pure x:=by intro _;rfl):PS X (.For tg iter y [] B) (Q_ wi g tb):=by
 intro pins s J H D I h;refine wpAny_For (dL (hi pins s J H _ I h) λv s1 h1=>dL h1 λitv s2 h2=>?_) hs;obtain⟨it,l,tn,J9,H2,e,I2,T,M,V,W,⟨m0,w0⟩,P⟩:=h2;subst e;have p:∀{H':Hp},(∀b ∈ l,H' b=none)->∀b ∈ l,tu X pins H' b:=λhn b t=>⟨hn b t,(V b t).2⟩
 refine codeAny_forLoop_any (λn s'=>∃i w H',Inv X pins w H' s'/\tn i s'.heap/\(∀b ∈ l,H' b=none)/\W i n w H') ?_ m0 ⟨0,J,H2,I2,M,λb t=>(V b t).1,w0⟩;rintro n s3 ⟨i,j,A,R,oS,S,w3⟩;rcases P i n j A w3 with ⟨K,qn⟩|⟨go,N,hN,step⟩
 .refine rN hp (dL (T.done X rfl rfl rfl Z i pins s3 j A X.xe R (p S) oS K) λr s4 z=>?_);obtain⟨G,I4⟩:=z;subst G;exact yy ⟨j,A,I4,qn⟩
 .refine rN hp (dL (T.item X rfl rfl rfl Z i pins s3 j A X.xe R (p S) oS go) λr s4 z=>?_);obtain⟨u,G,h4⟩:=z;subst G;refine rN hp (dL h4 λ_ s5 z=>?_);obtain⟨x,Q,I5,r5,y5,Li,E⟩:=z;have C:=I5.pinned (p E) (T.obj _ _ Li);refine rN hp (dL (hg _ s5 j Q x u _ C r5 (step x Q y5)) λ_ s6 z=>?_);obtain⟨J6,H6,I6,q6⟩:=z;refine rN hp (dL (t _ s6 J6 H6 _ I6 q6) λf L q=>?_);have again:∀{c:St}{a:Hp},Inv X (pins++oW l s5.heap) c a L->N c a->∃m,m < n/\∃i w H',Inv X pins w H' L/\tn i L.heap/\(∀b ∈ l,H' b=none)/\W i m w H':=λ{c a} k F=>by
   obtain⟨m',hm,w7⟩:=hN c a F;refine⟨m',hm,i+1,c,a,k.unpinned,T.keep _ _ _ Li λb t o e=>(k.pin (b,o) (fQ _ (fQ _ (kD t e)))).1,λb t=>?_,w7⟩;obtain⟨o,e,d⟩:=T.obj _ _ Li b t;exact(k.pin (b,o) (fQ _ (fQ _ (kD t e)))).2.1
  cases f with
  |next=>obtain⟨c,a,k,F⟩:=q;exact again k F
  |cont=>obtain⟨c,a,k,F⟩:=q;exact again k F
  |brk=>obtain⟨c,a,k,q⟩:=q;exact⟨c,a,k.unpinned,q⟩
  |ret v=>obtain⟨x7,c,a,k,r7,q⟩:=q;exact⟨x7,c,a,k.unpinned,r7,q⟩
end
noncomputable abbrev R2:=V->V->Hp->VK->Prop
def ke(X:Cx)(f:Value->Value->Sem Value)(r:R2):Prop:=
 ∀(pins:PN)(s:Shared)(J:St)(H:Hp)(x y:V)(v u:Value)(Q:VK),Inv X pins J H s->RelV x v->RelV y u->r x y H Q ->
  wx X (f v u) (EP X pins J Q) X.xe s
def R6(X:Cx)(f:Value->Sem Value)(r:V->Hp->VK->Prop):Prop:=
 ∀(pins:PN)(s:Shared)(J:St)(H:Hp)(x:V)(v:Value)(Q:VK),Inv X pins J H s->RelV x v->r x H Q ->
  wx X (f v) (EP X pins J Q) X.xe s
def fH(X:Cx)(f:Value)(r:List V->Hp->VK->Prop):Prop:=
 ∀(pins:PN)(s:Shared)(J:St)(H:Hp)(xs:List V)(j:LV)(Q:VK),Inv X pins J H s->bc xs j->r xs H Q ->
  wx X (call f j) (EP X pins J Q) X.xe s
def R7(X:Cx)(r:V->Hp->(Bool->Hp->Prop)->Prop):Prop:=
 ∀(pins:PN)(s:Shared)(J:St)(H:Hp)(x:V)(v:Value)(Q:Bool->Hp->Prop),Inv X pins J H s->RelV x v->r x H Q ->
  wx X (truthy v) (TP X pins J Q) X.xe s
noncomputable def La(r:R2)(ta tb:TE):TE:=λJ H Q=>ta J H λx G=>tb J G λy H2=>r x y H2 Q
noncomputable def Te(r:V->Hp->VK->Prop)(ta:TE):TE:=λJ H Q=>ta J H λx G=>r x G Q
noncomputable def rI(C:Int->Int->Prop)(g:Int->Int->V):R2:=λx y H Q=>∃i j,x=.int i/\y=.int j/\C i j/\Q (g i j) H
noncomputable def IC(g:Int->Int->V):R2:=λx y H Q=>∃i j,x=.int i/\y=.int j/\Q (g i j) H
def rU(g:Int->V):V->Hp->VK->Prop:=λx H Q=>∃i,x=.int i/\Q (g i) H
section
variable{X:Cx}{a b c:Expr}{ta tb tc:TE}{B:Pos}
theorem M3(r:PE X a ta)(t:PE X b tb){pins:PN}{s:Shared}{J:St}{H:Hp}{R:V->V->Hp->Prop}(I:Inv X pins J H s)
  (h:ta J H λx G=>tb J G λy H2=>R x y H2) {Q:VP}{f:Value->Value->Sem Value}
  (p:∀v u k x y H2,Inv X pins J H2 k->RelV x v->RelV y u->R x y H2->wx X (f v u) Q X.xe k) :
  wx X (eval a X.e) (λv e=>wx X (eval b X.e) (λu n=>wx X (f v u) Q X.xe n) X.xe e) X.xe s:=by
 refine dL (r pins s J H _ I h) λv i z=>?_;obtain⟨x,G,c,w,q⟩:=z;refine dL (t pins i J G _ c q) λu k z=>?_;obtain⟨y,H2,m,g,d⟩:=z;exact p v u k x y H2 m w g d
theorem OA{o:Operator}{r:R2}(f:ke X (binaryOp o) r)(n:PE X a ta)(k:PE X b tb):PE X (.BinOp a o b B) (La r ta tb):=by intro pins s J H Q I h;exact wpAny_BinOp (M3 n k I h λv u t x y H2 e c m q=>f pins t J H2 x y v u Q e c m q)
theorem Oy(o:R6 X (unaryOp q) r)(n:PE X a ta):PE X (.UnaryOp q a B) (Te r ta):=by intro pins s J H Q I h;exact UnaryOp_ (dL (n pins s J H _ I h) λv b z=>by obtain⟨x,G,e,f,k⟩:=z;exact o pins b J G x v Q e f k)
theorem P8{f:Value->Value->Sem Value}{C:Int->Int->Prop}{g:Int->Int->Int}
  (rule:∀(i j:Int)(t u:Tok)(s:Shared)(Q:VP)(E:VP),C i j->Q (.int (g i j) s.toks) { s with toks:=s.toks+1 }->wx X (f (.int i t) (.int j u)) Q E s) :
  ke X f (rI C λi j=>.int (g i j)):=by
 intro pins s J H x y v u Q I r a h;obtain⟨i,j,rfl,rfl,c,q⟩:=h;obtain⟨t,rfl⟩:=r;obtain⟨e,rfl⟩:=a;exact rule i j t e s _ _ c ⟨.int (g i j),H,I.tok _,⟨_,rfl⟩,q⟩
theorem OP{f:Value->Value->Sem Value}{g:Int->Int->Int}
  (rule:∀(i j:Int)(t u:Tok)(s:Shared)(Q:VP)(E:VP),Q (.int (g i j) s.toks) { s with toks:=s.toks+1 }->wx X (f (.int i t) (.int j u)) Q E s) :
  ke X f (IC λi j=>.int (g i j)):=by
 intro pins s J H x y v u Q I r a h;obtain⟨i,j,rfl,rfl,q⟩:=h;obtain⟨t,rfl⟩:=r;obtain⟨e,rfl⟩:=a;exact rule i j t e s _ _ ⟨.int (g i j),H,I.tok _,⟨_,rfl⟩,q⟩
theorem I_{f:Value->Value->Sem Value}{g:Int->Int->Bool}
  (rule:∀(i j:Int)(t u:Tok)(s:Shared)(Q:VP)(E:VP),Q (.bool (g i j)) s->wx X (f (.int i t) (.int j u)) Q E s) :
  ke X f (IC λi j=>.bl (g i j)):=by
 intro pins s J H x y v u Q I r a h;obtain⟨i,j,rfl,rfl,q⟩:=h;obtain⟨t,rfl⟩:=r;obtain⟨e,rfl⟩:=a;exact rule i j t e s _ _ ⟨.bl (g i j),H,I,rfl,q⟩
def Sg(i j:Int):Prop:=0≤j/\j≤1000000/\i.natAbs < 2 ^ 64
theorem L0:ke X (binaryOp .Add) (IC λi j=>.int (i+j)):=OP λ_ _ _ _ _ _ _ q=>add_int q
theorem LR:ke X (binaryOp .Sub) (IC λi j=>.int (i-j)):=OP λ_ _ _ _ _ _ _ q=>sub_int q
theorem LX:ke X (binaryOp .Mod) (rI (λ_ j=>0 < j) λi j=>.int (i % j)):=P8 λi j _ _ _ _ _ h q=>by have h1:(0:Int) < j:=h;exact mod_int' (by lia) (by rw[Int.fmod_eq_emod_of_nonneg i (by lia)];exact q)
theorem LW:ke X (binaryOp .Pow) (rI Sg λi j=>.int (i ^ j.toNat)):=P8 λ_ _ _ _ _ _ _ h q=>pow_int_small h.1 h.2.1 h.2.2 q
theorem Tc{f:Value->Sem Value}{g:Int->Int}
  (rule:∀(i:Int)(t:Tok)(s:Shared)(Q:VP)(E:VP),Q (.int (g i) s.toks) { s with toks:=s.toks+1 }->wx X (f (.int i t)) Q E s) :
  R6 X f (rU λi=>.int (g i)):=by
 intro pins s J H x v Q I r h;obtain⟨i,rfl,q⟩:=h;obtain⟨t,rfl⟩:=r;exact rule i t s _ _ ⟨.int (g i),H,I.tok _,⟨_,rfl⟩,q⟩
theorem K3:R6 X (unaryOp .USub) (rU λi=>.int (-i)):=Tc λ_ _ _ _ _ q=>neg_int q
end
noncomputable def Oq:V->V->Bool
 | .non,.non=>true | .non,.int _=>true | .int _,.non=>true | .non,.bl _=>true | .bl _,.non=>true | .non,.str _=>true | .str _,.non=>true
 | .int _,.int _=>true | .bl _,.bl _=>true | .str _,.str _=>true | .byt _,.byt _=>true
 | .int _,.str _=>true | .str _,.int _=>true | .bl _,.str _=>true | .str _,.bl _=>true
 |_,_=>false
def Tp:R2:=λx y H Q=>Oq x y=true/\Q (.bl (decide (x=y))) H
def To:R2:=λx y H Q=>Oq x y=true/\Q (.bl (!decide (x=y))) H
theorem Cv{i j:Int}:decide (V.int i=V.int j)=(i == j):=by rw[qu];simp
theorem Gy:decide (V.bl i=V.bl q)=(i == q):=by rw[qu];simp
theorem Cu:decide (V.str i=V.str q)=(i == q):=by rw[qu];simp
theorem Cw:decide (V.byt i=V.byt q)=(i.toList == q.toList):=by rw[qu];cases i;cases q;simp
section
variable{X:Cx}{a b c:Expr}{ta tb tc:TE}{B:Pos}
theorem bZ(I:Inv X pins J H s)(q:Q (.bl k) H)(e:k=z):EP X pins J Q (.bool z) s:=by subst e;exact⟨.bl k,H,I,rfl,q⟩
theorem Fz:ke X (compareOp .Eq) Tp:=by
 intro pins s J H x y v u Q I n r h;obtain⟨e,q⟩:=h;cases x with
 |non=>
  cases n;cases y with
  |non=>cases r;exact HA (bZ I q (by simp))
  |bl j=>cases r;exact Hy (bZ I q (by simp))
  |int j=>obtain⟨a,rfl⟩:=r;exact Hz (bZ I q (by simp))
  |str j=>obtain⟨a,rfl⟩:=r;exact HB (bZ I q (by simp))
  |_=>exact absurd (show false=true from e) b7
 |bl i=>
  cases n;cases y with
  |non=>cases r;exact Hw (bZ I q (by simp))
  |bl j=>cases r;exact eq_bool (bZ I q Gy)
  |str j=>obtain⟨a,rfl⟩:=r;exact Hn (bZ I q (by simp))
  |_=>exact absurd (show false=true from e) b7
 |int i=>
  obtain⟨t,rfl⟩:=n;cases y with
  |non=>cases r;exact Hx (bZ I q (by simp))
  |int j=>obtain⟨a,rfl⟩:=r;exact eq_int (bZ I q Cv)
  |str j=>obtain⟨a,rfl⟩:=r;exact Ho (bZ I q (by simp))
  |_=>exact absurd (show false=true from e) b7
 |str i=>
  obtain⟨t,rfl⟩:=n;cases y with
  |non=>cases r;exact HC (bZ I q (by simp))
  |bl j=>cases r;exact Hq (bZ I q (by simp))
  |int j=>obtain⟨a,rfl⟩:=r;exact Hr (bZ I q (by simp))
  |str j=>obtain⟨a,rfl⟩:=r;exact eq_str (bZ I q Cu)
  |_=>exact absurd (show false=true from e) b7
 |byt i=>
  obtain⟨t,rfl⟩:=n;cases y with
  |byt j=>obtain⟨a,rfl⟩:=r;exact PySem.W.eq_bytes (bZ I q Cw)
  |_=>exact absurd (show false=true from e) b7
 |_=>cases y<;>exact absurd (show false=true from e) b7
theorem Fx:ke X (compareOp .NotEq) To:=by
 intro pins s J H x y v u Q I n r h;obtain⟨e,q⟩:=h;cases x with
 |non=>
  cases n;cases y with
  |non=>cases r;exact HH (bZ I q (by simp))
  |bl j=>cases r;exact HF (bZ I q (by simp))
  |int j=>obtain⟨a,rfl⟩:=r;exact HG (bZ I q (by simp))
  |str j=>obtain⟨a,rfl⟩:=r;exact HI (bZ I q (by simp))
  |_=>exact absurd (show false=true from e) b7
 |bl i=>
  cases n;cases y with
  |non=>cases r;exact HD (bZ I q (by simp))
  |bl j=>cases r;exact ne_bool (bZ I q (gZ not Gy))
  |str j=>obtain⟨a,rfl⟩:=r;exact Hs (bZ I q (by simp))
  |_=>exact absurd (show false=true from e) b7
 |int i=>
  obtain⟨t,rfl⟩:=n;cases y with
  |non=>cases r;exact HE (bZ I q (by simp))
  |int j=>obtain⟨a,rfl⟩:=r;exact ne_int (bZ I q (gZ not Cv))
  |str j=>obtain⟨a,rfl⟩:=r;exact Ht (bZ I q (by simp))
  |_=>exact absurd (show false=true from e) b7
 |str i=>
  obtain⟨t,rfl⟩:=n;cases y with
  |non=>cases r;exact HJ (bZ I q (by simp))
  |bl j=>cases r;exact Hu (bZ I q (by simp))
  |int j=>obtain⟨a,rfl⟩:=r;exact Hv (bZ I q (by simp))
  |str j=>obtain⟨a,rfl⟩:=r;exact ne_str (bZ I q (gZ not Cu))
  |_=>exact absurd (show false=true from e) b7
 |byt i=>
  obtain⟨t,rfl⟩:=n;cases y with
  |byt j=>obtain⟨a,rfl⟩:=r;exact PySem.W.ne_bytes (bZ I q (gZ not Cw))
  |_=>exact absurd (show false=true from e) b7
 |_=>cases y<;>exact absurd (show false=true from e) b7
theorem OD:ke X (compareOp .Lt) (IC λi j=>.bl (decide (i < j))):=I_ λ_ _ _ _ _ _ _ q=>As q
theorem OE:ke X (compareOp .LtE) (IC λi j=>.bl (decide (i≤j))):=I_ λ_ _ _ _ _ _ _ q=>le_int q
theorem OF:ke X (compareOp .Gt) (IC λi j=>.bl (decide (j < i))):=I_ λ_ _ _ _ _ _ _ q=>gt_int q
theorem OG:ke X (compareOp .GtE) (IC λi j=>.bl (decide (j≤i))):=I_ λ_ _ _ _ _ _ _ q=>ge_int q
theorem LY:ke X (compareOp .Is) (λx y H Q=>y=.non/\Q (.bl (decide (x=.non))) H):=by
 intro pins s J H x y v u Q I r a h;obtain⟨rfl,q⟩:=h;cases a;refine is_none_gen (bZ I q ?_);cases x<;>first
  |(cases r;rfl)
  |(obtain⟨t,rfl⟩:=r;rfl)
theorem IX:ke X (compareOp .IsNot) (λx y H Q=>y=.non/\Q (.bl (!decide (x=.non))) H):=by
 intro pins s J H x y v u Q I r a h;obtain⟨rfl,q⟩:=h;cases a;refine isnot_none_gen (bZ I q ?_);cases x<;>first
  |(cases r;rfl)
  |(obtain⟨t,rfl⟩:=r;rfl)
theorem BR{o:CmpOp}{r:R2}(f:ke X (compareOp o) r)(n:PE X a ta)(k:PE X b tb)(m:behindInMarks o b=false):PE X (.Compare a [o] [b] B) (La r ta tb):=by intro pins s J H Q I h;exact wpAny_Compare1 (M3 n k I h λv u p x y H2 e c t q=>f pins p J H2 x y v u Q e c t q) m
noncomputable def EI(t:TE):TT:=λJ H Q=>t J H λx H'=>∃k,x=.bl k/\Q k H'
theorem BL(o:ke X (compareOp q) r)(p:PE X a ta)(d:PE X b tb)(w:behindInMarks q b=false):PT X (.Compare a [q] [b] B) (EI (La r ta tb)):=by
 intro pins s J H Q I h;refine wpAny_isTrue_Compare1 (dL (p pins s J H _ I h) fun v K ⟨x,G,f,l,g⟩=>dL (d pins K J G _ f g) fun u P ⟨y,H2,m,S,i⟩=>
  dL (o pins P J H2 x y v u _ m l S i) λc A ⟨z,n,t,F,k,e,j⟩=>?_) w
 subst e;cases F;exact lp ⟨n,t,j⟩
noncomputable def yM(r e:R2)(ta tb tc:TE):TE:=λJ H Q=>ta J H λx G=>tb J G λy H2=>r x y H2 λz h=>∃k,z=.bl k /\
 (if k=true then tc J h λw a=>e y w a Q else Q (.bl false) h)
theorem Fv(K:ke X (compareOp N) r)(o:ke X (compareOp q) r')(j:PE X a ta)(l:PE X b tb)(S:PE X c tc)
  (F:lastMarks [N,q] [b,c]=false:=by with_unfolding_all rfl):PE X (.Compare a [N,q] [b,c] B) (yM r r' ta tb tc):=by
 intro pins s J H Q I h;refine Compare_chain (dL (j pins s J H _ I h) fun v M ⟨x,G,w,D,P⟩=>chain_link (dL (l pins M J G _ w P) fun u R ⟨y,H2,g,t,A⟩=>
  dL (K pins R J H2 x y v u _ g D t A) λd T ⟨z,n,f,E,k,e,m⟩=>?_)) F
 subst e;cases E;refine lp ?_;cases k with
 |false=>exact ite_ff ⟨.bl false,n,f,rfl,m⟩
 |true=>exact ite_tt (chain_last (dL (S pins T J n _ f m) λW V ⟨Z,p,i,L,C⟩=>o pins V J p y Z u W Q i t L C))
theorem Fc(D:ke X (compareOp N) r)(o:ke X (compareOp q) r')(K:PE X a ta)(P:PE X b tb)(A:PE X c tc)
  (C:lastMarks [N,q] [b,c]=false:=by with_unfolding_all rfl):PT X (.Compare a [N,q] [b,c] B) (EI (yM r r' ta tb tc)):=by
 intro pins s J H Q I h;refine isTrue_chain (dL (K pins s J H _ I h) fun v s1 ⟨x,G,g,W,M⟩=>test_link (dL (P pins s1 J G _ g M) fun u s2 ⟨y,H2,i,t,R⟩=>
  dL (D pins s2 J H2 x y v u _ i W t R) λd s3 ⟨z,n,f,Z,k,e,m⟩=>?_)) C
 subst e;cases Z;refine lp ?_;cases k with
 |false=>obtain⟨k',S,L⟩:=m;cases S;exact ite_ff ⟨n,f,L⟩
 |true=>refine ite_tt (test_last (dL (A pins s3 J n _ f m) λw' s4 ⟨z',p,j,r4,T⟩=>dL (o pins s4 J p y z' u w' _ j t r4 T) λd' s5 E=>?_));obtain⟨z2,w,l,r5,k2,F,V⟩:=E;subst F;cases r5;exact lp ⟨w,l,V⟩
def M5(K:FG)(x:V)(H:Hp)(k:Bool):Prop:=
 match x with
 | .non=>k=false
 | .bl b=>k=b
 | .int i=>k=(i != 0)
 | .str y=>y.length≤sizeLine/\k=((y.length:Int) != 0)
 | .byt y=>y.size≤sizeLine/\k=((y.size:Int) != 0)
 | .ref p=>(∃xs,gY K H p xs/\k=!xs.isEmpty)\/(∃xs,oF K H p xs/\k=!xs.isEmpty)\/∃kvs,H p=some (.dK kvs)/\k=!kvs.isEmpty
 |_=>False
theorem y_(r:KV kvs q):(!q.isEmpty)=!kvs.isEmpty:=by cases r<;>rfl
theorem sN(r:bc xs q):(!q.toArray.isEmpty)=!xs.isEmpty:=by cases r<;>simp
theorem ly:(sizeLine:Nat) < 2 ^ 63:=by rw[oJ];decide
theorem K4:R7 X (λx H Q=>∃k,M5 X.K x H k/\Q k H):=by
 intro pins s J H x v Q I rx h;obtain⟨k,e,q⟩:=h;have hl:=ly;have hs:sizeLine=16777216:=oJ;cases x with
 |non=>cases rx;have e':k=false:=e;subst e';exact truthy_none ⟨H,I,q⟩
 |bl b=>cases rx;have e':k=b:=e;subst e';exact lp ⟨H,I,q⟩
 |int i=>obtain⟨t,rfl⟩:=rx;have e':k=(i != 0):=e;subst e';exact PySem.P.truthy_int ⟨H,I,q⟩
 |str y=>obtain⟨t,rfl⟩:=rx;obtain⟨hy,e'⟩:y.length≤sizeLine/\k=((y.length:Int) != 0):=e;subst e';exact PySem.P.truthy_str (by lia) ⟨H,I.tok _,q⟩
 |byt y=>obtain⟨t,rfl⟩:=rx;obtain⟨hy,e'⟩:y.size≤sizeLine/\k=((y.size:Int) != 0):=e;subst e';exact PySem.W.truthy_bytes (by lia) ⟨H,I.tok _,q⟩
 |ref p=>
  cases rx;have e':(∃xs,gY X.K H p xs/\k=!xs.isEmpty)\/(∃xs,oF X.K H p xs/\k=!xs.isEmpty)\/∃kvs,H p=some (.dK kvs)/\k=!kvs.isEmpty:=e;rcases e' with ⟨xs,hx,e'⟩|⟨xs,hx,e'⟩|⟨kvs,hx,e'⟩
  .subst e';obtain⟨its,r,pl,hz⟩:=I.list hx;have hlen:=r.length;exact wpAny_truthy_list pl.isList (by simp only[be];lia) ⟨H,I.tok _,by rw[sN r];exact q⟩
  .subst e';obtain⟨its,r,pl,hz⟩:=I.tuple hx;have hlen:=r.length;exact truthy_tuple pl (by simp only[be];lia) ⟨H,I.tok _,by rw[sN r];exact q⟩
  .subst e';obtain⟨hz,hS,vs,r,m⟩:kvs.length≤sizeLine/\(p == sysModules)=false/\∃vs,KV kvs vs/\s.heap.DictOf (cJ X.p X.w) p vs:=I.h p _ hx;have hlen:kvs.length=vs.length:=Paired.length r;exact wpAny_truthy_dict hS m (by lia) ⟨H,I.tok _,by rw[y_ r];exact q⟩
 |_=>exact(show False from e).elim
theorem Fb(n:PE X a ta)(f:∀w,isTrue a X.e w=(do let v <- w;standAt a.pos;holding [v] (truthy v))) :
  PT X a (λJ H Q=>ta J H λx H'=>∃k,M5 X.K x H' k/\Q k H'):=by
 intro pins s J H Q I h;exact isTrue_plain (dL (n pins s J H _ I h) λv b z=>by obtain⟨x,G,e,r,q⟩:=z;exact K4 pins b J G x v Q e r q) (f _)
theorem y1:ke X (binaryOp .Add) (λx y H Q=>∃i j,x=.str i/\y=.str j/\i.length+j.length≤sizeLine/\Q (.str (i++j)) H):=by intro pins s J H x y v u Q I r a h;obtain⟨i,j,rfl,rfl,z,q⟩:=h;obtain⟨t,rfl⟩:=r;obtain⟨e,rfl⟩:=a;exact add_str (λe tk=>⟨.str (i++j),H,I.tok _,⟨_,rfl⟩,q⟩) z
theorem vals1(r:bc [x] j):∃u,j=[u]/\RelV x u:=by
 cases r with
 |cons h a=>cases a;exact⟨_,rfl,h⟩
theorem vals2(r:bc [x,y] j):∃u w,j=[u,w]/\RelV x u/\RelV y w:=by
 cases r with
 |cons h a=>
  cases a with
  |cons e s=>cases s;exact⟨_,_,rfl,h,e⟩
theorem GO:fH X (.builtin "abs") (λxs H Q=>∃i,xs=[.int i]/\Q (.int (if i < 0 then -i else i)) H):=by intro pins s J H xs j Q I r h;obtain⟨i,rfl,q⟩:=h;obtain⟨u,rfl,t,rfl⟩:=vals1 r;exact call_abs_int λu tk=>⟨.int (if i < 0 then -i else i),H,I.tok _,⟨_,rfl⟩,q⟩
theorem uK:fH X (.type "int") (λxs H Q=>(∃i,xs=[.int i]/\Q (.int i) H)\/∃k,xs=[.bl k]/\Q (.int (if k then 1 else 0)) H):=by
 intro pins s J H xs j Q I r h;rcases h with ⟨i,rfl,q⟩|⟨k,rfl,q⟩
 .obtain⟨u,rfl,t,rfl⟩:=vals1 r;exact call_int_int ⟨.int i,H,I,⟨_,rfl⟩,q⟩
 .obtain⟨u,rfl,x⟩:=vals1 r;cases x;exact call_int_bool ⟨.int (if k then 1 else 0),H,I.tok _,⟨_,rfl⟩,q⟩
end
structure ObjM(h:Heap)(x dx C:Addr)(mA:SV):Prop where
 obj:h.get? x=some (lj C dx)
 ns:h.Ns1 dx mA
 ne:dx≠x
set_option tactic.hygienic true in
theorem De(n:h.Ns1 dx mA):∃d,h.get? dx=some d/\∀name,qW name d=some (mA name):=by
 obtain⟨o,es,p,f,hd,s,_,m⟩:=n;refine⟨o,f,λname=>?_⟩;have e:=m name;unfold nsFind findBy at e;rw[<- Array.find?_toList]at e;unfold qW;rw[hd];dsimp only;split
 .rename_i y q;rw[q]at e;exact gZ some e
 .rename_i q;rw[q]at e;have a:es.toList.any (·.refKey)=false:=by
   rw[List.any_eq_false];intro y b;obtain⟨z,t,k⟩:=s y (Array.mem_toList_iff.mp b);simp[DictEntry.refKey,k]
  have x:¬es.toList.any (·.refKey)=true:=by rw[a];exact b7
  rw[al x];exact gZ some e
variable{C:Addr}
theorem ObjM.look(I:ObjM h x dx C mA):∃o,PySem.W.InstAt h x (lj C dx) C (some o)/\∀name,qW name o=some (mA name):=
 let ⟨o,a,l⟩:=De I.ns
 ⟨o,⟨I.obj,rfl,rfl,a⟩,l⟩
section
variable{prog:Program}{w:World}{A:Around}{E:VP}{s:Shared}{K:FG}{x dx C f:Addr}{mA:SV}{name:Str}{v:Value}
theorem Jq(X:K.In s.heap)(I:ObjM s.heap x dx C mA)(g:rG K C name=true)(k:uV K C=true)
  (n:eO K (.ref C) name=some none) (f:mA name=some v) (a:Bn v=true) (h:Q v { s with toks:=s.toks+1 }) :
  wpAny (model prog w) A (getAttr (.ref x) name q) Q E s:=by
 obtain⟨o,e,l⟩:=I.look;exact PySem.W.get_value X e (vL g).1 (PySem.W.findObj_own k n rfl (by rw[l,f])) a h
theorem Gh(X:K.In s.heap)(I:ObjM s.heap x dx C mA)(g:rG K C name=true)
  (e:eO K (.ref C) name=some (some (.ref f))) (t:qV K (.ref f)=true) (v:mA name=none) (h:Q (.ref f,[.ref x]) s) :
  wpAny (model prog w) A (getMethod (.ref x) name q) Q E s:=by
 obtain⟨o,a,l⟩:=I.look;exact PySem.W.method_fn X a (vL g).1 (vL g).2 e (ll.mp t) (by show(qW name o).map (·.isSome)=some false;rw[l,v];rfl) h
theorem Iw(X:K.In s.heap)(I:ObjM s.heap x dx C mA)
  (q:eO K (.ref C) "__setattr__"=some (some (.builtin "object.__setattr__"))) (hp:vJ K C=true) (u:vH K C name=some none) (t:uV K C=true)
  (hw:yx mA N) (z:N.length≤sizeLine)
  (h:∀h',ObjM h' x dx C (λy=>if y=name then some v else mA y)->gx dx s.heap h'->Q () { s with heap:=h',toks:=s.toks+2 }) :
  wpAny (model prog w) A (setAttr (.ref x) name v) Q E s:=by
 obtain⟨H,k,l⟩:=I.look;refine PySem.W.set_plain X k q (PySem.W.osa_open (s:={ s with toks:=s.toks+1 }) (r:=none) X k hp u λb=>?_);obtain⟨i,m,d⟩:=PySem.W.any_some t;have g:s.heap.get? x=some ⟨.ref C,some dx,.plain,#[]⟩:=I.obj;refine ac (aA (ac (ac (wpAny_loadPart g (ac (PySem.W.Looks.here (s:={ s with toks:=s.toks+1 }) (PySem.W.looks_clsIn X m) ?_))))));rw[d];refine aA (a:=some dx) (ac (aA (ac ?_)));refine wpAny_nsSet1 (s:={ s with toks:=s.toks+1 }) I.ns λh' n e=>?_;obtain⟨j,f,p,o,D,c⟩:=n.count (PySem.Within.cons name v hw);refine ac (wpAny_lookBehind o (by rw[D];exact pastItsLine_dict (aF c (by rw[aV];lia))) ?_);exact aA (h _ ⟨(e.2 _ (aQ I.ne)).trans I.obj,n,I.ne⟩ e)
theorem FO(X:K.In s.heap)(m:vG K C=true)
  (hi:eO K (.ref C) "__init__"=some (some (.ref f))) (x:PySem.W.typeIn K (.ref f)=some (.type "function"))
  (h:codeAny (model prog w) (A.under (.builtin "type.__call__" ⟨.ref C::q,kw⟩)) (.call (.ref f) ⟨.ref (s.heap.objs.size+1)::q,kw⟩) (PySem.W.InitBack (s.heap.objs.size+1) R)
   { s with heap:=(s.heap.push kg).push (lj C s.heap.objs.size) }) :
  codeAny (model prog w) A (.call (.ref C) ⟨q,kw⟩) R s:=by
 obtain⟨a,g,d,t,os⟩:=s;exact PySem.W.make_core (PySem.W.makes_of X m) (PySem.W.looks_findIn X hi) (λe=>PySem.W.bind_fn X e x) (.inl rfl) h
end
noncomputable def jO(f:Str)(v:V):List (Str×V)->List (Str×V)
 | []=>[(f,v)]
 |(g,x)::r=>if g=f then (g,v)::r else (g,x)::jO f v r
theorem pB(f g:Str)(v:V):∀fs:List (Str×V),(jO f v fs).lookup g=if g=f then some v else fs.lookup g
 | []=>by
  show gB g [(f,v)]=_;by_cases h:g=f
  .have b:(g == f)=true:=ll.mpr h;simp only[gB,b,aj h]
  .have b:(g == f)=false:=rJ.mpr h;simp only[gB,b,al h]
 |(k,x)::r=>by
  have i:=pB f g v r;rw[show jO f v ((k,x)::r)=(if k=f then (k,v)::r else (k,x)::jO f v r) from rfl];by_cases a:k=f
  .rw [aj a];by_cases h:g=k
   .have b:(g == k)=true:=ll.mpr h;simp only[gB,b,aj (h.trans a)]
   .have b:(g == k)=false:=rJ.mpr h;simp only[gB,b,al (λe:g=f=>h (e.trans a.symm))]
  .rw [al a];by_cases h:g=k
   .have b:(g == k)=true:=ll.mpr h;simp only[gB,b,al (λe:g=f=>a (h.symm.trans e))]
   .have b:(g == k)=false:=rJ.mpr h;simp only[gB,b];exact i
theorem oY(f:Str)(v:V):∀fs:List (Str×V),f ∈ (jO f v fs).map (·.1)/\∀g,g ∈ fs.map (·.1)->g ∈ (jO f v fs).map (·.1)
 | []=>⟨by simp[jO],λg h=>by simp at h⟩
 |(k,x)::r=>by
  obtain⟨i,s⟩:=oY f v r;rw[show jO f v ((k,x)::r)=(if k=f then (k,v)::r else (k,x)::jO f v r) from rfl];by_cases a:k=f
  .rw [aj a];subst a;exact⟨by simp,λg h=>by simpa using h⟩
  .rw [al a];refine⟨?_,λg h=>?_⟩
   .rw [aE];exact ao _ i
   .rw [aE]at h ⊢;rcases aW.mp h with e|e
    .exact aW.mpr (.inl e)
    .exact ao _ (s g e)
theorem pC(f:Str)(v:V):∀fs:List (Str×V),(jO f v fs).length≤fs.length+1
 | []=>by simp[jO]
 |(k,x)::r=>by
  have i:=pC f v r;rw[show jO f v ((k,x)::r)=(if k=f then (k,v)::r else (k,x)::jO f v r) from rfl];by_cases h:k=f
  .rw [aj h,aV,aV];lia
  .rw [al h,aV,aV];lia
theorem lf.some_of{v:V}{o:OV}(r:lf (some v) o):∃u,o=some u/\RelV v u:=by
 cases o with
 |none=>exact(show False from r).elim
 |some u=>exact⟨u,rfl,r⟩
theorem lf.none_of{o:OV}(r:lf none o):o=none:=by
 cases o with
 |none=>rfl
 |some u=>exact(show False from r).elim
variable{v:V}
theorem Dn(r:RelV v u):Bn u=true:=by
 cases v with
 |non=>cases (show u=Value.none from r);rfl
 |bl b=>cases (show u=Value.bool b from r);rfl
 |int i=>obtain⟨t,e⟩:=(show ∃t,u=Value.int i t from r);cases e;rfl
 |str x=>obtain⟨t,e⟩:=(show ∃t,u=Value.str x t from r);cases e;rfl
 |byt b=>obtain⟨t,e⟩:=(show ∃t,u=Value.bytes b t from r);cases e;rfl
 |flt b=>obtain⟨t,e⟩:=(show ∃t,u=Value.float b t from r);cases e;rfl
 |ref a=>cases (show u=Value.ref a from r);rfl
 |ty n=>cases (show u=Value.type n from r);rfl
section
variable{P:Program}{w:World}{H H':Hp}{h h':Heap}{a C dx:Addr}{fs fs':List (Str×V)}
theorem wy(o:HOk P w H h)(e:H a=some (.ins C dx fs)):∃mA,ObjM h a dx C mA/\(∀f,lf (fs.lookup f) (mA f))/\yx mA (fs.map (·.1))/\fs.length≤1000/\H dx=some (.own a):=by obtain⟨d,z,x,b,mA,n,r,q⟩:=(show eB P w H h a (.ins C dx fs) from o a _ e);exact⟨mA,⟨b,n,x⟩,r,q,z,d⟩
end
structure Cls(K:FG)(C:Addr):Prop where
 pg:rG K C Str.empty=true
 hd:uV K C=true
 po:vJ K C=true
 sa:eO K (.ref C) "__setattr__"=some (some (.builtin "object.__setattr__"))
theorem Cls.get(c:Cls K C)(f:Str):rG K C f=true:=c.pg
def ng(K:FG)(C:Addr)(f:Str):Prop:=eO K (.ref C) f=some none
theorem ng.taker(n:ng K C f):vH K C f=some none:=by unfold vH;rw[show eO K (.ref C) f=some none from n];rfl
structure Con(K:FG)(C:Addr)(f:Str)(v:V)(u:Value):Prop where
 at_:eO K (.ref C) f=some (some u)
 rel:RelV v u
 get:Bo K u "__get__"=some none
 cp:PySem.W.copiedNames.contains f=false
structure Meth(K:FG)(C:Addr)(m:Str)(f:Addr):Prop where
 at_:eO K (.ref C) m=some (some (.ref f))
 fn:qV K (.ref f)=true
 kp:iA K (.ref f)=true
section
variable{X:Cx}{pins:PN}{J:St}{H:Hp}{s:Shared}{a C dx:Addr}{fs:List (Str×V)}{f:Str}{v:V}{A:Around}{E:VP}
theorem zc{b:Bool}{Q:VP}(I:Inv X pins J H s)(e:H a=some (.ins C dx fs))(c:Cls X.K C)(n:ng X.K C f)(l:fs.lookup f=some v)
  (h:∀u s',Inv X pins J H s'->RelV v u->Q u s'):wpAny (model X.p X.w) A (getAttr (.ref a) f b) Q E s:=by
 obtain⟨mA,k,r,_,_,_⟩:=wy I.h e;obtain⟨u,m,x⟩:=lf.some_of (v:=v) (o:=mA f) (by rw[<- l];exact r f);exact Jq I.kIn k (c.get f) c.hd n m (Dn x) (h u _ (I.tok _) x)
theorem sS{m:Str}{g:Addr}{p:Sem Bool}{Q:Value×LV->Shared->Prop}(I:Inv X pins J H s)(e:H a=some (.ins C dx fs))(c:Cls X.K C)(k:Meth X.K C m g)(l:fs.lookup m=none)
  (h:Q (.ref g,[.ref a]) s):wpAny (model X.p X.w) A (getMethod (.ref a) m p) Q E s:=by
 obtain⟨mA,x,r,_,_,_⟩:=wy I.h e;have n:mA m=none:=lf.none_of (by rw[<- l];exact r m);exact Gh I.kIn x (c.get m) k.at_ k.fn n h
theorem yR(I:Inv X pins J H s)(e:H a=some (.ins C dx fs))(c:Cls X.K C)(n:ng X.K C f)(hl:fs.length < 1000)(ry:RelV y u)
  (h:∀s',Inv X pins J (cx H a (.ins C dx (jO f y fs))) s'->Q () s'):wpAny (model X.p X.w) A (setAttr (.ref a) f u) Q E s:=by
 obtain⟨mA,O9,r,wi,_,ho⟩:=wy I.h e;have hz:(fs.map (·.1)).length≤sizeLine:=by rw[aR,oJ];lia
 refine Iw I.kIn O9 c.sa c.po n.taker c.hd wi hz λh' O' sb=>h _ ?_;have hd:∃o,h'.get? dx=some o:=let ⟨o,_,_,e',_⟩:=O'.ns;⟨o,e'⟩
 refine I.write (x:=a) (e:=dx) (by rw[e];exact True.intro) (.inr ho) (λb q hb z=>(sb.2 b hb).trans z) hd ?_;refine⟨by rw[aw O9.ne];exact ho,?_,O9.ne,O'.obj,_,O'.ns,λg=>?_,λg hg=>?_⟩
 .have:=pC f y fs;lia
 .show lf ((jO f y fs).lookup g) (if g=f then some u else mA g);rw[pB];by_cases q:g=f
  .rw [aj q,aj q];exact ry
  .rw [al q,al q];exact r g
 .by_cases q:g=f
  .rw [q];exact(oY f y fs).1
  .refine (oY f y fs).2 g (wi g λz=>hg ?_);show(if g=f then some u else mA g)=none;rw[al q];exact z
theorem Inv.made(I:Inv X pins J H s):Inv X pins J (cx (cx H s.heap.objs.size (.own (s.heap.objs.size+1))) (s.heap.objs.size+1) (.ins C s.heap.objs.size []))
  { s with heap:=(s.heap.push kg).push (lj C s.heap.objs.size) }:=by
 have h:(s.heap.push kg).get? s.heap.objs.size=some kg:=db s.heap rfl;have k:((s.heap.push kg).push (lj C s.heap.objs.size)).get? (s.heap.objs.size+1)=some (lj C s.heap.objs.size):=by have:=db (s.heap.push kg) (o:=lj C s.heap.objs.size) rfl;rwa [rH]at this
 have f:(s.heap.push kg).Ns s.heap.objs.size (λ_=>none):=⟨kg,#[],_,h,rfl,(λe c=>absurd c (by simp)),λ_=>rfl⟩;have x:=I.laid (a:=s.heap.objs.size) (o:=.own (s.heap.objs.size+1)) (h':=s.heap.push kg) (t':=s.toks) (λb u q=>bD _ q) (ah _) ⟨_,h⟩;refine x.laid (a:=s.heap.objs.size+1) (o:=.ins C s.heap.objs.size []) (t':=s.toks) (λb u q=>bD _ q) (qT (rH _ _)) ?_;have n:s.heap.objs.size≠s.heap.objs.size+1:=bB (i3 _);refine⟨by rw[aw n,aU],cT _,n,k,λ_=>none,(Heap.Ns1.of_empty f).at λo q=>bD _ q,λ_=>True.intro,λy m=>absurd rfl m⟩
theorem JJ(b:attributeBase e f q (eval e q)=eval e q)
  (h:wpAny (model prog w) A (eval e q) (λo x=>wpAny (model prog w) A (getAttr o f true) Q E x) E s):wpAny (model prog w) A (eval (.Attribute e f B) q) Q E s:=
 Attribute_any_ h (by rw[arm_eval_Attribute,b])
end
def Q'(K:FG)(ta:TE)(f:Str):TE:=λJ H Q=>ta J H λx G=>∃a C dx fs v,x=.ref a/\G a=some (.ins C dx fs)/\Cls K C/\ng K C f/\fs.lookup f=some v/\Q v G
def Rf(K:FG)(ta tv:TE)(f:Str):TS:=λD J H=>tv J H λy G=>ta J G λx H2=>∃a C dx fs,x=.ref a/\H2 a=some (.ins C dx fs)/\Cls K C/\ng K C f/\fs.length < 1000 /\
 D.nx J (cx H2 a (.ins C dx (jO f y fs)))
section
variable{X:Cx}{o e value:Expr}{f:Str}{B pos' tpos:Pos}{ta tv:TE}
theorem LO(t:PE X e ta)(r:attributeBase e f X.e (eval e X.e)=eval e X.e):PE X (.Attribute e f B) (Q' X.K ta f):=by intro pins s J H Q I h;refine JJ r (dL (t pins s J H _ I h) λu w z=>?_);obtain⟨x,G,k,d,a,C,dx,fs,v,ex,m,c,n,l,q⟩:=z;subst ex;obtain rfl:u=Value.ref a:=d;exact zc k m c n l λi g b p=>⟨v,G,b,p,q⟩
theorem LA(r:PE X o ta)(v:PE X value tv)(t:swapsWith value (some (.Attribute o f pos')) B.line X.e=pure false):PS X (.Assign [.Attribute o f pos'] value B) (Rf X.K ta tv f):=by intro pins s J H D I h;refine plainObj_wpAny_Assign_Attribute (dL (v pins s J H _ I h) λu i ⟨y,G,e,g,q⟩=>dL (r pins i J G _ e q) λp j z=>?_) t;obtain⟨x,H2,k,w,a,C,dx,fs,ex,m,c,n,l,d⟩:=z;subst ex;obtain rfl:p=Value.ref a:=w;exact yR k m c n l g λS b=>⟨J,_,b,d⟩
end
section
variable{X:Cx}{pins:PN}{J:St}{H:Hp}{s:Shared}{A:Around}{E:VP}{Q:VP}{c:Value}{b:Bool}
inductive TyOf(K:FG)(H:Hp):V->Value->Prop where
 |non:TyOf K H .non (.type "NoneType")
 |bl (x:Bool):TyOf K H (.bl x) (.type "bool")
 |int (i:Int):TyOf K H (.int i) (.type "int")
 |str (x:Str):TyOf K H (.str x) (.type "str")
 |flt (x:UInt64):TyOf K H (.flt x) (.type "float")
 |lst {a:Addr}{xs:List V} (e:H a=some (.lst xs)):TyOf K H (.ref a) (.type "list")
 |frz {a:Addr}{o:Obj}{xs:List V} (e:H a=some (.frz o (.lst xs))):TyOf K H (.ref a) (.type "list")
 |tup {a:Addr}{xs:List V} (e:H a=some (.tup xs)):TyOf K H (.ref a) (.type "tuple")
 |dK {a:Addr}{kvs:List (bG×V)} (e:H a=some (.dK kvs)):TyOf K H (.ref a) (.type "dict")
 |dT {a:Addr}{kvs:List (List bG×V)} (e:H a=some (.dT kvs)):TyOf K H (.ref a) (.type "dict")
 |ins {a C dx:Addr}{fs:List (Str×V)} (e:H a=some (.ins C dx fs)) (cl:Cls K C) (ha:eO K (.ref C) "__class__"=some (some (.builtin "object.__class__")))
   (hn:Bo K (.builtin "object.__class__") "__get__"=some (some (.builtin "getset_descriptor.__get__"))) (htk:PySem.W.takesIn K (.builtin "object.__class__")=some true)
   (hm:PySem.W.mroIn K C (.type "object")=some true):TyOf K H (.ref a) (.ref C)
end
structure Room(k:Nat)(A:Around):Prop where
 hd:A.handled=none
 dp:A.depth+3 * k+5 < recursionLimit
 un:A.units+16 * k+200 < cLine
variable{k:Nat}
theorem Room.mono(r:Room k A)(h:q≤k):Room q A:=⟨r.hd,by have:=r.dp;lia,by have:=r.un;lia⟩
theorem Room.deeper(r:Room (k+1) A)(e:Env):Room k (A.deeper e):=
 ⟨r.hd,by have:=r.dp;show A.depth+1+3 * k+5 < _;lia,by have:=r.un;show A.units+3+16 * k+200 < _;lia⟩
variable{kw:List (Str×Value)}
theorem y6:(A.under (.builtin "type.__call__" ⟨.ref C::j,kw⟩)).depth=A.depth+1:=by first|rfl|simp[u_,Code.weight,Code.isCreation,Code.isGuard,Code.isCaller,Code.frames,Code.isFrame,guardIds]
theorem y4:(A.under (.builtin "type.__call__" ⟨.ref C::j,kw⟩)).units=A.units+1:=by first|rfl|simp[u_,Code.cUnits,Code.frames,Code.isFrame]
theorem Room.make(r:Room (k+1) A)(C:Addr)(j:LV)(kw:List (Str×Value)):Room k (A.under (.builtin "type.__call__" ⟨.ref C::j,kw⟩)):=
 ⟨r.hd,by have:=r.dp;rw[y6];lia,by have:=r.un;rw[y4];lia⟩
theorem Room.depth(r:Room k A):A.depth < recursionLimit:=by have:=r.dp;lia
noncomputable def Oa:TA:=λ_ H Q=>Q [] H
noncomputable def Of(ta:TE)(tr:TA):TA:=λJ H Q=>ta J H λx G=>tr J G λxs H2=>Q (x::xs) H2
section
variable{X:Cx}{e:Expr}{es:Ab}{te:TE}{t:TA}{B:Pos}
theorem jk:PA X [] Oa:=λ_ _ _ _ H Q I h=>jy ⟨[],H,I,.nil,h⟩
theorem fS(k:PE X e te)(r:PA X es t)(f:starEach (e::es) X.e=(false,eval e X.e)::starEach es X.e:=by rfl):PA X (e::es) (Of te t):=by intro B pins s J H Q I h;rw[f];show wpAny _ _ (spliced ((false,eval e X.e)::backTo B (starEach es X.e))) _ _ s;refine fN (dL (k pins s J H _ I h) λu p z=>?_);obtain⟨x,G,a,c,q⟩:=z;exact dL (r B pins p J G _ a q) λj v z=>by obtain⟨xs,H2,n,m,b⟩:=z;exact⟨x::xs,H2,n,.cons c m,b⟩
def Q3(t:TA):TE:=λJ H Q=>t J H λxs G=>xs.length≤sizeLine/\∀p,G p=none->Q (.ref p) (cx G p (.tup xs))
def Q8(t:TA):TE:=λJ H Q=>t J H λxs G=>xs.length≤sizeLine/\∀p,G p=none->Q (.ref p) (cx G p (.lst xs))
theorem we {N} (h:PA X es t):PE X (.Tuple es N B) (Q3 t):=by intro pins s J H Q I n;refine wpAny_Tuple_spliced (dL (h B pins s J H _ I n) λj x k=>?_);obtain⟨xs,G,a,r,z,q⟩:=k;refine⟨by rw[<- r.length];exact z,?_⟩;have f:G x.heap.objs.size=none:=a.h.fresh (ah _);refine⟨.ref x.heap.objs.size,cx G x.heap.objs.size (.tup xs),a.laid (t':=x.toks) (λb u e=>bD _ e) (ah _) ?_,rfl,q _ f⟩;exact⟨z,j,r,pk.new _ _⟩
theorem yZ(h:PA X es t):PE X (.List es B) (Q8 t):=by intro pins s J H Q I n;refine wpAny_List_spliced (dL (h B pins s J H _ I n) λj x k=>?_);obtain⟨xs,G,a,r,z,q⟩:=k;refine⟨by rw[<- r.length];exact z,?_⟩;have f:G x.heap.objs.size=none:=a.h.fresh (ah _);refine⟨.ref x.heap.objs.size,cx G x.heap.objs.size (.lst xs),a.laid (t':=x.toks) (λb u e=>bD _ e) (ah _) ?_,rfl,q _ f⟩;exact⟨z,j,0,r,db _ rfl⟩
end
noncomputable abbrev Sp:=List V->Hp->VK->XK->Prop
noncomputable abbrev DQ:=List Env->Hp->Shared->XK->VP
structure Env0(P:Program)(w:World)(K:FG)(mg:SV)(base:Heap)(A:Around)(outer:List Env)(s:Shared)(H:Hp):Prop where
 frames:A.frames=some outer
 mod:Mod K mg base
 bs:∀b o,base.get? b=some o->s.heap.get? b=some o/\H b=none
 bsz:base.objs.size≤s.heap.objs.size
 funs:s.heap.FunFrames base outer
 frf:∀b ∈ Gk outer,H b=none
 h:HOk P w H s.heap
 bare:AllBare s.gens
def CE(o:List Env)(P:Program)(w:World)(H:Hp)(s:Shared)(Q:VK)(u:Value)(s':Shared):Prop:=
 ∃v H',s'.os=s.os/\AllBare s'.gens/\Un (Gk o) [] H H' s.heap s'.heap/\HOk P w H' s'.heap/\RelV v u/\Q v H'
def CR(CX:DQ)(o:List Env)(P:Program)(w:World)(H:Hp)(s:Shared)(Q:VK)(E:XK)(r:Result)(s':Shared):Prop:=
 match r with
 | .ok (.ret u)=>CE o P w H s Q u s'
 | .ok _=>False
 | .error e=>CX o H s E e s'
structure FnOk(P:Program)(w:World)(K:FG)(mg:SV)(base:Heap)(CX:DQ)(k:Nat)(f:Addr)(fd:FuncData)(ps:LS)(sp:Sp):Prop where
 len:∀vs H Q E,sp vs H Q E->vs.length=ps.length
 run:∀(A:Around)(outer:List Env)(s:Shared)(H:Hp)(args:Args)(us:LV)(vs:List V)(Q:VK)(E:XK),Room k A->Env0 P w K mg base A outer s H->BindsTo s fd args (ps.zip us)->bc vs us->sp vs H Q E ->
  codeAny (model P w) A (.call (.ref f) args) (CR CX outer P w H s Q E) s
variable{mg:SV}{base:Heap}{fd:FuncData}{ps:LS}
theorem FnOk.mono(F:FnOk P w K mg base CX q f fd ps sp)(h:q≤k) :
  FnOk P w K mg base CX k f fd ps sp:=⟨F.len,λA o s H a j v Q E r=>F.run A o s H a j v Q E (r.mono h)⟩
theorem FnOk.imp(F:FnOk P w K mg base CX k f fd ps sp)
  (h:∀v H Q E,z v H Q E->sp v H Q E):FnOk P w K mg base CX k f fd ps z:=
 ⟨λv H Q E q=>F.len v H Q E (h _ _ _ _ q),λA o s H a j v Q E r e b n x=>F.run A o s H a j v Q E r e b n (h _ _ _ _ x)⟩
theorem Env0.make(e:Env0 P w K mg base A q s H)(C:Addr)(j:LV)(kw:List (Str×Value)) :
  Env0 P w K mg base (A.under (.builtin "type.__call__" ⟨.ref C::j,kw⟩)) q s H:=⟨by first|exact e.frames|(simpa[u_,Code.envs,Code.isFrame,pushEnvs] using e.frames),e.mod,e.bs,e.bsz,e.funs,e.frf,e.h,e.bare⟩
section
variable{X:Cx}{pins:PN}{J:St}{H:Hp}{s s':Shared}
theorem Inv.env0(I:Inv X pins J H s):Env0 X.p X.w X.K X.g X.b X.A X.k s H:=
 ⟨I.o.frames,I.o.mod,I.bs,aF I.o.bsz I.sz,I.stack,I.stkFree,I.h,I.bare⟩
theorem Inv.after(I:Inv X pins J H s)(h:CE X.k X.p X.w H s Q u s'):EP X pins J Q u s':=by obtain⟨v,H',os,a,un,o,r,q⟩:=h;obtain⟨e,g,d,t,x⟩:=s';obtain rfl:x=s.os:=os;exact⟨v,H',I.call (h':=e) (g':=g) (d':=d) (t':=t) (ch:=[]) un o a (λb z=>absurd z (by simp)),r,q⟩
end
noncomputable def Og(sp:Sp)(dvs:List V)(E:XK)(t:TA):TE:=λJ H Q=>t J H λv G=>sp (v++dvs) G Q E
def EK(C:Addr)(m:Str)(sp:Sp)(dvs:List V)(E:XK)(ta:TE)(t:TA):TE:=λJ H Q=>ta J H λx G=>∃a dx fs,x=.ref a/\G a=some (.ins C dx fs)/\fs.lookup m=none /\
 t J G λv H2=>sp (x::(v++dvs)) H2 Q E
def Oc(C:Addr)(sp:Sp)(dvs:List V)(E:XK)(t:TA):TE:=λJ H Q=>t J H λs G=>∀x dx,G x=none->G dx=none->dx≠x ->
 sp (.ref x::(s++dvs)) (cx (cx G dx (.own x)) x (.ins C dx [])) (λv H2=>v=.non/\Q (.ref x) H2) E
def Binds(K:FG)(fd:FuncData)(ps:LS)(ds:LV):Prop:=
 ∀(s:Shared)(j:LV),K.In s.heap->(j++ds).length=ps.length->BindsTo s fd ⟨j,[]⟩ (ps.zip (j++ds))
theorem Binds.all(h:∀j:LV,j.length=ps.length->bindArgs fd ⟨j,[]⟩=pure (ps.zip j)):Binds K fd ps []:=λs j _ l=>by rw[eQ]at l ⊢;exact .of_eq (h j l)
def nc(CX:DQ)(X:Cx)(E:XK):Prop:=∀(pins:PN)(J:St)(H:Hp)(s:Shared)(e:Value)(s':Shared),Inv X pins J H s->CX X.k H s E e s'->X.xe e s'
section
variable{X:Cx}{CX:DQ}{k:Nat}{f C:Addr}{fd:FuncData}{ps:LS}{sp:Sp}{dvs:List V}{ds:LV}{E:XK}{x m:Str}{p B apos:Pos}{e o:Expr}{es:Ab}{ta:TE}{t:TA}
set_option tactic.hygienic true in
theorem yS(F:FnOk X.p X.w X.K X.g X.b CX k f fd ps sp)(n:Room k X.A)(b:Binds X.K fd ps ds)(hd:bc dvs ds)(c:nc CX X E)
  (I:Inv X pins J H s) (r:bc z j) (h:sp (z++dvs) H Q E):wx X (call (.ref f) j) (EP X pins J Q) X.xe s:=by
 have x:bc (z++dvs) (j++ds):=r.append hd;have a:(j++ds).length=ps.length:=by rw[<- x.length];exact F.len _ _ _ _ h
 refine wpAny_call (uX (F.run X.A X.k s H ⟨j,[]⟩ (j++ds) (z++dvs) Q E n I.env0 (b s j I.kIn a) x h) λr s' q=>?_);cases r with
 |error e=>exact c pins J H s e s' I q
 |ok l=>
  cases l with
  |ret u=>exact I.after q
  |next=>exact False.elim q
  |brk=>exact False.elim q
  |cont=>exact False.elim q
theorem wf(F:FnOk X.p X.w X.K X.g X.b CX k f fd ps sp)(w:Room k X.A)(g:Gl X x)(v:X.g x=some (.ref f))(m:iA X.K (.ref f)=true)(b:Binds X.K fd ps ds)(hd:bc dvs ds)(u:nc CX X E)
  (n:PA X (e::es) t) (d:(x == ("__debug__":Str))=false:=by decide) (c:starEach (e::es) X.e=(false,eval e X.e)::starEach es X.e:=by rfl) (l:(backTo B (starEach es X.e)).any (·.1)=false:=by rfl) :
  PE X (.Call (.Name x p) (e::es) [] B) (Og sp dvs E t):=by
 intro pins s J H Q I h;refine mO (wu I g v ?_ d);refine vK (h₀:=X.b) I.o.mod.kin m (dL (n B pins s J H _ I h) λj i z=>?_) c l;obtain⟨y,G,a,r,q⟩:=z;refine⟨a.kIn,?_⟩;exact yS F w b hd u a r q
theorem IU(y:PE X o ta)(c:Cls X.K C)(d:Meth X.K C m f)(F:FnOk X.p X.w X.K X.g X.b CX k f fd ps sp)(S:Room k X.A)(i:Binds X.K fd ps ds)(hd:bc dvs ds)(P:nc CX X E)(g:PA X (e::es) t)
  (n:starEach (e::es) X.e=(false,eval e X.e)::starEach es X.e:=by rfl) (p:(backTo B (starEach es X.e)).any (·.1)=false:=by rfl)
  (K:eval (.Call (.Attribute o m apos) (e::es) [] B) X.e=(do
   let N <- eval o X.e
   standAt apos.atName
   let (f,first) <- holding [N] (getMethod N m pl)
   callWith B f first (backTo B (starEach (e::es) X.e)) (backToKw B (keywordEach [] X.e))):=by rfl) :
  PE X (.Call (.Attribute o m apos) (e::es) [] B) (EK C m sp dvs E ta t):=by
 intro pins s J H Q I h;refine Bp (pl:=pl) (dL (y pins s J H _ I h) λu L z=>?_) K;obtain⟨x,G,b,D,a,dx,fs,ex,w,l,q⟩:=z;subst ex;obtain rfl:u=Value.ref a:=D;refine sS b w c d l ?_;refine vK (first:=[.ref a]) (h₀:=X.b) I.o.mod.kin d.kp (dL (g B pins L J G _ b q) λj R z=>?_) n p;obtain⟨M,H2,v,r,A⟩:=z;refine⟨v.kIn,?_⟩;exact yS (j:=.ref a::j) (z:=.ref a::M) F S i hd P v (.cons rfl r) A
theorem Fm(t:PE X o ta)(c:Cls X.K C)(n:Meth X.K C m f)(F:FnOk X.p X.w X.K X.g X.b CX k f fd ps sp)(p:Room k X.A)(r:Binds X.K fd ps ds)(hd:bc dvs ds)(d:nc CX X E)
  (v:eval (.Call (.Attribute o m apos) [] [] B) X.e=(do
   let z <- eval o X.e
   standAt apos.atName
   let (f,first) <- holding [z] (getMethod z m N)
   callWith B f first (backTo B (starEach [] X.e)) (backToKw B (keywordEach [] X.e))):=by rfl) :
  PE X (.Call (.Attribute o m apos) [] [] B) (EK C m sp dvs E ta Oa):=by
 intro pins s J H Q I h;refine Bp (pl:=N) (dL (t pins s J H _ I h) λu i w=>?_) v;obtain⟨x,G,e,g,a,dx,fs,ex,b,l,q⟩:=w;subst ex;obtain rfl:u=Value.ref a:=g;refine sS e b c n l ?_;exact PySem.W.callWith_K0 (first:=[.ref a]) e.kIn n.kp (yS (j:=[.ref a]) (z:=[.ref a]) F p r hd d e (.cons rfl .nil) q)
structure Mk(K:FG)(C f:Addr):Prop where
 makes:vG K C=true
 init:eO K (.ref C) "__init__"=some (some (.ref f))
 fn:qV K (.ref f)=true
 kp:iA K (.ref C)=true
set_option tactic.hygienic true in
theorem E4(M:Mk X.K C f)(F:FnOk X.p X.w X.K X.g X.b CX k f fd ps sp)(d:Room (k+1) X.A)(t:Binds X.K fd ps ds)(hd:bc dvs ds)
  (w:nc CX X E) (I:Inv X pins J H s) (r:bc z j)
  (h:∀x dx,H x=none->H dx=none->dx≠x->sp (.ref x::(z++dvs)) (cx (cx H dx (.own x)) x (.ins C dx [])) (λv H2=>v=.non/\Q (.ref x) H2) E) :
  wx X (call (.ref C) j) (EP X pins J Q) X.xe s:=by
 have n:=h (s.heap.objs.size+1) s.heap.objs.size (I.h.fresh (kq _)) (I.h.fresh (ah _)) (bB (i3 _));have a:=Inv.made (C:=C) I;have b:bc (V.ref (s.heap.objs.size+1)::(z++dvs)) (Value.ref (s.heap.objs.size+1)::(j++ds)):=.cons rfl (r.append hd);have p:(Value.ref (s.heap.objs.size+1)::j++ds).length=ps.length:=by have e:=b.length;rw[F.len _ _ _ _ n]at e;exact e.symm
 refine wpAny_call (FO (f:=f) I.kIn M.makes M.init (ll.mp M.fn) (uX (F.run _ X.k _ _ ⟨Value.ref (s.heap.objs.size+1)::j,[]⟩ (Value.ref (s.heap.objs.size+1)::(j++ds)) _ _ E (d.make C j [])
  (a.env0.make C j []) (t _ (Value.ref (s.heap.objs.size+1)::j) a.kIn p) b n) λr s' q=>?_))
 cases r with
 |error e=>exact w pins J _ _ e s' a q
 |ok l=>
  cases l with
  |ret u=>obtain⟨v,H',c,i,m,g⟩:=a.after q;subst m;exact⟨i,⟨V.ref (s.heap.objs.size+1),H',c,rfl,g⟩⟩
  |next=>exact False.elim q
  |brk=>exact False.elim q
  |cont=>exact False.elim q
theorem BQ(M:Mk X.K C f)(F:FnOk X.p X.w X.K X.g X.b CX k f fd ps sp)(v:Room (k+1) X.A)(g:Gl X x)(m:X.g x=some (.ref C))(b:Binds X.K fd ps ds)(hd:bc dvs ds)(w:nc CX X E)
  (n:PA X (e::es) t) (d:(x == ("__debug__":Str))=false:=by decide) (c:starEach (e::es) X.e=(false,eval e X.e)::starEach es X.e:=by rfl) (l:(backTo B (starEach es X.e)).any (·.1)=false:=by rfl) :
  PE X (.Call (.Name x p) (e::es) [] B) (Oc C sp dvs E t):=by
 intro pins s J H Q I h;refine mO (wu I g m ?_ d);refine vK (h₀:=X.b) I.o.mod.kin M.kp (dL (n B pins s J H _ I h) λj u z=>?_) c l;obtain⟨i,G,a,r,q⟩:=z;refine⟨a.kIn,?_⟩;exact E4 M F v b hd w a r q
end
section
variable{X:Cx}{CX:DQ}{k:Nat}{f C:Addr}{fd:FuncData}{ps ks:LS}{sp:Sp}{E:XK}{x m:Str}{p B apos kpos:Pos}{e o:Expr}{es:Ab}{kws:List Keyword}{te ta:TE}{t tk:TA}{nm:Option Str}
structure KBinds(K:FG)(fd:FuncData)(ps ks:LS)(g:LV->LV->LV)(gV:List V->List V->List V):Prop where
 to:∀(s:Shared)(us ws:LV),K.In s.heap->(g us ws).length=ps.length->BindsTo s fd ⟨us,ks.zip ws⟩ (ps.zip (g us ws))
 rel:∀{vs:List V}{us:LV}{zs:List V}{ws:LV},bc vs us->bc zs ws->bc (gV vs zs) (g us ws)
variable{g:LV->LV->LV}{gV:List V->List V->List V}
end
structure FnScope(N P:LS)(sc:Scope):Prop where
 kind:sc.kind=.function
 co:sc.isCoroutine=false
 gen:sc.isGenerator=false
 nd:N.Nodup
 pre:N.take P.length=P
 par:∀x ∈ P,sc.names.lookup x=some .local\/sc.names.lookup x=some .cell
 nofree:∀y ∈ sc.names,y.2≠.free
theorem uM{kindOf:Str->Option NameKind}{x:Str}:∀{b:List (Str×Value)}{m:SV},(∀v,(x,v) ∉ b)->bindL kindOf b m x=m x
 | [],_,_=>rfl
 |(n,v)::r,m,h=>by
  unfold bindL;rw[uM λw hw=>h w (ao _ hw)];split
  .have:x≠n:=by rintro rfl;exact h v ar
   simp[this]
  .rfl
theorem uO{kindOf:Str->Option NameKind}{x:Str}:∀{b:List (Str×Value)}{m:SV},(∀v,(x,v) ∉ b)->bindC kindOf b m x=m x
 | [],_,_=>rfl
 |(n,v)::r,m,h=>by
  unfold bindC;rw[uO λw hw=>h w (ao _ hw)];split
  .rfl
  .have:x≠n:=by rintro rfl;exact h v ar
   simp[this]
theorem uN{kindOf:Str->Option NameKind}{x:Str}{v:Value}:∀{P:LS}{s:LV}{i:Nat}{m:SV},P.Nodup->P[i]? = some x->s[i]? = some v->kindOf x=some .local ->
  bindL kindOf (P.zip s) m x=some v
 | [],_,_,_,_,h,_,_=>by simp at h
 |_::_,[],_,_,_,_,h,_=>by simp at h
 |p::P,w::s,0,m,n,h1,h2,k=>by simp at h1 h2;subst h1;subst h2;show bindL kindOf ((p,w)::P.zip s) m p=_;unfold bindL;rw[uM λv a=>(b_.mp n).1 (ny a).1,aj k];simp
 |p::P,w::s,i+1,m,n,h1,h2,k=>by show bindL kindOf ((p,w)::P.zip s) m x=_;unfold bindL;exact uN (i:=i) (b_.mp n).2 (by simpa using h1) (by simpa using h2) k
theorem uP{kindOf:Str->Option NameKind}{x:Str}{v:Value}:∀{P:LS}{s:LV}{i:Nat}{m:SV},P.Nodup->P[i]? = some x->s[i]? = some v->kindOf x≠some .local ->
  bindC kindOf (P.zip s) m x=some v
 | [],_,_,_,_,h,_,_=>by simp at h
 |_::_,[],_,_,_,_,h,_=>by simp at h
 |p::P,w::s,0,m,n,h1,h2,k=>by simp at h1 h2;subst h1;subst h2;show bindC kindOf ((p,w)::P.zip s) m p=_;unfold bindC;rw[uO λv a=>(b_.mp n).1 (ny a).1,al k];simp
 |p::P,w::s,i+1,m,n,h1,h2,k=>by show bindC kindOf ((p,w)::P.zip s) m x=_;unfold bindC;exact uP (i:=i) (b_.mp n).2 (by simpa using h1) (by simpa using h2) k
noncomputable def start(N:LS)(v:List V):St:=v.map some++List.replicate (N.length-v.length) none
noncomputable def x5(CX:DQ)(P:Program)(w:World)(K:FG)(mg:SV)(base:Heap)(N:LS)(q:Str)(h:Scope)(f:Addr)(d:Value)(A:Around)(u:List Env)(s:Shared)(H:Hp)(E:XK):Cx where
 p:=P
 w:=w
 K:=K
 g:=mg
 b:=base
 A:=A.deeper (envOfC q h s.heap.objs.size f d)
 N:=N
 z:=s
 y:=H
 e:=envOfC q h s.heap.objs.size f d
 o:=u
 k:=envOfC q h s.heap.objs.size f d::u
 ex:=[]
 c:=true
 fn:=λ_=>true
 pn:=[]
 xe:=λe s'=>wpAny (model P w) (A.deeper (envOfC q h s.heap.objs.size f d)) (leaving (envOfC q h s.heap.objs.size f d) e) (λ_ x=>CX u H s E e x) (λa x=>CX u H s E a x) s'
variable{x:Str}
theorem ya{sc:Scope}(h:sc.names.lookup x=some .cell):∃c,(cellsFrom n sc.names []).lookup x=some c:=by have q:=Bq sc.names n [] (.inl h);exact qy.mp q
theorem Di{CX:DQ}{P:Program}{w:World}{K:FG}{mg:SV}{base:Heap}{N ps:LS}{l:Str}{o:Scope}{f:Addr}{C:Value}{A:Around}{t:List Env}{s I:Shared}{H:Hp}{E:XK}{j:LV}{F:List V}
  (S:FnScope N ps o) (hd:A.handled=none) (m:Env0 P w K mg base A t s H) (T:F.length=ps.length) (r:bc F j)
  (x:InCallC s s.heap.objs.size (bindL (envOfC l o s.heap.objs.size f C).kindOf (ps.zip j) λ_=>none) (cellsFrom (s.heap.objs.size+1) o.names []) (bindC (envOfC l o s.heap.objs.size f C).kindOf (ps.zip j) λ_=>none) I) :
  Inv (x5 CX P w K mg base N l o f C A t s H E) [] (start N F) H I:=by
 have M:ps.length≤N.length:=by have:=gZ nu S.pre;rw[hY]at this;lia
 obtain⟨h1,tk,rfl,D⟩:=x.done;have g:∀b:Addr,b ∉ (x5 CX P w K mg base N l o f C A t s H E).ex:=fun b z=>absurd (show b ∈ ([]:List Addr) from z) (by simp);refine⟨⟨m.mod,S.kind,rfl,rfl,ah _,fun y z c h1 h2=>?_,fun y d=>?_,fun y c _ h=>?_,fun _=>hd,Around.frames_deeper m.frames,.inr ⟨rfl,rfl⟩,fun b z=>absurd z (g b),m.bs,m.bsz,fun b _ _=>g b,fun b z=>absurd z (g b),m.funs,m.frf⟩,
  rfl,m.bare,Un.kept D,⟨_,x.toInCall.ns,λi y v h1 h2 R=>?_⟩,λy c h=>⟨_,x.cell y c h⟩,m.h.fresh (ah _),λy c h=>?_,λp hp=>absurd (show p ∈ ([]:PN) from hp) (by simp),m.h.kept D,?_⟩
 .exact name_of_addr x.apart (rS h1) (rS h2)
 .have d:o.names.lookup y=some .cell\/o.names.lookup y=some .free:=d;rcases d with d|d
  .exact ya d
  .exact absurd rfl (S.nofree _ (rS d))
 .exact iY (x.above y c (rS h))
 .have hi:i < F.length:=by
   unfold start at h2;by_cases hi:i < F.length
   .exact hi
   .rw [ce (by simpa using hi)]at h2;rw[vq]at h2;split at h2<;>cases h2
  have L:F[i]? = some v:=by
   unfold start at h2;rw[bA (by simpa using hi),dW]at h2;cases e:F[i]? with
   |none=>rw[e]at h2;cases h2
   |some a=>rw[e]at h2;cases h2;rfl
  obtain⟨u,G,Q⟩:=r.get L;have hp:ps[i]? = some y:=by rw[<- S.pre,iW (by lia)];exact h1
  have B:ps.Nodup:=by rw[<- S.pre];exact S.nd.sublist (AQ _ _)
  refine⟨u,Q,?_⟩;rcases S.par y (aZ hp) with k|k
  .exact .inl ⟨k,uN B hp G k⟩
  .obtain⟨c,e⟩:=ya (n:=s.heap.objs.size+1) k;refine .inr ⟨.inl k,c,e,?_⟩;have q:=x.cell y c e;rw[uP B hp G (by show o.names.lookup y≠_;rw[k];decide)]at q;exact q
 .exact m.h.fresh (iY (x.above y c (rS h)))
 .unfold start;show _=N.length;rw[bg,aR,AX];lia
set_option tactic.hygienic true in
theorem Pc{CX:DQ}{P:Program}{w:World}{K:FG}{mg:SV}{base:Heap}{k:Nat}{f:Addr}{name a:Str}{p:Arguments}{m:List Stmt}{c:Scope}{dV kV B pm d ct oc:Value}{an od:Option Addr}
  {W:Array (OV)}{N ps:LS}{sp:Sp} (lk:K.lookup f=some ⟨oc,od,.func (jL name a p m c dV kV B pm an d ct),W⟩) (M:rF K d a=true) (S:FnScope N ps c)
  (len:∀g H Q E,sp g H Q E->g.length=ps.length)
  (l:∀(A:Around) (h:List Env) (s:Shared) (H:Hp) (g:List V) (Q:VK) (E:XK),Room k (A.deeper (envOfC a c s.heap.objs.size f d))->sp g H Q E ->
   ∃t,p0 (x5 CX P w K mg base N a c f d A h s H E) m t/\t { nx:=λ_ H'=>Q .non H',rt:=Q } (start N g) H) :
  FnOk P w K mg base CX (k+1) f (jL name a p m c dV kV B pm an d ct) ps sp:=by
 refine⟨len,λA h s H args j g Q E R C hb r G=>?_⟩;have hl:=len _ _ _ _ G;have Z:K.In s.heap:=C.mod.kin.keeps λb o e=>(C.bs b o e).1;have T:s.heap.NoLimit:=C.mod.nolimit.keeps λb o e=>(C.bs b o e).1;have z:∀y ∈ ps.zip j,c.names.lookup y.1=some .local\/(c.names.lookup y.1=some .cell/\((cellsFrom (s.heap.objs.size+1) c.names []).lookup y.1).isSome=true):=λ⟨n,v⟩ hy=>by
  rcases S.par n (ny hy).1 with q|q
  .exact .inl q
  .exact .inr ⟨q,Bq _ _ _ (.inl q)⟩
 refine codeAny_call_function R.depth (Z _ _ lk) rfl S.co S.gen rfl (PySem.W.codeRec_of Z M) (hb _ _ _ _ ?_);refine wpAny_newFunctionEnv_cells S.kind z λenv he s1 x=>?_;subst he;refine⟨T.keeps x.toInCall.keep,codeAny_func ?_⟩;obtain⟨t,ht,hq⟩:=l A h s H g Q E (R.deeper _) G;have I:Inv (x5 CX P w K mg base N a c f d A h s H E) [] (start N g) H s1:=Di S R.hd C hl r x;refine di (ht [] s1 (start N g) H _ I hq) (λfl s' F=>?_) λe s' F=>F;have D:∀{L:St}{H':Hp}{v:V}{u:Value},Inv (x5 CX P w K mg base N a c f d A h s H E) [] L H' s'->RelV v u->Q v H'->CE h P w H s Q u s':=
  λ{L H' v u} i X q=>⟨v,H',i.os,i.bare,i.base,i.h,X,q⟩
 cases fl with
 |ret u=>obtain⟨v,L,H',i,X,q⟩:=F;exact D i X q
 |next=>obtain⟨L,H',i,q⟩:=F;exact D (v:=V.non) (u:=Value.none) i rfl q
 |brk=>obtain⟨_,_,_,q⟩:=F;exact False.elim q
 |cont=>obtain⟨_,_,_,q⟩:=F;exact False.elim q
section
variable{X:Cx}{x:Str}{p B:Pos}{e:Expr}{es:Ab}{t:TA}{id T:String}{r:List V->Hp->VK->Prop}
noncomputable def Sm(r:List V->Hp->VK->Prop)(t:TA):TE:=λJ H Q=>t J H λv G=>r v G Q
theorem nM(c:fH X (.builtin id) r)(g:Gl X x)(m:X.g x=none)(v:bootBuiltins x=some (.builtin id))(n:PA X (e::es) t)(f:x≠"__name__":=by decide)(d:(x == ("__debug__":Str))=false:=by decide)
  (k:starEach (e::es) X.e=(false,eval e X.e)::starEach es X.e:=by rfl) (l:(backTo B (starEach es X.e)).any (·.1)=false:=by rfl):PE X (.Call (.Name x p) (e::es) [] B) (Sm r t):=by
 intro pins s J H Q I h;refine mO (kE I g m v ?_ f d);exact HS (dL (n B pins s J H _ I h) λj w z=>by obtain⟨u,G,a,b,q⟩:=z;exact c pins w J G u j Q a b q) k l
theorem l0(c:fH X (.type T) r)(g:Gl X x)(m:X.g x=none)(v:bootBuiltins x=some (.type T))(n:PA X (e::es) t)(f:x≠"__name__":=by decide)(d:(x == ("__debug__":Str))=false:=by decide)
  (k:starEach (e::es) X.e=(false,eval e X.e)::starEach es X.e:=by rfl) (l:(backTo B (starEach es X.e)).any (·.1)=false:=by rfl):PE X (.Call (.Name x p) (e::es) [] B) (Sm r t):=by
 intro pins s J H Q I h;refine mO (kE I g m v ?_ f d);exact kj (dL (n B pins s J H _ I h) λj w z=>by obtain⟨u,G,a,b,q⟩:=z;exact c pins w J G u j Q a b q) k l
end
end L2
set_option tactic.hygienic true
namespace HT
open PySem PyProof.Rows
section
variable{prog:Program}{w:World}{A:Around}{E:VP}{s:Shared}
theorem JD(g:IsTup s.heap t z.toArray)(u:IsTup s.heap b q.toArray)(v:z≠[])
  (h1:q=[]->Q (.ref t) s) (h2:q≠[]->Q (.ref s.heap.objs.size) { s with heap:=s.heap.push { cls:=.type "tuple",data:=.seq (z++q).toArray } })
  (a:z.length+q.length≤sizeLine):wpAny (model prog w) A (binaryOp .Add (.ref t) (.ref b)) Q E s:=by
 obtain⟨⟨N,f,I,p⟩,o,m,n,hd⟩:=id g;obtain⟨⟨k,d,data2,l⟩,h,c,r,x⟩:=id u;simp only at m hd c x;subst m hd c x;have e:z.toArray++q.toArray=(z++q).toArray:=by simp
 by_cases hw:q=[]
 .exact yq ⟨_,o,rfl⟩ ⟨_,h,rfl⟩ yz yt u5 u6 (u9 _ _)
   (tuple_addW1 t b z.toArray q.toArray n r f d p l (by simpa using v) (by simp[hw])) ⟨o,h,h1 hw⟩
 .refine yq ⟨_,o,rfl⟩ ⟨_,h,rfl⟩ yz yt u5 u6 (u9 _ _)
   (tuple_addW2 t b z.toArray q.toArray n r f d p l (by simpa using v) (by simpa using hw) (by rw[be,be];exact a)) ⟨o,h,?_⟩
  rw[e];exact h2 hw
noncomputable def fK(n d:Nat):Option Int->Nat
 |none=>d
 |some v=>if v < 0 then (v+(n:Int)).toNat else min v.toNat n
theorem sr(n d:Nat):fK n d none=d:=rfl
theorem BI(n d k:Nat):fK n d (some (k:Int))=min k n:=by show(if (k:Int) < 0 then ((k:Int)+(n:Int)).toNat else min (k:Int).toNat n)=min k n;rw[al (by lia),qe]
theorem Lo(n d:Nat)(hd:d≤n)(o:Option Int):fK n d o≤n:=by
 cases o with
 |none=>exact hd
 |some v=>
  show(if v < 0 then (v+(n:Int)).toNat else min v.toNat n)≤n;by_cases h:v < 0
  .rw [aj h];lia
  .rw [al h];exact Nat.min_le_right _ _
theorem CB(v:Int)(n d:Nat):(if v < 0 then max (v+(n:Int)) 0 else min v (n:Int))=((fK n d (some v):Nat):Int):=by
 show(if v < 0 then max (v+(n:Int)) 0 else min v (n:Int))=(((if v < 0 then (v+(n:Int)).toNat else min v.toNat n):Nat):Int);by_cases h:v < 0
 .simp only[aj h];lia
 .simp only[al h];lia
theorem zA(lo hi:Option Int)(n:Nat):u3 lo hi 1 (n:Int)=(((fK n 0 lo:Nat):Int),((fK n n hi:Nat):Int)):=by
 have h1:¬((1:Int) < 0):=by lia
 unfold u3;simp only[h1,rV];refine Prod.ext ?_ ?_
 .cases lo with
  |none=>rfl
  |some v=>exact CB v n 0
 .cases hi with
  |none=>rfl
  |some v=>exact CB v n n
theorem yY(i j:Nat):qd (i:Int) (j:Int) 1=j-i:=by
 unfold qd;have h1:(1:Int) > 0:=by lia
 simp only[h1,mP,Int.ediv_one];split<;>lia
theorem sm(p:IsPart v o)(h:Q o s):wpAny (model prog w) A (Hm v) Q E s:=by
 cases p with
 |none=>exact Ao h
 |int i t=>exact slicePart_int h
theorem jU{l:Addr}{v u:Value}{lo hi:Option Int}{n:Nat}{Q:Int×Int×Nat->Shared->Prop}(a:s.heap.IsSliceOf l v u .none)(p:IsPart v lo)(e:IsPart u hi)
  (h:Q (((fK n 0 lo:Nat):Int),1,fK n n hi-fK n 0 lo) s):wpAny (model prog w) A (zM (.ref l) (pure (n:Int))) Q E s:=by
 obtain⟨os,o,c,d⟩:=id a;unfold zM Hl;refine ac (ac (eI o d (x:=v) rfl (ac (eI o d (x:=u) rfl (ac (eI o d (x:=.none) rfl (aA ?_)))))));refine ac (Ao ?_);show wpAny _ _ (if ((1:Int) == 0)=true then _ else _) _ _ s;rw[al (by decide)];refine ac (sm p (ac (sm e (ac (aA ?_)))));show wpAny _ _ (match u3 lo hi 1 (n:Int) with|(lo,hi)=>pure (lo,(1:Int),qd lo hi 1)) _ _ s;rw[zA lo hi n];show wpAny _ _ (pure (((fK n 0 lo:Nat):Int),(1:Int),qd ((fK n 0 lo:Nat):Int) ((fK n n hi:Nat):Int) 1)) _ _ s;rw[yY];exact aA h
theorem Fj(xs:Array Value)(i k:Nat):((List.range k).filterMap λ(m:Nat)=>xs[((i:Int)+(m:Int) * 1).toNat]?).toArray=((xs.toList.drop i).take k).toArray:=by
 have e:(λ(m:Nat)=>xs[((i:Int)+(m:Int) * 1).toNat]?)=λm=>xs[i+m]?:=by
  funext m;have:((i:Int)+(m:Int) * 1).toNat=i+m:=by lia
  rw[this]
 rw[e];have:=pick_run xs i k
 rw[vl]at this;have h:((λx=>xs[x]?) ∘ λx=>i+x)=λm=>xs[i+m]?:=rfl;rw[h]at this;rw[this]
theorem nY{t l:Addr}{i:Array Value}{v u:Value}{lo hi:Option Int}{Q:VP}(x:IsTup s.heap t i)(e:s.heap.IsSliceOf l v u .none)(p:IsPart v lo)(k:IsPart u hi)
  (hw:¬(fK i.size 0 lo=0/\fK i.size i.size hi=i.size))
  (h:Q (.ref s.heap.objs.size) { s with heap:=s.heap.push { cls:=.type "tuple",data:=.seq ((i.toList.drop (fK i.size 0 lo)).take (fK i.size i.size hi-fK i.size 0 lo)).toArray } })
  (z:i.size≤sizeLine):wpAny (model prog w) A (getItem (.ref t) (.ref l)) Q E s:=by
 have a:sizeOk (.seq ((i.toList.drop (fK i.size 0 lo)).take (fK i.size i.size hi-fK i.size 0 lo)).toArray):=by show((i.toList.drop (fK i.size 0 lo)).take (fK i.size i.size hi-fK i.size 0 lo)).toArray.size≤sizeLine;rw[be,hY,qG,np];lia
 have j:fK i.size i.size hi≤i.size:=Lo _ _ (ah _) hi;obtain⟨os,o,c,d⟩:=id e;have T:s.TypeIs (.ref l) "slice":=⟨os,o,c⟩;unfold getItem;try with_reducible refine iB ?_
 first|refine ac (aA ?_)|skip
 refine ac (D9 x.typeIs (by decide) ?_);refine ac (rT (name:=Str.ofString "__getitem__") x.typeIs ki
  (oK ki x.typeIs Ar ?_ (Aq _ _)))
 show wpAny _ _ (zL (.ref t) >>= _) _ _ s;refine ac (Am x ?_);refine ac (rM T ?_);rw[aj (by decide)];refine ac (jU e p k ?_);have n:¬((((fK i.size 0 lo:Nat):Int) == 0 && (1:Int) == 1 && (fK i.size i.size hi-fK i.size 0 lo) == i.size)=true):=by intro q;rw[aD,aD]at q;have f:((fK i.size 0 lo:Nat):Int)=0:=eq_of_beq q.1.1;have b:fK i.size i.size hi-fK i.size 0 lo=i.size:=eq_of_beq q.2;exact hw ⟨by lia,by lia⟩
 show wpAny _ _ (if (((fK i.size 0 lo:Nat):Int) == 0 && (1:Int) == 1 && (fK i.size i.size hi-fK i.size 0 lo) == i.size)=true then _ else _) _ _ s;rw[al n,Fj];first
  |exact ac (m:=qc _) (rO (aA ⟨_,rfl,aA h⟩) a)
  |exact ac (m:=qc _) (rO (ac (aA (aA ⟨_,rfl,aA h⟩))) a)
  |exact ac (ac (m:=qc _) (rO (aA (aA ⟨_,rfl,aA h⟩)) a))
  |exact ac (ac (m:=qc _) (rO (aA ⟨_,rfl,aA h⟩) a))
end
end HT
set_option tactic.hygienic false
namespace L2
open PySem PySem.Spec PyProof.Rows
noncomputable abbrev TO:=St->Hp->(Option Int->Hp->Prop)->Prop
def PO(X:Cx)(e:Option Expr)(t:TO):Prop:=
 ∀(pins:PN)(s:Shared)(J:St)(H:Hp)(Q:Option Int->Hp->Prop),Inv X pins J H s->t J H Q ->
  wx X (evalPart e X.e) (λu s'=>∃o H',Inv X pins J H' s'/\IsPart u o/\Q o H') X.xe s
noncomputable def Ip:TO:=λ_ H Q=>Q none H
noncomputable def N9(t:TE):TO:=λJ H Q=>t J H λx G=>∃i,x=.int i/\Q (some i) G
section
variable{X:Cx}{e:Expr}{te:TE}{lo hi:Option Expr}{tl th:TO}{B p2:Pos}
theorem IN:PO X none Ip:=by intro pins s J H Q I h;rw[DU];exact aA ⟨none,H,I,.none,h⟩
theorem IL(h:PE X e te):PO X (some e) (N9 te):=by
 intro pins s J H Q I hw;rw[evalPart_some];refine dL (h pins s J H _ I hw) λu k z=>?_
 obtain⟨x,G,a,r,n⟩:=z;obtain⟨i,rfl,q⟩:=n;obtain⟨t,rfl⟩:=r;exact⟨some i,G,a,.int i t,q⟩
def Kv(X:Cx)(r:V->Option Int->Option Int->Hp->VK->Prop):Prop:=
 ∀(pins:PN)(s:Shared)(J:St)(H:Hp)(x:V)(v h u:Value)(lo hi:Option Int)(l:Addr)(Q:VK),Inv X pins J H s->RelV x v->s.heap.IsSliceOf l h u .none->IsPart h lo->IsPart u hi->r x lo hi H Q ->
  ∃T id,typeLookup (.type T) "__getitem__"=pure (some (.builtin id))/\s.TypeIs v T/\wx X (getItem v (.ref l)) (EP X pins J Q) X.xe s
theorem Kv.or(h:Kv X r)(h':Kv X z):Kv X (λx lo hi H Q=>r x lo hi H Q\/z x lo hi H Q):=by
 intro pins s J H x v n k lo hi l Q I e a p u q;rcases q with q|q
 .exact h pins s J H x v n k lo hi l Q I e a p u q
 .exact h' pins s J H x v n k lo hi l Q I e a p u q
noncomputable def Tf(r:V->Option Int->Option Int->Hp->VK->Prop)(te:TE)(tl th:TO):TE:=λJ H Q=>te J H λx G=>tl J G λl H2=>th J H2 λu h=>r x l u h Q
theorem xu(j:Kv X r)(w:PE X e te)(i:PO X lo tl)(o:PO X hi th):PE X (.Subscript e (.Slice lo hi none p2) B) (Tf r te tl th):=by
 intro pins s J H Q I h;refine Subscript_ (dL (w pins s J H _ I h) λv D z=>?_);obtain⟨x,G,c,C,K⟩:=z;refine wpAny_Slice (dL (i pins D J G _ c K) λn E ⟨l,H2,m,S,P⟩=>dL (o pins E J H2 _ m P) λk a z=>?_);obtain⟨u,f,t,F,A⟩:=z;rw[DU];refine aA ?_;have p:Inv X pins J f { a with heap:=a.heap.push { cls:=.type "slice",data:=.fields #[n,k,.none] } }:=t.kept (t':=a.toks) λb L q=>bD _ q
 obtain⟨T,id,d,y,g⟩:=j pins { a with heap:=a.heap.push { cls:=.type "slice",data:=.fields #[n,k,.none] } } J f x v n k l u a.heap.objs.size Q p C (Heap.IsSliceOf.new ..) S F A;show wx X (subscriptTail e (.Slice lo hi none p2) v (.ref a.heap.objs.size)) (EP X pins J Q) X.xe { a with heap:=a.heap.push { cls:=.type "slice",data:=.fields #[n,k,.none] } };exact qv (ops:=[.ref a.heap.objs.size,v]) y d g (by with_unfolding_all rfl)
def x6(xs:List V)(lo hi:Option Int):List V:=(xs.drop (HT.fK xs.length 0 lo)).take (HT.fK xs.length xs.length hi-HT.fK xs.length 0 lo)
theorem pK(xs:List V)(lo hi:Option Int):(x6 xs lo hi).length≤xs.length:=by unfold x6;rw[hY,qG];lia
def Rg(K:FG):V->Option Int->Option Int->Hp->VK->Prop:=λx lo hi H Q=>∃a xs,x=.ref a/\oF K H a xs /\
 ¬(HT.fK xs.length 0 lo=0/\HT.fK xs.length xs.length hi=xs.length)/\∀p,H p=none->Q (.ref p) (cx H p (.tup (x6 xs lo hi)))
theorem Lj:Kv X (Rg X.K):=by
 intro pins s J H x v m d lo hi c Q I k e p u h;obtain⟨a,xs,rfl,n,hw,q⟩:=h;cases k;obtain⟨i,r,t,z⟩:=I.tuple n;have l:i.toArray.size=xs.length:=by rw[be];exact r.length.symm
 refine⟨"tuple",_,ki.lookup,t.typeIs,?_⟩;refine HT.nY t e p u (by rw[l];exact hw) ?_ (by rw[l];exact z);rw[l];refine⟨.ref s.heap.objs.size,_,I.laid (t':=s.toks) (o:=.tup (x6 xs lo hi)) (λb f q=>bD _ q) (ah _) ?_,rfl,q _ (I.h.fresh (ah _))⟩;exact⟨aF (pK xs lo hi) z,_,(r.drop (HT.fK xs.length 0 lo)).take (HT.fK xs.length xs.length hi-HT.fK xs.length 0 lo),pk.new _ _⟩
def Ov(K:FG):R2:=λx y H Q=>∃a b xs ys,x=.ref a/\y=.ref b/\oF K H a xs/\oF K H b ys/\xs≠[]/\xs.length+ys.length≤sizeLine /\
 (ys=[]->Q (.ref a) H)/\(ys≠[]->∀p,H p=none->Q (.ref p) (cx H p (.tup (xs++ys))))
theorem bc.nil_iff(r:bc xs j):j=[]↔xs=[]:=by
 cases r with
 |nil=>simp
 |cons _ _=>simp
theorem IZ:ke X (binaryOp .Add) (Ov X.K):=by intro pins s J H x y v u Q I g j h;obtain⟨a,b,xs,ys,rfl,rfl,k,f,c,n,m,d⟩:=h;cases g;cases j;obtain⟨t,e,p,_⟩:=I.tuple k;obtain⟨i,r,p2,_⟩:=I.tuple f;refine HT.JD p p2 (λz=>c (e.nil_iff.mp z)) (λz=>⟨.ref a,H,I,rfl,m (r.nil_iff.mp z)⟩) (λz=>?_) (by rw[<- e.length,<- r.length];exact n);refine⟨.ref s.heap.objs.size,_,I.laid (t':=s.toks) (o:=.tup (xs++ys)) (λb l q=>bD _ q) (ah _) ?_,rfl,d (λw=>z (r.nil_iff.mpr w)) _ (I.h.fresh (ah _))⟩;exact⟨by rw[bg];exact n,_,e.append r,pk.new _ _⟩
end
noncomputable def B9(n:Nat)(i:Int):Option Nat:=if 0≤i then (if i < n then some i.toNat else none) else if -(n:Int)≤i then some (i+n).toNat else none
variable{α:Type}
def atI(xs:List α)(i:Int):Option α:=(B9 xs.length i).bind λj=>xs[j]?
variable{n:Nat}
theorem B8{i:Int}(h:B9 n i=some q):seqIndex? i n=some q/\q < n/\-(n:Int)≤i/\i < n:=by
 unfold B9 at h;by_cases x:0≤i
 .rw [aj x]at h;by_cases h1:i < n
  .rw [aj h1]at h;have e:i.toNat=q:=eP h;exact⟨by rw[yp x h1,e],by lia,by lia,h1⟩
  .rw [al h1]at h;cases h
 .rw [al x]at h;by_cases h1:-(n:Int)≤i
  .rw [aj h1]at h;have e:(i+n).toNat=q:=eP h;exact⟨by rw[yr (by lia) h1,e],by lia,h1,by lia⟩
  .rw [al h1]at h;cases h
theorem wY{i:Int}(h:atI xs i=some v):∃j,seqIndex? i xs.length=some j/\xs[j]? = some v/\j < xs.length/\-(xs.length:Int)≤i/\i < xs.length:=by
 unfold atI at h;cases e:B9 xs.length i with
 |none=>rw[e]at h;cases h
 |some j=>rw[e]at h;obtain⟨h1,h2,x,a⟩:=B8 e;exact⟨j,h1,h,h2,x,a⟩
def oG(b:Expr):Prop:=∀o i,subscripted b false o i=operate [o,i] (getItem o i)
def G8(X:Cx)(r:R2):Prop:=
 ∀(value l:Expr)(pins:PN)(s:Shared)(J:St)(H:Hp)(x y:V)(v u:Value)(Q:VK),Inv X pins J H s->RelV x v->RelV y u->r x y H Q ->
  subscripted l false v u=operate [v,u] (getItem v u)->wx X (subscriptTail value l v u) (EP X pins J Q) X.xe s
def SM(X:Cx)(id:String)(r:V->List V->Hp->VK->Prop):Prop:=
 ∀(pins:PN)(s:Shared)(J:St)(H:Hp)(x:V)(xs:List V)(v:Value)(j:LV)(Q:VK),Inv X pins J H s->RelV x v->bc xs j->r x xs H Q ->
  wx X (call (.builtin id) (v::j)) (EP X pins J Q) X.xe s
section
variable{X:Cx}{a b:Expr}{ta tb:TE}{B:Pos}
theorem G8.or(h:G8 X r)(h':G8 X z):G8 X (λx y H Q=>r x y H Q\/z x y H Q):=by
 intro value l pins s J H x y v u Q I e n q a;rcases q with q|q
 .exact h value l pins s J H x y v u Q I e n q a
 .exact h' value l pins s J H x y v u Q I e n q a
theorem Fo(f:G8 X r)(n:PE X a ta)(k:PE X b tb)(c:oG b):PE X (.Subscript a b B) (La r ta tb):=by intro pins s J H Q I h;exact Subscript_ (M3 n k I h λv u p x y H2 e m t q=>f a b pins p J H2 x y v u Q e m t q (c _ _))
def Rm(K:FG):R2:=λx y H Q=>∃p xs i v,x=.ref p/\y=.int i/\gY K H p xs/\atI xs i=some v/\Q v H
def Rk(K:FG):R2:=λx y H Q=>∃p xs i v,x=.ref p/\y=.int i/\oF K H p xs/\atI xs i=some v/\Q v H
def Rl:R2:=λx y H Q=>∃z i c,x=.str z/\y=.int i/\z.length≤sizeLine/\atI z.cps.toList i=some c/\Q (.str ⟨#[c]⟩) H
theorem wv:G8 X (Rm X.K):=by
 intro value c pins s J H x y v u Q I K P h m;obtain⟨p,xs,i,z,rfl,rfl,F,o,q⟩:=h;cases K;obtain⟨t,rfl⟩:=P;obtain⟨e,r,l,C⟩:=I.list F;obtain⟨j,h1,h2,A,d,g⟩:=wY o;obtain⟨w,k,n⟩:=r.get h2;have S:=r.length;have B:=ly;have f:EP X pins J Q w s:=⟨z,H,I,n,q⟩;by_cases b:0≤i
 .have a:i.toNat=j:=by
   rw[yp b g]at h1;exact eP h1
  exact item_listR l.isList b (by lia) (by rw[a];simpa using k) f m
 .have a:(i+(e.toArray.size:Int)).toNat=j:=by
   rw[yr (by lia) d]at h1;rw[be,<- S];exact eP h1
  exact Au (x:=w) l.isList.typeIs D7.lookup
   (wpAny_getItem_list_neg (Q:=λr s'=>r=w/\EP X pins J Q r s') l.isList (by lia) (by rw[be]<;>lia) (by lia) (by rw[a];simpa using k) ⟨rfl,f⟩) m
theorem FV:G8 X (Rk X.K):=by
 intro value l pins s J H x y v u Q I g o h m;obtain⟨p,xs,i,z,rfl,rfl,c,k,q⟩:=h;cases g;obtain⟨t,rfl⟩:=o;obtain⟨d,r,e,A⟩:=I.tuple c;obtain⟨j,h1,h2,S,F,K⟩:=wY k;obtain⟨w,n,a⟩:=r.get h2;have b:=r.length;have P:=ly;have f:EP X pins J Q w s:=⟨z,H,I,a,q⟩;exact Au (x:=w) e.typeIs ki.lookup
  (getItem_tuple (j:=j) (Q:=λr s'=>r=w/\EP X pins J Q r s') e (by lia) (by lia) (by rw[be,<- b];exact h1) (by simpa using n) ⟨rfl,f⟩) m
theorem Mn:G8 X Rl:=by
 intro value l pins s J H x y v u Q I r p h m;obtain⟨z,i,c,rfl,rfl,g,f,q⟩:=h;obtain⟨t,rfl⟩:=r;obtain⟨o,rfl⟩:=p;obtain⟨j,h1,h2,d,n,k⟩:=wY f;have b:z.cps.toList.length=z.length:=by simp[nl]
 rw[b]at h1 n k;have w:=ly;exact qv (typeIs_str s z t) slot_str_getitem.lookup (getItem_str (c:=c) (by have e:decide (i < -(2 ^ 63:Int))=false:=cG (by lia);have a:decide (i ≥ 2 ^ 63)=false:=cG (by lia);rw[e,a,Bool.or_false]) (by rw[h1];simpa using h2) ⟨.str ⟨#[c]⟩,H,I.tok _,⟨_,rfl⟩,q⟩) m
theorem y3(i:LV)(n j:Nat)(u:Value):kh (·.setIfInBounds j u) { cls:=.type "list",data:=.seq i.toArray n }={ cls:=.type "list",data:=.seq (i.set j u).toArray n }:=by simp[kh]
theorem Inv.lst(I:Inv X pins J H s)(h:H p=some (.lst xs)) :
  ∃(i:LV)(n:Nat),bc xs i/\s.heap.get? p=some { cls:=.type "list",data:=.seq i.toArray n }/\xs.length≤sizeLine:=by
 obtain⟨z,i,n,r,e⟩:=I.h p _ h;exact⟨i,n,r,e,z⟩
theorem Inv.lstUpd{i:LV}(I:Inv X pins J H s)(h:H p=some (.lst xs))
  (o:s.heap.get? p=some { cls:=.type "list",data:=.seq i.toArray n }) (a:f { cls:=.type "list",data:=.seq i.toArray n }={ cls:=.type "list",data:=.seq z.toArray N }) (r:bc ys z) (c:ys.length≤sizeLine) (t:Nat) :
  Inv X pins J (cx H p (.lst ys)) { s with heap:=s.heap.update p f,toks:=t }:=by
 have e:(s.heap.update p f).get? p=some { cls:=.type "list",data:=.seq z.toArray N }:=by rw[yn f o (by rw[a]<;>rfl),a]
 refine I.write (x:=p) (e:=p) (by rw[h];trivial) (.inl rfl) (λb u k q=>(DS _ _ (aQ k)).trans q) ⟨_,e⟩ ?_;exact⟨c,z,N,r,e⟩
def Ou:V->V->V->Hp->(Hp->Prop)->Prop:=λo i v H Q=>∃p xs k j,o=.ref p/\i=.int k/\H p=some (.lst xs)/\B9 xs.length k=some j/\Q (cx H p (.lst (xs.set j v)))
theorem ET:PK X Ou:=by
 intro pins s J H o i v F iv u Q I g w y h;obtain⟨p,xs,k,j,rfl,rfl,hp,d,q⟩:=h;cases g;obtain⟨t,rfl⟩:=w;obtain⟨x,n,r,e,z⟩:=I.lst hp;obtain⟨h1,h2,c,m⟩:=B8 d;have l:=r.length;have S:=ly;have f:Inv X pins J (cx H p (.lst (xs.set j v))) { s with heap:=s.heap.update p (kh (·.setIfInBounds j u)) }:=
  I.lstUpd hp e (y3 x n j u) (r.set y j) (by rw[fq];exact z) s.toks
 by_cases b:0≤k
 .have a:k.toNat=j:=by
   rw[yp b m]at h1;exact eP h1
  exact PySem.W.ki_setAt e b (by lia) (by rw[be,<- l];exact m) (by rw[a];exact⟨_,f,q⟩)
 .have a:(k+(x.toArray.size:Int)).toNat=j:=by
   rw[yr (by lia) c]at h1;rw[be,<- l];exact eP h1
  exact PySem.W.ki_setBack e (by lia) (by rw[be,<- l];exact c) (by lia) (by rw[a];exact⟨_,f,q⟩)
theorem v7(lo hi:Option Int)(n:Nat):(sliceBounds lo hi none n).1=((HT.fK n 0 lo:Nat):Int)/\(sliceBounds lo hi none n).2.1=((HT.fK n n hi:Nat):Int)/\(sliceBounds lo hi none n).2.2=1:=by
 refine⟨?_,?_,rfl⟩
 .cases lo with
  |none=>simp[sliceBounds,HT.fK]
  |some i=>
   simp only[sliceBounds,HT.fK,AD,show(1:Int) > 0 by decide,mP];by_cases h:i < 0
   .simp only[h,mP]<;>lia
   .simp only[h,rV]<;>lia
 .cases hi with
  |none=>simp[sliceBounds,HT.fK]
  |some i=>
   simp only[sliceBounds,HT.fK,AD,show(1:Int) > 0 by decide,mP];by_cases h:i < 0
   .simp only[h,mP]<;>lia
   .simp only[h,rV]<;>lia
theorem tK(i:LV)(lo hi:Option Int):slicePick i.toArray lo hi none=((i.drop (HT.fK i.length 0 lo)).take (HT.fK i.length i.length hi-HT.fK i.length 0 lo)).toArray:=by obtain⟨h1,h2,h⟩:=v7 lo hi i.toArray.size;unfold slicePick;rw[h1,h2,h];simp only[sliceRange_one,pick_run,be]<;>rfl
def Rh(K:FG):V->Option Int->Option Int->Hp->VK->Prop:=λx lo hi H Q=>∃a xs,x=.ref a/\gY K H a xs/\∀p,H p=none->Q (.ref p) (cx H p (.lst (x6 xs lo hi)))
theorem BG:Kv X (Rh X.K):=by intro pins s J H x v m d lo hi c Q I k e p u h;obtain⟨a,xs,rfl,n,q⟩:=h;cases k;obtain⟨i,r,t,z⟩:=I.list n;have l:=r.length;refine⟨"list",_,D7.lookup,t.isList.typeIs,?_⟩;refine wpAny_getItem_list_slice t.isList e p u .none (by simp) ?_ (by rw[be]<;>lia);rw[tK,<- l];refine⟨.ref s.heap.objs.size,_,I.laid (t':=s.toks) (o:=.lst (x6 xs lo hi)) (λb f q=>bD _ q) (ah _) ?_,rfl,q _ (I.h.fresh (ah _))⟩;exact⟨aF (pK xs lo hi) z,_,0,(r.drop (HT.fK xs.length 0 lo)).take (HT.fK xs.length xs.length hi-HT.fK xs.length 0 lo),db _ rfl⟩
theorem wV:fH X (.builtin "len") (λxs H Q=>∃p ys,xs=[.ref p]/\(gY X.K H p ys\/oF X.K H p ys)/\Q (.int ys.length) H):=by
 intro pins s J H xs j Q I r h;obtain⟨p,ys,rfl,x,q⟩:=h;obtain⟨u,rfl,n⟩:=vals1 r;cases n;have k:=ly;rcases x with x|x
 .obtain⟨i,e,a,z⟩:=I.list x;have l:=e.length;exact Calls.call_len_list a.isList (by simp only[be]<;>lia) ⟨.int ys.length,H,I.tok _,⟨s.toks+1,by rw[be,l]⟩,q⟩
 .obtain⟨i,e,a,z⟩:=I.tuple x;have l:=e.length;exact len_tuple a (by simp only[be]<;>lia) ⟨.int ys.length,H,I.tok _,⟨s.toks+1,by rw[be,l]⟩,q⟩
theorem wU:fH X (.builtin "len") (λxs H Q=>∃z,xs=[.str z]/\z.length≤sizeLine/\Q (.int z.length) H):=by intro pins s J H xs j Q I r h;obtain⟨z,rfl,x,q⟩:=h;obtain⟨u,rfl,t,rfl⟩:=vals1 r;have n:=ly;exact len_str (by lia) ⟨.int z.length,H,I.tok _,⟨_,rfl⟩,q⟩
theorem fH.or(h:fH X f r)(h':fH X f z):fH X f (λxs H Q=>r xs H Q\/z xs H Q):=by
 intro pins s J H xs j Q I x q;rcases q with q|q
 .exact h pins s J H xs j Q I x q
 .exact h' pins s J H xs j Q I x q
theorem kO:fH X (.type "list") (λxs H Q=>∃p ys,xs=[.ref p]/\(gY X.K H p ys\/oF X.K H p ys)/\∀l,H l=none->Q (.ref l) (cx H l (.lst ys))):=by
 intro pins s J H xs j Q I r h;obtain⟨p,ys,rfl,k,q⟩:=h;obtain⟨u,rfl,w⟩:=vals1 r;cases w;have f:∀(i:LV),bc ys i->ys.length≤sizeLine->∀(h':Heap)(c:Nat),(∀b o',s.heap.get? b=some o'->h'.get? b=some o') ->
   h'.get? s.heap.objs.size=some { cls:=.type "list",dict:=none,data:=.seq i.toArray c,slots:=#[] }->EP X pins J Q (.ref s.heap.objs.size) { s with heap:=h' }:=λi x z h' c m e=>
  ⟨.ref s.heap.objs.size,_,I.laid (t':=s.toks) m (ah _) (show eB X.p X.w _ h' _ (.lst ys) from ⟨z,i,c,x,e⟩),rfl,q _ (I.h.fresh (ah _))⟩
 rcases k with k|k
 .obtain⟨i,x,d,z⟩:=I.list k;have a:=x.length;obtain⟨o,v,t,n,hd⟩:=d.isList;exact DT p (.inl rfl) v t hd (λh' c m e=>f i x z h' c m e) (by simp only[be]<;>lia)
 .obtain⟨i,x,d,z⟩:=I.tuple k;have a:=x.length;obtain⟨o,v,t,n,hd⟩:=d;exact DT p (.inr rfl) v t hd (λh' c m e=>f i x z h' c m e) (by simp only[be]<;>lia)
theorem mE:fH X (.type "tuple") (λxs H Q=>∃p ys,xs=[.ref p]/\((gY X.K H p ys/\∀l,H l=none->Q (.ref l) (cx H l (.tup ys)))\/(oF X.K H p ys/\Q (.ref p) H))):=by
 intro pins s J H xs j Q I r h;obtain⟨p,ys,rfl,h⟩:=h;obtain⟨u,rfl,t⟩:=vals1 r;cases t;rcases h with ⟨x,q⟩|⟨x,q⟩
 .obtain⟨i,n,a,z⟩:=I.list x;have f:=n.length;refine call_tuple_list a.isList (λh' m=>?_) (by simp only[be]<;>lia);have k:Inv X pins J H { s with heap:=h' }:=I.kept (t':=s.toks) m;have c:Inv X pins J (cx H h'.objs.size (.tup ys)) { s with heap:=h'.push { cls:=.type "tuple",data:=.seq i.toArray } }:=
   k.laid (t':=s.toks) (λb o e=>bD _ e) (ah _) (show eB X.p X.w _ _ _ (.tup ys) from ⟨z,i,n,pk.new _ _⟩)
  exact⟨.ref h'.objs.size,_,c,rfl,q _ (k.h.fresh (ah _))⟩
 .obtain⟨i,n,a,z⟩:=I.tuple x;exact call_tuple_same a ⟨.ref p,H,I,rfl,q⟩
def tyV(K:FG)(T:String)(x:V)(H:Hp):Prop:=match x with
 | .str _=>T="str"
 | .int _=>T="int"
 | .ref p=>(T="list"/\∃xs,gY K H p xs)\/(T="tuple"/\∃o,K.lookup p=some o/\o.cls=.type "tuple"/\o.dict=none) \/
   (T="dict"/\((∃kvs,H p=some (.dK kvs))\/∃kvs,H p=some (.dT kvs)))\/(T="set"/\∃S n,H p=some (.set S n))
 |_=>False
theorem Ex(I:Inv X pins J H s)(r:RelV x v)(ty:tyV X.K T x H) :
  s.TypeIs v T/\∀a,v=.ref a->∃b,s.heap.get? a=some b/\b.dict=none:=by
 cases x with
 |str z=>obtain⟨t,rfl⟩:=r;cases (show T="str" from ty);exact⟨typeIs_str s z t,λ_ e=>nomatch e⟩
 |int i=>obtain⟨t,rfl⟩:=r;cases (show T="int" from ty);exact⟨rK s i t,λ_ e=>nomatch e⟩
 |ref p=>
  cases r;rcases ty with ⟨rfl,xs,q⟩|⟨rfl,o,h,f,hd⟩|⟨rfl,h⟩|⟨rfl,S,n,h⟩
  .obtain⟨m,_,l,_⟩:=I.list q;refine⟨l.isList.typeIs,λa e=>?_⟩;cases e;obtain⟨o,n,e,c,hd,_⟩:=l;exact⟨o,e,hd⟩
  .refine⟨⟨o,I.kIn p o h,f⟩,λa e=>?_⟩;cases e;exact⟨o,I.kIn _ o h,hd⟩
  .have z:∃o,s.heap.get? p=some o/\o.ExactDict:=by
    rcases h with ⟨kvs,h⟩|⟨kvs,h⟩
    .obtain⟨_,_,_,_,o,_,_,e,ex,_⟩:=I.h p _ h;exact⟨o,e,ex⟩
    .obtain⟨_,_,_,_,o,_,_,e,ex,_⟩:=I.h p _ h;exact⟨o,e,ex⟩
   obtain⟨o,e,ex⟩:=z;refine⟨⟨o,e,ex.1⟩,λa k=>?_⟩;cases k;exact⟨o,e,ex.2.1⟩
  .obtain⟨o,_,_,_,e,ex,_⟩:=I.h p _ h;refine⟨⟨o,e,ex.1⟩,λa k=>?_⟩;cases k;exact⟨o,e,ex.2.1⟩
 |_=>exact False.elim ty
noncomputable def Rb(K:FG)(T:String)(r:V->List V->Hp->VK->Prop)(to:TE):TE:=λJ H Q=>to J H λx G=>tyV K T x G/\r x [] G Q
noncomputable def Tj(K:FG)(T:String)(r:V->List V->Hp->VK->Prop)(to:TE)(t:TA):TE:=λJ H Q=>to J H λx G=>tyV K T x G/\t J G λxs H2=>r x xs H2 Q
variable{o e:Expr}{es:Ab}{to:TE}{t:TA}{name:Str}{apos cpos:Pos}{T id:String}{r:V->List V->Hp->VK->Prop}
theorem LP(p:PlainAttrs T)(slot:Slot T name id)(t:typeOf (.builtin id)=pure (.type "method_descriptor"))(m:SM X id r)(n:PE X o to)
  (b:attributeBase o name X.e (eval o X.e)=eval o X.e:=by rfl) (l:(apos.endLine == cpos.line)=true:=by rfl):PE X (.Call (.Attribute o name apos) [] [] cpos) (Rb X.K T r to):=by
 intro pins s J H Q I h;refine wpAny_Call_method0_late b l (dL (n pins s J H _ I h) λv k z=>?_);obtain⟨x,G,a,e,ty,q⟩:=z;obtain⟨h1,h2⟩:=Ex a e ty;exact⟨T,id,p,slot,t,h1,h2,lP rfl (PySem.evalArgs_none (m pins k J G x [] v [] Q a e .nil q))⟩
theorem Kc(w:PlainAttrs T)(slot:Slot T name id)(y:typeOf (.builtin id)=pure (.type "method_descriptor"))(m:SM X id r)(q:PE X o to)(c:PA X (e::es) t)
  (b:attributeBase o name X.e (eval o X.e)=eval o X.e:=by rfl)
  (f:((backTo cpos (starEach (e::es) X.e)).all (fun x=>!x.1) && (backToKw cpos (keywordEach [] X.e)).all (fun x=>x.1.isSome)
   && decide ((e::es).length+([]:List Keyword).length+(if ([]:List Keyword).isEmpty then 0 else 1) < 30))=true:=by rfl)
  (l:(apos.endLine == cpos.line)=true:=by rfl) (d:starEach (e::es) X.e=(false,eval e X.e)::starEach es X.e:=by rfl) (p:(backTo cpos (starEach es X.e)).any (·.1)=false:=by rfl) :
  PE X (.Call (.Attribute o name apos) (e::es) [] cpos) (Tj X.K T r to t):=by
 intro pins s J H Q I h;refine Ec b f l rfl (dL (q pins s J H _ I h) λv S z=>?_);obtain⟨x,G,a,n,ty,u⟩:=z;obtain⟨h1,h2⟩:=Ex a n ty;refine⟨T,id,w,slot,y,h1,h2,?_⟩;have A:=c cpos pins S J G _ a u;rw[d]at A ⊢;refine lP (by show(false ||(backTo cpos (starEach es X.e)).any (·.1))=false;rw[p]<;>rfl) (nq ?_);exact dL A λj F z=>by obtain⟨K,H2,k,i,g⟩:=z;exact m pins F J H2 x K v j Q k n i g
end
def R_(X:Cx)(id:String)(r:V->List V->Hp->VK->Prop):Prop:=
 ∀(pins:PN)(s:Shared)(J:St)(H:Hp)(x:V)(xs:List V)(v:Value)(j:LV)(Q:VK),Inv X pins J H s->RelV x v->bc xs j->r x xs H Q ->
  wx X (call (.builtin id) (v::j)) (EP X pins J Q) X.xe s
theorem bc.one:∀{x:V}{j:LV},bc [x] j->∃u,j=[u]/\RelV x u
 |_,_,.cons r .nil=>⟨_,rfl,r⟩
theorem bc.zero:∀{j:LV},bc [] j->j=[]
 |_,.nil=>rfl
theorem bc.rep(h:bc xs j):∀k:Nat,bc (List.replicate k xs).flatten (List.replicate k j).flatten
 |0=>.nil
 |k+1=>by rw[dw,dw,hZ,hZ];exact bc.append h (bc.rep h k)
theorem foldl_rep(i:LV):∀(k:Nat)(a:LV),
  qz (λx s=>x++s) a.toArray (List.replicate k i.toArray)=(a++(List.replicate k i).flatten).toArray
 |0,a=>by simp
 |k+1,a=>by
  have e:a.toArray++i.toArray=(a++i).toArray:=by simp
  have h:(a++i)++(List.replicate k i).flatten=a++(List.replicate (k+1) i).flatten:=by rw[dw,hZ,cR]
  rw[<- h,<- foldl_rep i k (a++i),<- e,dw,gE]
section
variable{X:Cx}{pins:PN}{J:St}{H:Hp}{s:Shared}{l b:Addr}{xs ys zs:List V}
theorem Inv.lset{i:LV}{t:Nat}(I:Inv X pins J H s)(h:H l=some (.lst xs))
  (e:s.heap.get? l=some { cls:=.type "list",data:=.seq i.toArray n }) (a:f i.toArray=z.toArray) (v:bc ys z) (c:ys.length≤sizeLine) :
  Inv X pins J (cx H l (.lst ys)) { s with heap:=s.heap.update l (kh f),toks:=t }:=by
 have q:=PySem.IsL.update e f;rw[a]at q;refine I.write (x:=l) (e:=l) (by rw[h];exact trivial) (.inl rfl) (λm u b k=>(DS s.heap (kh f) (aQ b)).trans k) ⟨_,q⟩ ?_;exact⟨c,z,_,v,q⟩
theorem Inv.lnew{t:Nat}(I:Inv X pins J H s)(h:bc ys z)(x:ys.length≤sizeLine) :
  Inv X pins J (cx H s.heap.objs.size (.lst ys)) { s with heap:=s.heap.push { cls:=.type "list",data:=.seq z.toArray },toks:=t }:=
 I.laid (λ_ _ q=>bD _ q) (ah _) ⟨x,z,0,h,db _ rfl⟩
theorem Inv.fresh(I:Inv X pins J H s):H s.heap.objs.size=none:=I.h.fresh (ah _)
theorem Inv.lstM(I:Inv X pins J H s)(h:H l=some (.lst xs)):xs.length≤sizeLine/\∃(i:LV)(n:Nat),bc xs i/\xs.length=i.length/\s.heap.get? l=some { cls:=.type "list",data:=.seq i.toArray n }:=by obtain⟨z,i,n,r,e⟩:=I.h l _ h;exact⟨z,i,n,r,r.length,e⟩
theorem xB(h:n≤sizeLine):p' n=false:=by unfold p';exact cG (by lia)
end
section
variable{X:Cx}
def IE:V->List V->Hp->VK->Prop:=λx v H Q=>∃l xs y,x=.ref l/\v=[y]/\H l=some (.lst xs)/\xs.length < sizeLine/\Q .non (cx H l (.lst (xs++[y])))
theorem uq:R_ X "list.append" IE:=by intro pins s J H x t v j Q I b f h;obtain⟨l,xs,y,rfl,rfl,a,m,q⟩:=h;cases b;obtain⟨u,rfl,k⟩:=f.one;obtain⟨z,i,n,r,c,e⟩:=I.lstM a;refine je zX ⟨_,e,rfl⟩ F.entry_list_append (F.args_list_append_2 _ _) (PySem.list_append l i.toArray n u (by rw[be];lia)) ⟨e,?_⟩;refine⟨.non,_,I.lset (z:=i++[u]) a e (by simp) (r.append (.cons k .nil)) ?_,rfl,q⟩;rw[bg,vn];lia
def ID:V->List V->Hp->VK->Prop:=λx v H Q=>∃l b xs zs,x=.ref l/\v=[.ref b]/\H l=some (.lst xs)/\H b=some (.lst zs)/\xs.length+zs.length≤sizeLine/\Q .non (cx H l (.lst (xs++zs)))
theorem Db:R_ X "list.extend" ID:=by
 intro pins s J H x K v j Q I g w h;obtain⟨l,b,xs,zs,rfl,rfl,k,B,S,q⟩:=h;cases g;obtain⟨u,rfl,d⟩:=w.one;cases d;obtain⟨z,t,n,r,y,e⟩:=I.lstM k;obtain⟨P,i,m,p,c,f⟩:=I.lstM B;have a:t.toArray.size+i.toArray.size≤sizeLine:=by rw[be,be];lia
 have o:¬(!t.toArray.isEmpty && p' (t.toArray.size+i.toArray.size))=true:=by rw[xB a,Bool.and_false];exact b7
 refine je zY ⟨_,e,rfl⟩ F.entry_list_extend (F.args_list_extend_2 _ _)
  (AutoSeq1.list_extend_list_list_0 l t.toArray n b i.toArray m o (by rw[be];lia) (by lia)) ⟨e,f,?_⟩
 refine⟨.non,_,I.lset (z:=t++i) k e (by simp) (r.append p) ?_,rfl,q⟩;rw[bg];lia
def Ls:V->List V->Hp->VK->Prop:=λx v H Q=>∃l xs,x=.ref l/\v=[]/\H l=some (.lst xs)/\Q .non (cx H l (.lst []))
theorem FJ:R_ X "list.clear" Ls:=by intro pins s J H x c v j Q I f k h;obtain⟨l,xs,rfl,rfl,a,q⟩:=h;cases f;have u:=k.zero;subst u;obtain⟨z,i,n,r,b,e⟩:=I.lstM a;refine je zW ⟨_,e,rfl⟩ F.entry_list_clear (F.args_list_clear_1 _) (AutoSeq1.list_clear_list_0 l i.toArray n (by rw[be];lia)) ⟨e,?_⟩;exact⟨.non,_,I.lset (z:=[]) (ys:=[]) a e rfl .nil (cT _),rfl,q⟩
def Rn:R2:=λx y H Q=>∃l b xs zs,x=.ref l/\y=.ref b/\H l=some (.lst xs)/\H b=some (.lst zs)/\xs.length+zs.length≤sizeLine/\∀p,H p=none->Q (.ref p) (cx H p (.lst (xs++zs)))
theorem LZ:ke X (binaryOp .Add) Rn:=by
 intro pins s J H x y v u Q I p d h;obtain⟨l,b,xs,zs,rfl,rfl,f,B,g,q⟩:=h;cases p;cases d;obtain⟨z,t,n,r,w,e⟩:=I.lstM f;obtain⟨o,i,j,m,c,a⟩:=I.lstM B;refine PySem.P.add_list e a ?_ (by rw[be,be];lia);have k:t.toArray++i.toArray=(t++i).toArray:=by simp
 rw[k];exact⟨.ref _,_,I.lnew (t:=s.toks) (r.append m) (by rw[bg];lia),rfl,q _ I.fresh⟩
def Ri:R2:=λx y H Q=>∃l k xs,x=.ref l/\y=.int k/\H l=some (.lst xs)/\-(2 ^ 63)≤k/\k < 2 ^ 63/\xs.length * k.toNat≤sizeLine /\
 ∀p,H p=none->Q (.ref p) (cx H p (.lst (List.replicate k.toNat xs).flatten))
theorem Jf(xs:List α)(k:Nat):(List.replicate k xs).flatten.length=k * xs.length:=by
 induction k with
 |zero=>simp
 |succ k i=>rw[dw,hZ,bg,i,qU,vu]
theorem LU:ke X (binaryOp .Mult) Ri:=by
 intro pins s J H x y v u Q I P A h;obtain⟨l,k,xs,rfl,rfl,S,h1,h2,g,q⟩:=h;cases P;obtain⟨t,rfl⟩:=A;obtain⟨z,i,n,r,K,e⟩:=I.lstM S;have b:i.toArray.size * k.toNat≤sizeLine:=by rw[be,<- K];exact g
 have c:¬i.toArray.size * k.toNat > (2 ^ 63-1) / 8:=by
  have:(sizeLine:Nat)≤(2 ^ 63-1) / 8:=by decide
  lia
 have f:¬(!Builtin.List.listFitsIndex k)=true:=by rw[fitsIndex_both h1 h2];exact b7
 have o:¬p' (i.toArray.size * k.toNat)=true:=by rw[xB b];exact b7
 have w:qz (λp d=>p++d) #[] (List.replicate (if i.toArray.isEmpty=true then 0 else k.toNat) i.toArray)=(List.replicate k.toNat i).flatten.toArray:=by
  have j:∀m:Nat,qz (λp d=>p++d) #[] (List.replicate m i.toArray)=(List.replicate m i).flatten.toArray:=λm=>by have:=foldl_rep i m [];rw[cH]at this;exact this
  rw[j];cases i with
  |nil=>simp
  |cons a B=>rw[al (by simp)]
 refine Ed (T:="list") (U:="int") (by decide) ⟨_,e,rfl⟩ (λs'=>rK s' k t) noFill_list_mul zS qf repeat_list zU.lookup
  (je qf (rK s k t) zT (zV _ _) (int___rmul___int_list k t l i.toArray n)
   ⟨e,rfl,⟨_,e,rfl⟩,je F.slot_list_mul ⟨_,e,rfl⟩ F.entry_list_mul (F.args_list_mul_2 _ _) (AutoListH.list___mul___list_int_3 l i.toArray n k t f c o) ⟨e,?_⟩⟩)
 rw[w];exact⟨.ref _,_,I.lnew (t:=s.toks) (r.rep k.toNat) (by rw[Jf,nE];exact g),rfl,q _ I.fresh⟩
end
section
variable{κ:Type}[DecidableEq κ]
noncomputable def iq(kvs:List (κ×V))(k:κ):Option V:=(kvs.find? λv=>decide (v.1=k)).map (·.2)
noncomputable def putK(kvs:List (κ×V))(k:κ)(v:V):List (κ×V):=
 if (kvs.any λh=>decide (h.1=k))=true then kvs.map (λh=>if h.1=k then (h.1,v) else h) else kvs++[(k,v)]
theorem jg{p:κ×V}{r:List (κ×V)}{k:κ}(e:p.1=k):iq (p::r) k=some p.2:=by simp[iq,lR,e]
theorem ip{p:κ×V}{r:List (κ×V)}{k:κ}(e:¬p.1=k):iq (p::r) k=iq r k:=by simp[iq,lR,e]
theorem xc(k:κ):∀kvs:List (κ×V),(kvs.any λv=>decide (v.1=k))=(iq kvs k).isSome
 | []=>rfl
 |p::r=>by
  rw[fP];by_cases e:p.1=k
  .simp only[jg e,jT e,Bool.true_or,Option.isSome_some]
  .rw [ip e,cG e,qo];exact xc k r
theorem lz(kvs:List (κ×V))(k:κ)(v:V):(putK kvs k v).length≤kvs.length+1:=by
 unfold putK;split
 .rw [aR];lia
 .rw [bg,aV,qB];lia
theorem lf.isSome_eq(r:lf o u):o.isSome=u.isSome:=by
 cases o with
 |none=>cases u with
  |none=>rfl
  |some _=>exact(show False from r).elim
 |some _=>cases u with
  |none=>exact(show False from r).elim
  |some _=>rfl
theorem lf.getD(r:lf o u)(h:RelV d q):RelV (o.getD d) (u.getD q):=by
 cases o with
 |none=>cases u with
  |none=>exact h
  |some _=>exact(show False from r).elim
 |some _=>cases u with
  |none=>exact(show False from r).elim
  |some _=>exact r
theorem KV.val{kvs:List (κ×V)}{v:List (κ×Value)}(r:KV kvs v)(k:κ):lf (iq kvs k) (valueAt v k):=by
 unfold KV at r;induction r with
 |nil=>exact True.intro
 | @cons p q ps qs h t i=>
  obtain⟨h1,h2⟩:=h;by_cases e:p.1=k
  .have x:q.1=k:=h1.symm.trans e;have b:valueAt (q::qs) k=some q.2:=by simp[valueAt,lR,x]
   rw[jg e,b];exact h2
  .have x:¬q.1=k:=λz=>e (h1.trans z);have b:valueAt (q::qs) k=valueAt qs k:=by simp[valueAt,lR,x]
   rw[ip e,b];exact i
theorem KV.any(r:KV kvs q)(k:κ):(kvs.any λv=>decide (v.1=k))=q.any λv=>decide (v.1=k):=by
 unfold KV at r;induction r with
 |nil=>rfl
 |cons h t i=>rw[fP,fP,i,h.1]
theorem KV.repl(r:KV kvs I)(k:κ)(x:RelV y u) :
  KV (kvs.map λv=>if v.1=k then (v.1,y) else v) (I.map λv=>if v.1=k then (v.1,u) else v):=by
 unfold KV at r ⊢;induction r with
 |nil=>exact .nil
 | @cons p q ps qs h t i=>
  rw[aE,aE];refine .cons ?_ i;obtain⟨h1,h2⟩:=h;by_cases e:p.1=k
  .rw [aj e,aj (h1.symm.trans e)];exact⟨h1,x⟩
  .rw [al e,al (λz=>e (h1.trans z))];exact⟨h1,h2⟩
theorem KV.put(r:KV kvs q)(k:κ)(h:RelV y u):KV (putK kvs k y) (stored q k u):=by
 unfold putK stored;rw[r.any k];by_cases e:(q.any λv=>decide (v.1=k))=true
 .rw [aj e,aj e];exact r.repl k h
 .rw [al e,al e];exact Paired.snoc r ⟨rfl,h⟩
theorem KV.length(r:KV kvs q):kvs.length=q.length:=Paired.length r
end
variable{w:World}{u:Value}
theorem pD(r:RelV (kV k) u):(cJ P w).is k u=true:=by
 cases k with
 |inl i=>obtain⟨t,e⟩:=(show ∃t,u=Value.int i t from r);subst e;exact xH P w i t
 |inr x=>obtain⟨t,e⟩:=(show ∃t,u=Value.str x t from r);subst e;exact xG P w x t
theorem uw:∀{ks:List bG}{j:LV},bc (ks.map kV) j->ItemsAre (cJ P w) ks j
 | [],_,r=>by rw[eE]at r;cases r;exact .nil
 |k::ks,_,r=>by
  rw[aE]at r;cases r with
  |cons h t=>exact .cons (pD h) (uw t)
abbrev KT(H:Hp):List (List bG×V)->List (List bG×Addr×Value)->Prop:=Paired λp q=>p.1=q.1/\H q.2.1=some (.tup (p.1.map kV))/\RelV p.2 q.2.2
theorem KT.val{H:Hp}{kvs:List (List bG×V)}{xs:List (List bG×Addr×Value)}(r:KT H kvs xs)(k:List bG):lf (iq kvs k) ((atKey xs k).map (·.2)):=by
 induction r with
 |nil=>exact True.intro
 | @cons p q ps qs h t i=>
  obtain⟨h1,_,h2⟩:=h;by_cases e:p.1=k
  .have x:q.1=k:=h1.symm.trans e;have b:atKey (q::qs) k=some q.2:=by simp[atKey,lR,x]
   rw[jg e,b];exact h2
  .have x:¬q.1=k:=λz=>e (h1.trans z);have b:atKey (q::qs) k=atKey qs k:=by simp[atKey,lR,x]
   rw[ip e,b];exact i
variable{H:Hp}{kvs:List (List bG×V)}{xs:List (List bG×Addr×Value)}{y:V}
theorem KT.repl(r:KT H kvs xs)(k:List bG)(a:RelV y u) :
  KT H (kvs.map λv=>if v.1=k then (v.1,y) else v) (xs.map (putAt k u)):=by
 induction r with
 |nil=>exact .nil
 | @cons p q ps qs h t i=>
  rw[aE,aE];refine .cons ?_ i;obtain⟨h1,h2,x⟩:=h;unfold putAt;by_cases e:p.1=k
  .rw [aj e,aj (h1.symm.trans e)];exact⟨h1,h2,a⟩
  .rw [al e,al (λz=>e (h1.trans z))];exact⟨h1,h2,x⟩
theorem KT.put(r:KT H kvs xs)(k:List bG)(x:H b=some (.tup (k.map kV)))(h:RelV y u) :
  KT H (putK kvs k y) (storedH xs k b u):=by
 have e:(kvs.any λv=>decide (v.1=k))=(atKey xs k).isSome:=by rw[xc,(r.val k).isSome_eq,AE]
 unfold putK storedH;rw[e];by_cases q:(atKey xs k).isSome=true
 .rw [aj q,aj q];exact r.repl k h
 .rw [al q,al q];exact Paired.snoc r ⟨rfl,x,h⟩
theorem KT.keeps(r:KT H kvs xs)(h:∀b ys,H b=some (.tup ys)->H' b=some (.tup ys)):KT H' kvs xs:=
 Paired.mapP r λ_ _ z=>⟨z.1,h _ _ z.2.1,z.2.2⟩
section
variable{P:Program}{w:World}{H:Hp}{h:Heap}{a:Addr}
theorem rd_of{u:HO}(ok:HOk P w H h)(e:Rd H a u):eB P w H h a u:=e.ok ok
theorem uH{kvs:List (bG×V)}(ok:HOk P w H h)(e:Rd H a (.dK kvs)):kvs.length≤sizeLine/\(a == sysModules)=false/\∃vs,KV kvs vs/\h.DictOf (cJ P w) a vs:=
 show eB P w H h a (.dK kvs) from rd_of ok e
theorem Kq{kvs:List (bG×V)}(ok:HOk P w H h)(e:H a=some (.dK kvs)):kvs.length≤sizeLine/\(a == sysModules)=false/\∃v,KV kvs v/\h.DictOf (cJ P w) a v:=uH ok (.inl e)
theorem oZ(ok:HOk P w H h)(e:H a=some (.tup (ks.map kV))):(tupleKind (cJ P w)).is h ks a:=by obtain⟨_,i,r,o,h1,⟨h2,n,x⟩,_⟩:=(show eB P w H h a (.tup (ks.map kV)) from ok a _ e);exact⟨o,i.toArray,n,h1,h2,x,by simpa using uw r⟩
theorem uG(ok:HOk P w H h)(e:Rd H a (.dT kvs)):kvs.length≤sizeLine/\(a == sysModules)=false /\
  ∃xs,KT H kvs xs/\h.DictOfH (tupleKind (cJ P w)) a xs:=by
 obtain⟨z,y,xs,r,o,es,k,h1,h2,f,b,c⟩:=(show eB P w H h a (.dT kvs) from rd_of ok e);refine⟨z,y,xs,r,o,es,k,h1,h2,f,b,λx s=>?_,c⟩;have all:∀{l:List (List bG×V)}{m:List (List bG×Addr×Value)},KT H l m->∀x ∈ m,(tupleKind (cJ P w)).is h x.1 x.2.1:=by
  intro l m q;induction q with
  |nil=>intro x s;exact nomatch s
  | @cons p q ps qs n t i=>
   intro x s;rcases aW.mp s with e|s
   .subst e;exact oZ ok (by rw[<- n.1];exact n.2.1)
   .exact i x s
 exact all r x s
theorem Pl(ok:HOk P w H h)(e:H a=some (.dT kvs)):kvs.length≤sizeLine/\(a == sysModules)=false /\
  ∃xs,KT H kvs xs/\h.DictOfH (tupleKind (cJ P w)) a xs:=uG ok (.inl e)
end
def kZ(H:Hp)(a:Addr)(y:V)(r:Option V):Prop:=
 (∃kvs k,Rd H a (.dK kvs)/\y=kV k/\r=iq kvs k)\/∃kvs k b,Rd H a (.dT kvs)/\y=.ref b/\H b=some (.tup (k.map kV))/\r=iq kvs k
def yi(H:Hp)(a:Addr)(y v:V)(H':Hp):Prop:=
 (∃kvs k,H a=some (.dK kvs)/\y=kV k/\kvs.length < sizeLine/\H'=cx H a (.dK (putK kvs k v))) \/
 ∃kvs k b,H a=some (.dT kvs)/\y=.ref b/\H b=some (.tup (k.map kV))/\kvs.length < sizeLine/\H'=cx H a (.dT (putK kvs k v))
theorem kZ.k{H:Hp}{a:Addr}{kvs:List (bG×V)}{k:bG}(e:H a=some (.dK kvs)):kZ H a (kV k) (iq kvs k):=.inl ⟨kvs,k,.inl e,rfl,rfl⟩
theorem kZ.t{H:Hp}{a b:Addr}{kvs:List (List bG×V)}{k:List bG}(e:H a=some (.dT kvs))(h:H b=some (.tup (k.map kV))):kZ H a (.ref b) (iq kvs k):=.inr ⟨kvs,k,b,.inl e,rfl,h,rfl⟩
theorem yi.k{H:Hp}{a:Addr}{kvs:List (bG×V)}{k:bG}{v:V}(e:H a=some (.dK kvs))(h:kvs.length < sizeLine):yi H a (kV k) v (cx H a (.dK (putK kvs k v))):=.inl ⟨kvs,k,e,rfl,h,rfl⟩
theorem yi.t{H:Hp}{a b:Addr}{kvs:List (List bG×V)}{k:List bG}{v:V}(e:H a=some (.dT kvs))(h:H b=some (.tup (k.map kV)))(l:kvs.length < sizeLine) :
  yi H a (.ref b) v (cx H a (.dT (putK kvs k v))):=.inr ⟨kvs,k,b,e,rfl,h,l,rfl⟩
section
variable{X:Cx}{pins:PN}{J:St}{H:Hp}{s:Shared}{a:Addr}{y v:V}{u r:Value}{o:Option V}{A:Around}{E:VP}
theorem Inv.big(I:Inv X pins J H s):sysModules < s.heap.objs.size:=by have h:mainGlobals < s.heap.objs.size:=(I.mod.glob.keeps I.bk).lt;exact lW (by decide) h
theorem uI(t:A.units+1 < cLine)(I:Inv X pins J H s)(g:kZ H a y (some v))(c:RelV y u)(h:∀x s',Inv X pins J H s'->RelV v x->Q x s') :
  wpAny (model X.p X.w) A (getItem (.ref a) u) Q E s:=by
 rcases g with ⟨kvs,k,e,n,l⟩|⟨kvs,k,b,e,n,m,l⟩
 .subst n;obtain⟨z,hd,q,r,d⟩:=uH I.h e;obtain⟨x,hw,w⟩:=lf.some_of (v:=v) (o:=valueAt q k) (by rw[l];exact r.val k);exact wpAny_getItem_of (pD c) d.mapOf hw (h x _ (I.tok _) w)
 .subst n;cases (show u=Value.ref b from c);obtain⟨z,hd,xs,r,d⟩:=uG I.h e;obtain⟨x,hw,w⟩:=lf.some_of (v:=v) (o:=(atKey xs k).map (·.2)) (by rw[l];exact r.val k);obtain⟨p,hp,f⟩:=fO.mp hw;refine wpAny_getItem_heap (rQ t) (oZ I.h m) d hp ?_;rw[f];exact h x _ (I.tok _) w
theorem RW(c:A.units+1 < cLine)(I:Inv X pins J H s)(g:kZ H a y o)(n:RelV y u)(h:∀s',Inv X pins J H s'->Q (.bool o.isSome) s') :
  wpAny (model X.p X.w) A (compareOp .In u (.ref a)) Q E s:=by
 rcases g with ⟨kvs,k,e,x,l⟩|⟨kvs,k,b,e,x,f,l⟩
 .subst x;obtain⟨z,hd,v,r,d⟩:=uH I.h e;refine wpAny_in_of (pD n) hd d.mapOf ?_;rw[<- (r.val k).isSome_eq,<- l];exact h _ (I.tok _)
 .subst x;cases (show u=Value.ref b from n);obtain⟨z,hd,xs,r,d⟩:=uG I.h e;refine wpAny_in_heap (rQ c) (oZ I.h f) hd d ?_;have q:=(r.val k).isSome_eq;rw[AE]at q;rw[<- q,<- l];exact h _ (I.tok _)
theorem wN{t:Nat}(I:Inv X pins J H s)(m:PQ (H a))(f:gx a s.heap h')(k:∃q,h'.get? a=some q)(n:eB X.p X.w (cx H a N) h' a N) :
  Inv X pins J (cx H a N) { s with heap:=h',toks:=t }:=
 I.write (x:=a) (e:=a) m (.inl rfl) (λb q h z=>(f.2 b h).trans z) k n
theorem Gw{P:Program}{w:World}{H':Hp}{h':Heap}{kvs:List (bG×V)}{v:List (bG×Value)}(z:kvs.length≤sizeLine)(hd:(a == sysModules)=false)(r:KV kvs v)(d:h'.DictOf (cJ P w) a v) :
  eB P w H' h' a (.dK kvs):=⟨z,hd,v,r,d⟩
theorem DA{H':Hp}{Q:Unit->Shared->Prop}(hu:A.units+1 < cLine)(I:Inv X pins J H s)(g:yi H a y v H')(ry:RelV y u)(rv:RelV v r)(h:∀s',Inv X pins J H' s'->Q () s') :
  wpAny (model X.p X.w) A (setItem (.ref a) u r) Q E s:=by
 rcases g with ⟨kvs,k,e,ey,l,eH⟩|⟨kvs,k,b,e,ey,eb,l,eH⟩
 .subst ey eH;obtain⟨z,hd,vs,rel,dd⟩:=Kq I.h e;have hz:vs.length≤sizeLine:=by rw[<- rel.length];exact z
  have hl:(putK kvs k v).length≤sizeLine:=by have:=lz kvs k v;lia
  refine wpAny_setItem_pairs (hsz:=hz) (pD ry) dd λh' dd' hs=>h _ ?_;have he:∃q,h'.get? a=some q:=let ⟨q,_,_,hq,_⟩:=dd';⟨q,hq⟩
  exact wN I (by rw[e];exact True.intro) hs he (Gw hl hd (rel.put k rv) dd')
 .subst ey eH;cases (show u=Value.ref b from ry);obtain⟨z,hd,xs,rel,dd⟩:=Pl I.h e;have hz:xs.length≤sizeLine:=by rw[<- Paired.length rel];exact z
  have hl:(putK kvs k v).length≤sizeLine:=by have:=lz kvs k v;lia
  refine wpAny_setItem_heap (hsz:=hz) (rQ hu) (oZ I.h eb) dd λh' dd' hs=>h _ ?_;obtain⟨q,es,ep,hq,h2,h3,h4,_,h5⟩:=dd';refine wN I (by rw[e];exact True.intro) hs ⟨q,hq⟩ ⟨hl,hd,_,(rel.put k eb rv).keeps λc ys ec=>?_,q,es,ep,hq,h2,h3,h4,h5⟩;rw[aw (OT ec e (λz=>nomatch z))];exact ec
end
noncomputable def Ot(td ty tv:TE):TS:=λD J H=>tv J H λv G=>td J G λx H2=>ty J H2 λy e=>∃a h,x=.ref a/\yi e a y v h/\D.nx J h
section
variable{X:Cx}{o i e value:Expr}{B pos' tpos:Pos}{td ty tv:TE}
theorem BM(t:X.A.units+1 < cLine)(c:PE X o td)(hi:PE X i ty)(p:PE X value tv)(m:swapsWith value (some (.Subscript o i pos')) B.line X.e=pure false) :
  PS X (.Assign [.Subscript o i pos'] value B) (Ot td ty tv):=by
 intro pins s J H D I h;refine wpAny_Assign_Subscript (dL (p pins s J H _ I h) λr F ⟨v,G,n,j,q⟩=>dL (c pins F J G _ n q) λu K ⟨x,H2,k,l,d⟩=>dL (hi pins K J H2 _ k d) λiv A z=>?_) m;obtain⟨y,P,f,S,a,e,ex,g,w⟩:=z;subst ex;obtain rfl:u=Value.ref a:=l;exact DA t f g S j λC b=>⟨J,e,b,w⟩
end
theorem Gx(h:Heap)(b:sysModules < h.objs.size):eB P w H (h.push { cls:=.type "dict",data:=.dict #[] }) h.objs.size (.dK []):=
 ⟨cT _,rJ.mpr (aQ (bB b)),[],.nil,Heap.DictOf.new h⟩
theorem Gu(h:Heap)(b:sysModules < h.objs.size):eB P w H (h.push { cls:=.type "dict",data:=.dict #[] }) h.objs.size (.dT []):=
 ⟨cT _,rJ.mpr (aQ (bB b)),[],.nil,_,#[],0,db _ rfl,⟨rfl,rfl,rfl⟩,rfl,rfl,AI⟩
def Ld:TE:=λ_ H Q=>∀p,H p=none->Q (.ref p) (cx H p (.dK []))
def Lb:TE:=λ_ H Q=>∀p,H p=none->Q (.ref p) (cx H p (.dT []))
section
variable{X:Cx}{B:Pos}
theorem Fs:PE X (.Dict [] [] B) Ld:=λpins s J H Q I h=>
 D2 ⟨.ref s.heap.objs.size,_,I.laid (a:=s.heap.objs.size) (o:=.dK []) (t':=s.toks) (λ_ _ q=>bD _ q) (ah _) (Gx s.heap I.big),rfl,h _ (I.h.fresh (ah _))⟩
theorem Fq:PE X (.Dict [] [] B) Lb:=λpins s J H Q I h=>
 D2 ⟨.ref s.heap.objs.size,_,I.laid (a:=s.heap.objs.size) (o:=.dT []) (t':=s.toks) (λ_ _ q=>bD _ q) (ah _) (Gu s.heap I.big),rfl,h _ (I.h.fresh (ah _))⟩
end
structure M1(X:Cx)(o:Expr)(m:Str)(apos:Pos)(e:Expr)(cpos:Pos):Prop where
 base:attributeBase o m X.e (eval o X.e)=eval o X.e
 few:((backTo cpos (starEach [e] X.e)).all (fun x=>!x.1) && (backToKw cpos (keywordEach [] X.e)).all (fun x=>x.1.isSome)
  && decide (([e]:Ab).length+([]:List Keyword).length+(if ([]:List Keyword).isEmpty then 0 else 1) < 30))=true
 line:(apos.endLine == cpos.line)=true
 trees:backTo cpos (starEach [e] X.e)=[(false,eval e X.e)]
structure M2(X:Cx)(o:Expr)(m:Str)(apos:Pos)(e f:Expr)(cpos:Pos):Prop where
 base:attributeBase o m X.e (eval o X.e)=eval o X.e
 few:((backTo cpos (starEach [e,f] X.e)).all (fun x=>!x.1) && (backToKw cpos (keywordEach [] X.e)).all (fun x=>x.1.isSome)
  && decide (([e,f]:Ab).length+([]:List Keyword).length+(if ([]:List Keyword).isEmpty then 0 else 1) < 30))=true
 line:(apos.endLine == cpos.line)=true
 trees:backTo cpos (starEach [e,f] X.e)=[(false,eval e X.e),(false,eval f X.e)]
def Sd(H:Hp)(a:Addr):Prop:=(∃kvs,Rd H a (.dK kvs))\/∃kvs,Rd H a (.dT kvs)
variable{pins:PN}{J:St}{s:Shared}
theorem y'(I:Inv X pins J H s)(d:Sd H a) :
  s.TypeIs (.ref a) "dict"/\(∀b,Value.ref a=.ref b->∃o,s.heap.get? b=some o/\o.dict=none)/\(a == sysModules)=false:=by
 rcases d with ⟨kvs,e⟩|⟨kvs,e⟩
 .obtain⟨_,hd,v,_,h⟩:=uH I.h e;refine⟨h.typeIs,λb q=>?_,hd⟩;cases q;obtain⟨o,_,_,h1,h2,_⟩:=h;exact⟨o,h1,h2.2.1⟩
 .obtain⟨_,hd,xs,_,h⟩:=uG I.h e;refine⟨h.typeIs,λb q=>?_,hd⟩;cases q;obtain⟨o,_,_,h1,h2,_⟩:=h;exact⟨o,h1,h2.2.1⟩
section
variable{X:Cx}{pins:PN}{J:St}{H:Hp}{s:Shared}{a:Addr}{y d:V}{u r:Value}{o:Option V}{A:Around}{E:VP}
theorem MO(c:A.units+1 < cLine)(I:Inv X pins J H s)(g:kZ H a y o)(n:RelV y u)(h:∀w s',Inv X pins J H s'->RelV (o.getD .non) w->Q w s') :
  wpAny (model X.p X.w) A (call (.builtin "dict.get") [.ref a,u]) Q E s:=by
 rcases g with ⟨kvs,k,e,x,l⟩|⟨kvs,k,b,e,x,f,l⟩
 .subst x;obtain⟨z,hd,v,r,d⟩:=uH I.h e;refine rL lO d.typeIs qg (z4 _ _) (meets_dict_get (cJ X.p X.w) a (pD n) hd) ⟨_,d.mapOf,h _ _ (I.tok _) ?_⟩;rw[l];exact(r.val k).getD rfl
 .subst x;cases (show u=Value.ref b from n);obtain⟨z,hd,xs,r,d⟩:=uG I.h e;refine rL lO d.typeIs qg (z4 _ _) (meetsH_dict_get (tupleKind (cJ X.p X.w)) a b hd) ⟨rQ c,k,xs,oZ I.h f,d,h _ _ (I.tok _) ?_⟩;rw[l];exact(r.val k).getD rfl
theorem MN(p:A.units+1 < cLine)(I:Inv X pins J H s)(g:kZ H a y o)(m:RelV y u)(c:RelV d r)(h:∀w s',Inv X pins J H s'->RelV (o.getD d) w->Q w s') :
  wpAny (model X.p X.w) A (call (.builtin "dict.get") [.ref a,u,r]) Q E s:=by
 rcases g with ⟨kvs,k,e,f,l⟩|⟨kvs,k,b,e,f,t,l⟩
 .subst f;obtain⟨z,hd,v,x,n⟩:=uH I.h e;refine rL lO n.typeIs qg (z5 _ _ _) (meets_dict_get_default (cJ X.p X.w) a (pD m) hd r) ⟨_,n.mapOf,h _ _ (I.tok _) ?_⟩;rw[l];exact(x.val k).getD c
 .subst f;cases (show u=Value.ref b from m);obtain⟨z,hd,xs,x,n⟩:=uG I.h e;refine rL lO n.typeIs qg (z5 _ _ _) (meetsH_dict_get_default (tupleKind (cJ X.p X.w)) a b hd r) ⟨rQ p,k,xs,oZ I.h t,n,h _ _ (I.tok _) ?_⟩;rw[l];exact(x.val k).getD c
end
noncomputable def Lf(td ty:TE):TE:=λJ H Q=>td J H λx G=>∃a,x=.ref a/\Sd G a/\ty J G λy H2=>∃o,kZ H2 a y o/\Q (o.getD .non) H2
noncomputable def Le(td ty tx:TE):TE:=λJ H Q=>td J H λx G=>∃a,x=.ref a/\Sd G a/\ty J G λy H2=>tx J H2 λz h=>∃o,kZ h a y o/\Q (o.getD z) h
section
variable{X:Cx}{o e f:Expr}{apos cpos:Pos}{td ty tx:TE}
theorem Fu(t:X.A.units+1 < cLine)(c:PE X o td)(b:PE X e ty)(m:M1 X o "get" apos e cpos):PE X (.Call (.Attribute o "get" apos) [e] [] cpos) (Lf td ty):=by intro pins s J H Q I h;refine yB m.base m.few m.line u7 lO z0 (dL (c pins s J H _ I h) λu i z=>?_);obtain⟨x,G,n,v,a,ex,d,q⟩:=z;subst ex;obtain rfl:u=Value.ref a:=v;obtain⟨j,l,_⟩:=y' n d;refine⟨j,l,?_⟩;rw[m.trees];refine lP rfl (nq (fN (dL (b pins i J G _ n q) λiv F ⟨y,H2,k,w,S,g,p⟩=>jy ?_)));exact MO t k g w λP K f r=>⟨_,H2,f,r,p⟩
theorem Ft(w:X.A.units+1 < cLine)(v:PE X o td)(p:PE X e ty)(q:PE X f tx)(m:M2 X o "get" apos e f cpos):PE X (.Call (.Attribute o "get" apos) [e,f] [] cpos) (Le td ty tx):=by
 intro pins s J H Q I h;refine yB m.base m.few m.line u7 lO z0 (dL (v pins s J H _ I h) fun u A i=>?_);obtain⟨x,G,n,F,a,ex,d,j⟩:=i;subst ex;obtain rfl:u=Value.ref a:=F;obtain⟨C,D,_⟩:=y' n d;refine⟨C,D,?_⟩;rw [m.trees];refine lP rfl (nq (fN (dL (p pins A J G _ n j) fun iv B ⟨y,H2,b,K,l⟩=>
  fN (dL (q pins B J H2 _ b l) λE M ⟨z,k,c,P,L,g,S⟩=>jy ?_))))
 exact MN w c g K P λR N t r=>⟨_,k,t,r,S⟩
end
end L2
set_option tactic.hygienic true
namespace Att
open PySem PySem.W PySem.Calls PyProof.Rows
theorem pW:∀(s:List Int)(v:LV),WellAll P h v (s.map WData.int)->IntsAre v s:=by
 intro s;induction s with
 |nil=>intro v w;rw[eE]at w;cases w;exact .nil
 |cons n s i=>
  intro v w;rw[aE]at w;cases w with
  |cons a b=>cases a;exact .cons _ _ (i _ b)
theorem CZ{l:OpenLaw}(t:l.most=some n)
  (p:l.row.toRowW.claim.pre z=true) (w:WellAll P h I z) :
  ∃a v s,I=[Value.ref a]/\z=[WData.list (s.map WData.int)]/\h.get? a=some { cls:=.type "list",data:=.seq v.toArray }/\IntsAre v s/\s.length≤n:=by
 have b:WShape.hasAll [] z [.list .int]=true:=(pre_splitW p).1;have c:l.pre.holds [] { args:=z }=true:=(pre_splitW p).2;obtain⟨d,r,rfl,h1,h2⟩:=hasAllW_cons b;obtain rfl:=hasAllW_nil h2;obtain⟨xs,rfl,m⟩:=hasW_list h1;obtain⟨s,rfl⟩:=items_int m;have e:s.length≤n:=by
  unfold OpenLaw.pre at c;have k:(WTm.not (.lt (.lit (.int (n:Int))) (.len (.arg 0)))).holds [] { args:=[.list (s.map .int)] }=true:=by have k:=(holds_andW c).1;rw[t]at k;exact k
  have f:=condW_of k (w_not (w_lt w_lit (w_len_list (w_arg rfl))));rw[aR]at f;refine Nat.le_of_not_lt λq=>?_;have u:(n:Int) < ((s.length:Nat):Int):=by lia
  first
   |(rw[jT u]at f;exact absurd f (by decide))
   |(simp at f;lia)
 cases w with
 |cons g i=>
  cases i;cases g with
  |list o x=>exact⟨_,_,s,rfl,rfl,o,pW s _ x,e⟩
theorem C3(l:OpenLaw)(a:List WData):l.row.toRowW.claim.post a (.bool true) a=true:=
 postW_of (r:=l.row.toRowW) (X:=(true == true))
  (show WShape.has [] (.bool true) .bool=true by first|rfl|decide|simp[WShape.has,WShape.arms,WShape.armsAll])
  (show(WTm.eq .res (.lit (.bool true))).value [] { args:=a,res:=some (.bool true),after:=a }=some (.bool (true == true)) from w_eq_bool (w_res rfl) w_lit) rfl
theorem attach_call{l:OpenLaw}
  (M:l.most=some n) (u:d.params.defaults=[])
  (call:∀(w:World) (h s:Shared) (mg y:SV) (x:Addr) (o:Obj) (H k c:Value) (a:Addr) (v:LV) (m:List Int),
   Ground q z [] I w h mg y s.heap->N w s.heap ->
   s.heap.get? x=some o->o.data=.func (docDef d.name d.params d.body d.scope H k c)->s.heap.CodeRec k d.name->mg d.name=some (.ref x) ->
   s.heap.get? a=some { cls:=.type "list",data:=.seq v.toArray }->IntsAre v m->m.length≤n->s.gens=#[] ->
   codeAny (model l.prog w) callerA (.call (.ref x) ⟨[.ref a],[]⟩) (λr s'=>r=.ok (.ret (.bool true))/\OldK s.heap s'.heap/\s'.os=s.os/\AllBare s'.gens) s) :
  WalkO q z I N l.row.toRowW d [] (λf v=>PySem.call f v):=by
 intro w h s mg y G P x o H k c V kV Q hd t D g C S K W p F T j E;obtain rfl:V=.none:=Dflts.none D u;obtain rfl:kV=.none:=Dflts.noKw D;obtain⟨a,v,m,rfl,rfl,b,i,e⟩:=CZ M p j;refine enter_call (uX (call w h s mg y x o H k c a v m G P Q (fd_plain hd) t g b i e C) λr s' R=>?_);obtain⟨rfl,h2,A,B⟩:=R;exact⟨.inl ⟨.bool true,.bool true,[],rfl,λ_=>rfl,.bool true,C3 l _,λ_=>⟨List.Pairwise.nil,λ_ L=>(nomatch L)⟩⟩,h2,A,B⟩
end Att
set_option tactic.hygienic false
namespace L2
open PySem PySem.Spec PyProof.Rows
theorem ue:∀{v:LV}{s:List Int},IntsAre v s->bc (s.map V.int) v
 |_,_,.nil=>.nil
 |_,_,.cons n t h=>.cons ⟨t,rfl⟩ (ue h)
def DK(H:Hp):Prop:=∀b,H b=none\/∃o xs,H b=some (.frz o (.lst xs))
set_option tactic.hygienic true in
theorem FS{P:Program}{w:World}{K:FG}{mg W:SV}{CX:DQ}{k:Nat}{N a:Addr}{fd:FuncData}{x:Str}{sp:Sp}{f:Shared}{j:LV}{G:List Int}
  (KX:K.In f.heap) (B:f.heap.Ns mainGlobals mg) (t:f.heap.Ns builtinsNs W) (Q:∀x:Str,x≠"__name__"->W x=bootBuiltins x) (A:f.heap.NoLimit) (hg:f.gens=#[])
  (L:f.heap.get? a=some { cls:=.type "list",data:=.seq j.toArray }) (hi:IntsAre j G) (hl:G.length≤sizeLine) (hr:Room k callerA)
  (F:∀base:Heap,K.In base->base.Ns mainGlobals mg->FnOk P w K mg base CX k N fd [x] sp) (i:∀(s:Shared)(u:Value),BindsTo s fd ⟨[u],[]⟩ [(x,u)])
  (T:∀H:Hp,DK H->gY K H a (G.map V.int)->sp [.ref a] H (λv _=>v=.bl true) λ_ _ _=>False)
  (X:∀H e s',CX [] H f (λ_ _ _=>False) e s'->False) :
  codeAny (model P w) callerA (.call (.ref N) ⟨[.ref a],[]⟩) (λr s'=>r=.ok (.ret (.bool true))/\OldK f.heap s'.heap/\s'.os=f.os/\AllBare s'.gens) f:=by
 have rv:=ue hi;have E:=hi.length;have g:∀H:Hp,DK H->gY K H a (G.map V.int)->HOk P w H f.heap->(∀b,H b≠none->b=a)->(H a≠none->K.lookup a=none) ->
   codeAny (model P w) callerA (.call (.ref N) ⟨[.ref a],[]⟩) (λr s'=>r=.ok (.ret (.bool true))/\OldK f.heap s'.heap/\s'.os=f.os/\AllBare s'.gens) f:=by
  intro H hO hS C hA hK;have c:∀{b:Addr}{o:Obj},f.heap.get? b=some o->H b=none->(wz f.heap H).get? b=some o:=λe n=>Gf e n
  have Z:∀{b:Addr}{o:Obj}{es:Array DictEntry}{y:Nat},f.heap.get? b=some o->o.data=.dict es y->H b=none:=λ{b o es y} e d=>by
   cases q:H b with
   |none=>rfl
   |some u=>have M:b=a:=hA b (by rw[q];simp);subst M;rw[L]at e;cases e;have d':Data.seq j.toArray _=Data.dict es y:=d;cases d'
  have p:∀{b:Addr}{m:SV},f.heap.Ns b m->(wz f.heap H).Ns b m:=fun {b m} ⟨o,es,y,e,d,r⟩=>⟨o,es,y,c e (Z e d),d,r⟩;have S:K.In (wz f.heap H):=fun b o e=>c (KX b o e) (by
   cases q:H b with
   |none=>rfl
   |some u=>have M:b=a:=hA b (by rw[q];simp);subst M;rw[hK (by rw[q];simp)]at e;cases e)
  have hM:Mod K mg (wz f.heap H):=⟨S,p B,⟨W,p t,Q⟩,let ⟨mc,h1,h2⟩:=A;⟨mc,p h1,h2⟩⟩;have e0:Env0 P w K mg (wz f.heap H) callerA [] f H:=⟨rfl,hM,λb o e=>Ja e,qT (Dm _ _),trivial,λb t=>absurd (show b ∈ ([]:List Addr) from t) (by simp),C,.of_eq hg⟩;refine uX ((F _ S (p B)).run callerA [] f H ⟨[.ref a],[]⟩ [.ref a] [.ref a] _ _ hr e0 (i f (.ref a)) (.cons rfl .nil) (T H hO hS)) λr s' h=>?_;cases r with
  |error e=>exact(X H e s' h).elim
  |ok fl=>
   cases fl with
   |next=>exact False.elim h
   |brk=>exact False.elim h
   |cont=>exact False.elim h
   |ret u=>
    obtain⟨v,H',os,l,un,D,r',q⟩:=h;have q':v=.bl true:=q;subst q';obtain rfl:u=Value.bool true:=r';refine⟨rfl,OldK.of_keep λb o e=>?_,os,l⟩;cases q:H b with
    |none=>exact un.keep b o e q (by intro z;exact absurd (show b ∈ ([]:List Addr) from z) (by simp)) (by simp)
    |some u=>
     rcases hO b with z|⟨ob,xs,z⟩
     .rw [q]at z;cases z
     .have z2:=un.frzs b ob _ z;obtain⟨e1,_⟩:=C b _ z;obtain⟨e2,_⟩:=D b _ z2;rw[e]at e1;cases e1;exact e2
 cases R:K.lookup a with
 |some o=>have e:=KX a o R;rw[L]at e;cases e;refine g (λ_=>none) (λ_=>.inl rfl) (.inr ⟨_,j.toArray,_,R,rfl,rfl,rfl,by rw[be,E];exact hl,by simpa using rv⟩) (λb u z=>by have I:(none:Option HO)=some u:=z;cases I) (λb z=>absurd rfl z) λz=>absurd rfl z
 |none=>
  refine g (λb=>if b=a then some (.frz { cls:=.type "list",data:=.seq j.toArray } (.lst (G.map V.int))) else none) (λb=>?_) (.inl (.inr ⟨{ cls:=.type "list",data:=.seq j.toArray },aj rfl⟩)) (λb u z=>?_) (λb z=>?_) λ_=>R
  .by_cases t:b=a
   .exact .inr ⟨_,_,aj t⟩
   .exact .inl (al t)
  .by_cases t:b=a
   .have I:=(aj t).symm.trans z;cases I;subst t;exact⟨L,by rw[aR];exact hl,j,_,rv,L⟩
   .have I:=(al t).symm.trans z;cases I
  .by_cases t:b=a
   .exact t
   .exact absurd (al t) z
noncomputable abbrev SN{K:FG}(_:K.In h):FG:=K
theorem Ia{l:Bl}{n k:Nat}{q:Program}{c:LS}{B:(SV)->Heap->Prop}{P:World->Heap->Prop}{d:DefRec}{K:Params->FG}{CX:World->DQ}{sp:World->Sp}{x:Str}
  (W:l.most=some n) (y:n≤sizeLine) (p:d.params.defaults=[]) (Z:Room k callerA)
  (N:∀(w:World)(h:Heap),P w h->(K w.params).In h)
  (F:∀(w:World) (mg:SV) (r:Addr) (h:Heap),(K w.params).In h->h.Ns mainGlobals mg->mg d.name=some (.ref r) ->
   ∃fd:FuncData,(∀(s:Shared)(u:Value),BindsTo s fd ⟨[u],[]⟩ [(x,u)]) /\
    ∀base:Heap,(K w.params).In base->base.Ns mainGlobals mg->FnOk l.prog w (K w.params) mg base (CX w) k r fd [x] (sp w))
  (z:∀(w:World)(H:Hp)(a:Addr)(t:List Int),t.length≤n->DK H->gY (K w.params) H a (t.map V.int)->sp w [.ref a] H (λv _=>v=.bl true) λ_ _ _=>False)
  (C:∀(w:World)(H:Hp)(s:Shared)(e:Value)(s':Shared),CX w [] H s (λ_ _ _=>False) e s'->False) :
  Bj q c B P l.row.toRowW d [] (λf A=>PySem.call f A):=by
 refine Att.attach_call W p λw S m mg mb r o pm cd E a A t G D ho hd R g j i b T=>?_;have X:=N w _ D;obtain⟨fd,Q,I⟩:=F w mg r _ X G.T.g g;exact FS X G.T.g G.T.b G.T.builtins G.T.nolimit T j i (aF b y) Z I Q (λH L M=>z w H a t b L M) λH e s'=>C w H m e s'
theorem Er{l:Bl}{n k:Nat}{q:Program}{o:LS}{X:(SV)->Heap->Prop}{P:World->Heap->Prop}{d:DefRec}{K:Params->FG}{CX:DQ}{sp:FG->Sp}{x:Str}
  (i:l.most=some n) (m:n≤sizeLine) (c:d.params.defaults=[]) (j:Room k callerA)
  (g:∀(w:World)(h:Heap),P w h->(K w.params).In h)
  (F:∀(w:World) (mg:SV) (r:Addr) (h:Heap),(K w.params).In h->h.Ns mainGlobals mg->mg d.name=some (.ref r) ->
   ∃fd:FuncData,(∀(s:Shared)(u:Value),BindsTo s fd ⟨[u],[]⟩ [(x,u)]) /\
    ∀base:Heap,(K w.params).In base->base.Ns mainGlobals mg->FnOk l.prog w (K w.params) mg base CX k r fd [x] (sp (K w.params)))
  (p:∀(K:FG)(H:Hp)(a:Addr)(b:List Int),b.length≤n->DK H->gY K H a (b.map V.int)->sp K [.ref a] H (λv _=>v=.bl true) λ_ _ _=>False)
  (C:∀(H:Hp)(s:Shared)(e:Value)(s':Shared),CX [] H s (λ_ _ _=>False) e s'->False) :
  Bj q o X P l.row.toRowW d [] (λf y=>PySem.call f y):=
 Ia (K:=K) (CX:=λ_=>CX) (sp:=λw=>sp (K w.params)) i m c j g F (λw H a b h1 h2 t=>p (K w.params) H a b h1 h2 t) λ_ H s e s'=>C H s e s'
noncomputable def mf(s:Stmt)(j:Nat):Stmt:=match s with
 | .ClassDef _ _ _ b _ _ _ _ _ _ _=>b.getD j (.Pass ⟨0,0,0,0⟩)
 |_=>.Pass ⟨0,0,0,0⟩
noncomputable def i'(s:Stmt):Arguments:=match s with
 | .FunctionDef _ a _ _ _ _ _ _ _ _=>a
 |_=>{ posonlyargs:=[],args:=[],vararg:=none,kwonlyargs:=[],kw_defaults:=[],kwarg:=none,defaults:=[] }
noncomputable def fW(s:Stmt):List Stmt:=match s with
 | .FunctionDef _ _ b _ _ _ _ _ _ _=>b
 |_=>[]
noncomputable def bw(s:Stmt):Scope:=match s with
 | .FunctionDef _ _ _ _ _ _ sc _ _ _=>sc
 |_=>{ kind:=.function,names:=[],isGenerator:=false,isCoroutine:=false }
noncomputable abbrev tH:DQ:=λ_ _ _ _ _ _=>False
noncomputable abbrev E0:XK:=λ_ _ _=>False
theorem sB:nc tH X E0:=λ_ _ _ _ _ _ _ h=>h.elim
structure Fun(K:FG)(x qual:Str)(st:Stmt)(f:Addr)(fd:FuncData):Prop where
 ex:∃(oc:Value)(od:Option Addr)(dV kV doc pm:Value)(an:Option Addr)(cdv ct:Value)(osl:Array (OV)),
  fd=jL x qual (i' st) (fW st) (bw st) dV kV doc pm an cdv ct/\K.lookup f=some ⟨oc,od,.func fd,osl⟩/\rF K cdv qual=true
 kp:iA K (.ref f)=true
section
variable{P:Program}{w:World}{K:FG}{mg:SV}{base:Heap}
theorem Fun.ok{x u:Str}{st:Stmt}{f:Addr}{fd:FuncData}{N ps:LS}{k:Nat}{sp:Sp}(F:Fun K x u st f fd)(S:FnScope N ps (bw st))(len:∀v H Q E,sp v H Q E->v.length=ps.length)
  (b:∀(c:Value) (A:Around) (o:List Env) (s:Shared) (H:Hp) (v:List V) (Q:VK) (E:XK),Room k (A.deeper (envOfC u (bw st) s.heap.objs.size f c))->sp v H Q E ->
   ∃t,p0 (x5 tH P w K mg base N u (bw st) f c A o s H E).nox (fW st) t/\t { nx:=λ_ H'=>Q .non H',rt:=Q } (start N v) H):FnOk P w K mg base tH (k+1) f fd ps sp:=by
 obtain⟨g,i,m,kV,a,j,n,c,e,l,rfl,lk,d⟩:=F.ex;refine Pc lk d S len λA o s H v Q E r p=>?_;obtain⟨t,h,q⟩:=b c A o s H v Q E r p;exact⟨t,h.nox,q⟩
theorem Gj{x q:Str}{st:Stmt}{f:Addr}{h:Value}{e a:Option Addr}{s:Array (OV)}{V kV o p d t:Value}(l:K.lookup f=some ⟨h,e,.func (jL x q (i' st) (fW st) (bw st) V kV o p a d t),s⟩)
  (c:rF K d q=true) (k:iA K (.ref f)=true):Fun K x q st f (jL x q (i' st) (fW st) (bw st) V kV o p a d t):=⟨⟨h,e,V,kV,o,p,a,d,t,s,rfl,l,c⟩,k⟩
end
section
variable{X:Cx}
end
end L2
set_option tactic.hygienic true
namespace PySem
open PySem PyProof.Rows
namespace F
theorem entry_dict_update_loop:entryFor table "dict.update.loop"=some Builtin.«dict.update.loop»:=entryFor_of_tree (by kernel_rfl)
theorem plain_dict_update_loop:plainId "dict.update.loop"=true:=by decide +kernel
end F
section
variable{prog:Program}{w:World}{A:Around}{E:VP}{s:Shared}
inductive PairsAt{K:Type}[DecidableEq K](knd:KeyKind prog w K)(h:Heap):LV->List (K×Value)->Prop
 |nil:PairsAt knd h [] []
 |cons {t:Addr}{key v:Value}{k:K}{us:LV}{kvs:List (K×Value)}:IsTup h t #[key,v]->knd.is k key=true->PairsAt knd h us kvs->PairsAt knd h (.ref t::us) ((k,v)::kvs)
end
end PySem
namespace Ev
open PySem L2
inductive P where
 |non|bl (b:Bool)|int (i:Int)|str (x:Str)|tup (xs:List P)|lst (xs:List P)|ro (xs:List P)|dct (ks:List bG) (vs:List P)
inductive D where
 |p (v:P)|ref (i:Nat)
inductive SO where
 |lst (xs:List D)|dct (ks:List bG) (vs:List D)|fz (v:P)|ins (c:Str) (ks:LS) (vs:List D)|dtt (ks:List (List bG)) (vs:List D)
noncomputable abbrev az:=List SO
noncomputable abbrev Lc:=List (Option D)
mutual
noncomputable def pd:P->PyData
 | .non=>.none
 | .bl b=>.bool b
 | .int i=>.int i
 | .str x=>.str x
 | .tup xs=>.tuple (jW xs)
 | .lst xs=>.list (jW xs)
 | .ro xs=>.list (jW xs)
 | .dct _ _=>.none
noncomputable def jW:List P->List PyData
 | []=>[]
 |x::r=>pd x::jW r
end
def Sb(K:FG)(a:Addr)(xs:List V):Prop:=oF K (λ_=>none) a xs
def Sc(K:FG)(a:Addr)(xs:List V):Prop:=gY K (λ_=>none) a xs
def TupAt(K:FG)(H:Hp)(a:Addr)(xs:List V):Prop:=H a=some (.tup xs)\/Sb K a xs
def LstAt(F:Aa)(H:Hp)(a:Addr)(xs:List V):Prop:=F a/\H a=some (.lst xs)
def DJ(K:FG)(F:Aa)(H:Hp)(a:Addr)(xs:List V):Prop:=(F a/\∃o,H a=some (.frz o (.lst xs)))\/Sc K a xs
variable{K:FG}{H:Hp}{a:Addr}{xs:List V}
theorem TupAt.sq(h:TupAt K H a xs):oF K H a xs:=by
 rcases h with h|(h|h)
 .exact .inl (.inl h)
 .rcases h with h|⟨o,h⟩<;>cases h
 .exact .inr h
variable{F:Aa}
theorem LstAt.sq(h:LstAt F H a xs):gY K H a xs:=.inl (.inl h.2)
theorem DJ.sq(h:DJ K F H a xs):gY K H a xs:=by
 rcases h with ⟨_,o,h⟩|(h|h)
 .exact .inl (.inr ⟨o,h⟩)
 .rcases h with h|⟨o,h⟩<;>cases h
 .exact .inr h
section
variable(K:FG)(F:Aa)(H:Hp)
mutual
noncomputable def RP:P->V->Prop
 | .non,v=>v=.non
 | .bl b,v=>v=.bl b
 | .int i,v=>v=.int i
 | .str x,v=>v=.str x
 | .tup ds,v=>∃a xs,v=.ref a/\TupAt K H a xs/\dg ds xs
 | .lst ds,v=>∃a xs,v=.ref a/\LstAt F H a xs/\dg ds xs
 | .ro ds,v=>∃a xs,v=.ref a/\DJ K F H a xs/\dg ds xs
 | .dct ks ds,v=>∃a kvs,v=.ref a/\F a/\H a=some (.dK kvs)/\kvs.map (·.1)=ks/\dg ds (kvs.map (·.2))
noncomputable def dg:List P->List V->Prop
 | [],xs=>xs=[]
 |d::ds,xs=>∃x r,xs=x::r/\RP d x/\dg ds r
end
def RD(m:List Addr):D->V->Prop
 | .p d,v=>RP K F H d v
 | .ref i,v=>∃a,v=.ref a/\m[i]? = some a
def dO(m:List Addr):List D->List V->Prop
 | [],xs=>xs=[]
 |d::s,xs=>∃x r,xs=x::r/\RD K F H m d x/\dO m s r
def RO(m:List Addr)(a:Addr):SO->Prop
 | .lst d=>∃xs,H a=some (.lst xs)/\dO K F H m d xs
 | .dct s d=>∃k,H a=some (.dK k)/\k.map (·.1)=s/\dO K F H m d (k.map (·.2))
 | .fz v=>RP K F H v (.ref a)
 | .ins c s d=>∃C x k,nG K mainGlobals c=some (some (.ref C))/\H a=some (.ins C x k)/\k.map (·.1)=s/\dO K F H m d (k.map (·.2))
 | .dtt s d=>∃k,H a=some (.dT k)/\k.map (·.1)=s/\dO K F H m d (k.map (·.2))
def SO.own:SO->Prop
 | .fz _=>False
 |_=>True
structure Rel(m:List Addr)(S:az):Prop where
 len:m.length=S.length
 nd:m.Nodup
 obj:∀(i:Nat) a o,m[i]? = some a->S[i]? = some o->RO K F H m a o
 sep:∀(i:Nat) a o,m[i]? = some a->S[i]? = some o->o.own->¬F a
 trk:∀a ∈ m,H a≠none
 ft:∀a,F a->H a≠none
end
structure Kp(F:Aa)(m:List Addr)(H:Hp)(F':Aa)(m':List Addr)(H':Hp):Prop where
 pre:∃n,m'=m++n
 frz:∀b,F b->F' b
 frk:∀b o,F b->H b=some o->H' b=some o
 tup:∀b xs,H b=some (.tup xs)->H' b=some (.tup xs)
structure Stp(F:Aa)(m:List Addr)(H:Hp)(F':Aa)(m':List Addr)(H':Hp):Prop where
 pre:∃n,m'=m++n
 oth:∀b o,H b=some o->b ∉ m->H' b=some o
 frz:∀b,F b->F' b
 frk:∀b o,F b->H b=some o->H' b=some o
 tup:∀b xs,H b=some (.tup xs)->H' b=some (.tup xs)
 trk:∀b,H b≠none->H' b≠none
 nf:∀b,F' b->F b\/H b=none\/b ∈ m
 nm:∀b,b ∈ m'->b ∈ m\/H b=none
variable{F':Aa}{m:List Addr}{m':List Addr}{H':Hp}
theorem Stp.kp(s:Stp F m H F' m' H'):Kp F m H F' m' H':=⟨s.pre,s.frz,s.frk,s.tup⟩
theorem Stp.refl:Stp F m H F m H:=
 ⟨⟨[],by simp⟩,λ_ _ h _=>h,λ_ h=>h,λ_ _ _ h=>h,λ_ _ h=>h,λ_ h=>h,λ_ h=>.inl h,λ_ h=>.inl h⟩
theorem Stp.trans(a:Stp F m H C k y)(b:Stp C k y B r I):Stp F m H B r I where
 pre:=by obtain⟨f,s⟩:=a.pre;obtain⟨t,n⟩:=b.pre;exact⟨f++t,by rw[n,s,cR]⟩
 oth:=λc o h x=>b.oth c o (a.oth c o h x) λz=>by
  rcases a.nm c z with z|z
  .exact x z
  .rw [h]at z;cases z
 frz:=λc h=>b.frz c (a.frz c h)
 frk:=λc o h e=>b.frk c o (a.frz c h) (a.frk c o h e)
 tup:=λc xs h=>b.tup c xs (a.tup c xs h)
 trk:=λc h=>b.trk c (a.trk c h)
 nf:=λc h=>by
  rcases b.nf c h with h|h|h
  .exact a.nf c h
  .by_cases e:H c=none
   .exact .inr (.inl e)
   .exact absurd h (a.trk c e)
  .rcases a.nm c h with h|h
   .exact .inr (.inr h)
   .exact .inr (.inl h)
 nm:=λc h=>by
  rcases b.nm c h with h|h
  .exact a.nm c h
  .by_cases e:H c=none
   .exact .inr e
   .exact absurd h (a.trk c e)
section
variable{K:FG}{F F':Aa}{H H':Hp}{m m':List Addr}{S N:az}
theorem TupAt.kp(s:Kp F m H F' m' H')(h:TupAt K H a xs):TupAt K H' a xs:=by
 rcases h with h|h
 .exact .inl (s.tup _ _ h)
 .exact .inr h
theorem LstAt.kp(s:Kp F m H F' m' H')(h:LstAt F H a xs):LstAt F' H' a xs:=⟨s.frz _ h.1,s.frk _ _ h.1 h.2⟩
theorem DJ.kp(s:Kp F m H F' m' H')(h:DJ K F H a xs):DJ K F' H' a xs:=by
 rcases h with ⟨f,o,h⟩|h
 .exact .inl ⟨s.frz _ f,o,s.frk _ _ f h⟩
 .exact .inr h
mutual
theorem RP.kp(s:Kp F m H F' m' H'):∀{d:P}{v:V},RP K F H d v->RP K F' H' d v
 | .non,_,h=>h
 | .bl _,_,h=>h
 | .int _,_,h=>h
 | .str _,_,h=>h
 | .tup _,_,h=>by obtain⟨a,xs,e,t,r⟩:=h;exact⟨a,xs,e,t.kp s,dg.kp s r⟩
 | .lst _,_,h=>by obtain⟨a,xs,e,t,r⟩:=h;exact⟨a,xs,e,t.kp s,dg.kp s r⟩
 | .ro _,_,h=>by obtain⟨a,xs,e,t,r⟩:=h;exact⟨a,xs,e,t.kp s,dg.kp s r⟩
 | .dct _ _,_,h=>by obtain⟨a,kvs,e,f,t,k,r⟩:=h;exact⟨a,kvs,e,s.frz _ f,s.frk _ _ f t,k,dg.kp s r⟩
theorem dg.kp(s:Kp F m H F' m' H'):∀{ds:List P}{xs:List V},dg K F H ds xs->dg K F' H' ds xs
 | [],_,h=>h
 |_::_,_,h=>by obtain⟨x,r,e,h1,h2⟩:=h;exact⟨x,r,e,RP.kp s h1,dg.kp s h2⟩
end
theorem RD.kp(s:Kp F m H F' m' H'):∀{d:D}{v:V},RD K F H m d v->RD K F' H' m' d v
 | .p _,_,h=>RP.kp s h
 | .ref i,_,h=>by obtain⟨a,e,h⟩:=h;obtain⟨n,x⟩:=s.pre;refine⟨a,e,?_⟩;rw[x];have k:i < m.length:=(bL.mp h).1;rw[bA k];exact h
theorem dO.kp(s:Kp F m H F' m' H'):∀{d:List D}{xs:List V},dO K F H m d xs->dO K F' H' m' d xs
 | [],_,h=>h
 |_::_,_,h=>by obtain⟨x,r,e,a,n⟩:=h;exact⟨x,r,e,RD.kp s a,dO.kp s n⟩
variable{d:P}{v:V}
theorem RP.mono(s:Stp F m H F' m' H')(h:RP K F H d v):RP K F' H' d v:=RP.kp s.kp h
theorem dg.mono(s:Stp F m H F' m' H'){d:List P}{v:List V}(h:dg K F H d v):dg K F' H' d v:=dg.kp s.kp h
theorem RD.mono(s:Stp F m H F' m' H'){d:D}{v:V}(h:RD K F H m d v):RD K F' H' m' d v:=RD.kp s.kp h
theorem dO.mono(s:Stp F m H F' m' H'){d:List D}{v:List V}(h:dO K F H m d v):dO K F' H' m' d v:=dO.kp s.kp h
theorem dg.length:∀{d:List P}{xs:List V},dg K F H d xs->d.length=xs.length
 | [],_,h=>by rw[show _=([]:List V) from h]<;>rfl
 |_::_,_,h=>by obtain⟨x,r,e,_,a⟩:=h;rw[e,aV,aV,dg.length a]
theorem dO.length:∀{d:List D}{xs:List V},dO K F H m d xs->d.length=xs.length
 | [],_,h=>by rw[show _=([]:List V) from h]<;>rfl
 |_::_,_,h=>by obtain⟨x,r,e,_,a⟩:=h;rw[e,aV,aV,dO.length a]
theorem dg.get:∀{s:List P}{xs:List V}{i:Nat}{d:P},dg K F H s xs->s[i]? = some d->∃x,xs[i]? = some x/\RP K F H d x
 | [],_,_,_,_,e=>by simp at e
 |_::_,_,0,_,h,e=>by obtain⟨x,r,rfl,n,_⟩:=h;simp at e;subst e;exact⟨x,rfl,n⟩
 |_::_,_,i+1,d,h,e=>by obtain⟨x,r,rfl,_,k⟩:=h;obtain⟨y,a,f⟩:=dg.get (i:=i) k (by simpa using e);exact⟨y,by simpa using a,f⟩
theorem dg.append:∀{d z:List P}{xs y:List V},dg K F H d xs->dg K F H z y->dg K F H (d++z) (xs++y)
 | [],_,_,_,h,g=>by rw[show _=([]:List V) from h];exact g
 |_::_,_,_,_,h,g=>by obtain⟨x,r,rfl,a,e⟩:=h;exact⟨x,r++_,rfl,a,dg.append e g⟩
theorem dO.append:∀{d z:List D}{xs y:List V},dO K F H m d xs->dO K F H m z y->dO K F H m (d++z) (xs++y)
 | [],_,_,_,h,g=>by rw[show _=([]:List V) from h];exact g
 |_::_,_,_,_,h,g=>by obtain⟨x,r,rfl,a,e⟩:=h;exact⟨x,r++_,rfl,a,dO.append e g⟩
theorem dg.take:∀(n:Nat){d:List P}{xs:List V},dg K F H d xs->dg K F H (d.take n) (xs.take n)
 |0,_,_,_=>rfl
 |_+1,[],_,h=>by rw[show _=([]:List V) from h];rfl
 |n+1,_::_,_,h=>by obtain⟨x,r,rfl,a,e⟩:=h;exact⟨x,r.take n,rfl,a,dg.take n e⟩
theorem dg.drop:∀(n:Nat){d:List P}{xs:List V},dg K F H d xs->dg K F H (d.drop n) (xs.drop n)
 |0,_,_,h=>h
 |_+1,[],_,h=>by rw[show _=([]:List V) from h];rfl
 |n+1,_::_,_,h=>by obtain⟨x,r,rfl,_,a⟩:=h;exact dg.drop n a
theorem dO.take:∀(n:Nat){d:List D}{xs:List V},dO K F H m d xs->dO K F H m (d.take n) (xs.take n)
 |0,_,_,_=>rfl
 |_+1,[],_,h=>by rw[show _=([]:List V) from h];rfl
 |n+1,_::_,_,h=>by obtain⟨x,r,rfl,a,e⟩:=h;exact⟨x,r.take n,rfl,a,dO.take n e⟩
theorem dO.get:∀{s:List D}{xs:List V}{i:Nat}{d:D},dO K F H m s xs->s[i]? = some d->∃x,xs[i]? = some x/\RD K F H m d x
 | [],_,_,_,_,e=>by simp at e
 |_::_,_,0,_,h,e=>by obtain⟨x,r,rfl,n,_⟩:=h;simp at e;subst e;exact⟨x,rfl,n⟩
 |_::_,_,i+1,d,h,e=>by obtain⟨x,r,rfl,_,k⟩:=h;obtain⟨y,a,f⟩:=dO.get (i:=i) k (by simpa using e);exact⟨y,by simpa using a,f⟩
theorem dO.ofP:∀{d:List P}{xs:List V},dg K F H d xs->dO K F H m (d.map .p) xs
 | [],_,h=>h
 |_::_,_,h=>by obtain⟨x,r,e,a,s⟩:=h;exact⟨x,r,e,a,dO.ofP s⟩
variable{p:Addr}
theorem Rel.fresh_m(r:Rel K F H m S)(hp:H p=none):p ∉ m:=λz=>r.trk p z hp
theorem Rel.fresh_F(r:Rel K F H m S)(hp:H p=none):¬F p:=λz=>r.ft p z hp
variable{o:HO}
theorem jC(hp:H p=none):Stp F m H F m (cx H p o) where
 pre:=⟨[],by simp⟩
 oth:=λb u h _=>by rw[aw (by rintro rfl;rw[hp]at h;cases h)];exact h
 frz:=λ_ h=>h
 frk:=λb u _ h=>by rw[aw (by rintro rfl;rw[hp]at h;cases h)];exact h
 tup:=λb u h=>by rw[aw (by rintro rfl;rw[hp]at h;cases h)];exact h
 trk:=λb h=>by
  by_cases e:b=p
  .subst e;rw[aU];exact λz=>nomatch z
  .rw [aw e];exact h
 nf:=λ_ h=>.inl h
 nm:=λ_ h=>.inl h
theorem RO.kp(s:Kp F m H F' m' H'){a:Addr}{o:SO}(k:∀u,H a=some u->H' a=some u)(h:RO K F H m a o):RO K F' H' m' a o:=by
 cases o with
 |lst d=>obtain⟨xs,e,r⟩:=h;exact⟨xs,k _ e,dO.kp s r⟩
 |dct b d=>obtain⟨x,e,f,r⟩:=h;exact⟨x,k _ e,f,dO.kp s r⟩
 |fz v=>exact RP.kp s (show RP K F H v (.ref a) from h)
 |ins c b d=>obtain⟨C,t,x,n,e,f,r⟩:=h;exact⟨C,t,x,n,k _ e,f,dO.kp s r⟩
 |dtt b d=>obtain⟨x,e,f,r⟩:=h;exact⟨x,k _ e,f,dO.kp s r⟩
theorem RO.mono(s:Stp F m H F' m' H'){a:Addr}{o:SO}(k:∀u,H a=some u->H' a=some u)(h:RO K F H m a o):RO K F' H' m' a o:=RO.kp s.kp k h
theorem Rel.stayK(r:Rel K F H m S)(s:Kp F m H F' m H')(k:∀a u,a ∈ m->H a=some u->H' a=some u)(n:∀a,F' a->F a\/H a=none)(t:∀a,F' a->H' a≠none):Rel K F' H' m S where
 len:=r.len
 nd:=r.nd
 obj:=λi a o e x=>(r.obj i a o e x).kp s λu h=>k a u (aZ e) h
 sep:=λi a o e x w f=>by
  rcases n a f with f|f
  .exact r.sep i a o e x w f
  .exact r.trk a (aZ e) f
 trk:=λa h=>by
  cases q:H a with
  |none=>exact absurd q (r.trk a h)
  |some u=>rw[k a u h q];exact λz=>nomatch z
 ft:=t
theorem Rel.stay(r:Rel K F H m S)(s:Stp F m H F' m H')(k:∀a u,a ∈ m->H a=some u->H' a=some u)(n:∀a,F' a->F a\/H a=none)(t:∀a,F' a->H' a≠none):Rel K F' H' m S where
 len:=r.len
 nd:=r.nd
 obj:=λi a o e x=>(r.obj i a o e x).mono s λu h=>k a u (aZ e) h
 sep:=λi a o e x w f=>by
  rcases n a f with f|f
  .exact r.sep i a o e x w f
  .exact r.trk a (aZ e) f
 trk:=λa h=>s.trk a (r.trk a h)
 ft:=t
theorem Rel.new(r:Rel K F H m S)(hp:H p=none):Rel K F (cx H p o) m S:=
 r.stay (jC hp) (λa u x h=>by rw[aw (by rintro rfl;exact r.fresh_m hp x)];exact h) (λ_ f=>.inl f) λa f=>(jC (F:=F) (m:=m) hp).trk a (r.ft a f)
theorem fu{p:Addr}{o:HO}(hp:H p=none):Stp F m H F (m++[p]) (cx H p o) where
 pre:=⟨[p],rfl⟩
 oth:=(jC (F:=F) (m:=m) (o:=o) hp).oth
 frz:=λ_ h=>h
 frk:=(jC (F:=F) (m:=m) (o:=o) hp).frk
 tup:=(jC (F:=F) (m:=m) (o:=o) hp).tup
 trk:=(jC (F:=F) (m:=m) (o:=o) hp).trk
 nf:=λ_ h=>.inl h
 nm:=λb h=>by
  rcases b9.mp h with h|h
  .exact .inl h
  .have:b=p:=by simpa using h
   subst this;exact .inr hp
theorem Rel.own(r:Rel K F H m S){p:Addr}{o:HO}{k:SO}(hp:H p=none)(q:RO K F (cx H p o) (m++[p]) p k):Rel K F (cx H p o) (m++[p]) (S++[k]) where
 len:=by rw[bg,bg,r.len];rfl
 nd:=by
  rw[lT];refine⟨r.nd,by simp,λa c b t e=>?_⟩;have:b=p:=by simpa using t
  subst this;subst e;exact r.fresh_m hp c
 obj:=λi a u x s=>by
  by_cases n:i < m.length
  .rw [bA n]at x;rw[bA (by rw[<- r.len];exact n)]at s;exact(r.obj i a u x s).mono (fu hp) λw h=>by rw[aw (by rintro rfl;rw[hp]at h;cases h)];exact h
  .have l:i=m.length:=by
    have:=(bL.mp x).1;rw[bg]at this;simp at this;lia
   subst l;rw[ce (ah _)]at x;rw[r.len,ce (ah _)]at s;simp at x s;subst x;subst s;exact q
 sep:=λi a u x s w f=>by
  by_cases n:i < m.length
  .rw [bA n]at x;rw[bA (by rw[<- r.len];exact n)]at s;exact r.sep i a u x s w f
  .have l:i=m.length:=by
    have:=(bL.mp x).1;rw[bg]at this;simp at this;lia
   subst l;rw[ce (ah _)]at x;simp at x;subst x;exact r.fresh_F hp f
 trk:=λa h=>by
  rcases b9.mp h with h|h
  .exact (fu (F:=F) (m:=m) hp).trk a (r.trk a h)
  .have:a=p:=by simpa using h
   subst this;rw[aU];exact λz=>nomatch z
 ft:=λa f=>(fu (F:=F) (m:=m) hp).trk a (r.ft a f)
variable{i:Nat}
theorem gG(r:Rel K F H m S)(x:m[i]? = some p)(s:S[i]? = some k)(hw:k.own)(t:∀xs,H p≠some (.tup xs)):Stp F m H F m (cx H p o) where
 pre:=⟨[],by simp⟩
 oth:=λb u h a=>by rw[aw (by rintro rfl;exact a (aZ x))];exact h
 frz:=λ_ h=>h
 frk:=λb u f h=>by rw[aw (by rintro rfl;exact r.sep i _ k x s hw f)];exact h
 tup:=λb xs h=>by rw[aw (by rintro rfl;exact t xs h)];exact h
 trk:=λb h=>by
  by_cases e:b=p
  .subst e;rw[aU];exact λz=>nomatch z
  .rw [aw e];exact h
 nf:=λ_ h=>.inl h
 nm:=λ_ h=>.inl h
theorem xE(h:m.Nodup)(e:m[i]? = some a)(x:m[k]? = some a):i=k:=by exact(List.getElem?_inj (bL.mp e).1 h).mp (e.trans x.symm)
theorem Rel.set(r:Rel K F H m S){i:Nat}{p:Addr}{c b:SO}{o:HO}(s:m[i]? = some p)(k:S[i]? = some c)(hw:c.own)(t:∀xs,H p≠some (.tup xs))(q:RO K F (cx H p o) m p b) :
  Rel K F (cx H p o) m (S.set i b) where
 len:=by rw[fq];exact r.len
 nd:=r.nd
 obj:=λj a u e x=>by
  by_cases n:i=j
  .subst n;rw[s]at e;cases e;rw[cc (by exact(bL.mp k).1)]at x;cases x;exact q
  .rw [aG n]at x;exact(r.obj j a u e x).mono (gG r s k hw t) λw h=>by rw[aw (by rintro rfl;exact n (xE r.nd s e))];exact h
 sep:=λj a u e x w f=>by
  by_cases n:i=j
  .subst n;rw[s]at e;cases e;exact r.sep i p c s k hw f
  .rw [aG n]at x;exact r.sep j a u e x w f
 trk:=λa h=>(gG (o:=o) r s k hw t).trk a (r.trk a h)
 ft:=λa f=>(gG (o:=o) r s k hw t).trk a (r.ft a f)
theorem vY(x:p ∈ m):Stp F m H (λb=>F b\/b=p) m H:=
 ⟨⟨[],by simp⟩,fun _ _ h _=>h,fun _ h=>.inl h,fun _ _ _ h=>h,fun _ _ h=>h,fun _ h=>h,fun b h=>by
  rcases h with h|h
  .exact .inl h
  .subst h;exact .inr (.inr x),λ_ h=>.inl h⟩
theorem Rel.frz(r:Rel K F H m S){i:Nat}{p:Addr}{c:SO}{v:P}(n:m[i]? = some p)(k:S[i]? = some c)(o:RP K (λb=>F b\/b=p) H v (.ref p)):Rel K (λb=>F b\/b=p) H m (S.set i (.fz v)) where
 len:=by rw[fq];exact r.len
 nd:=r.nd
 obj:=λj a u x e=>by
  by_cases s:i=j
  .subst s;rw[n]at x;cases x;rw[cc (by exact(bL.mp k).1)]at e;cases e;exact o
  .rw [aG s]at e;exact(r.obj j a u x e).mono (vY (aZ n)) λw h=>h
 sep:=λj a u x e w f=>by
  by_cases s:i=j
  .subst s;rw[cc (by exact(bL.mp k).1)]at e;cases e;exact w
  .rw [aG s]at e;rcases f with f|f
   .exact r.sep j a u x e w f
   .subst f;exact s (xE r.nd n x)
 trk:=r.trk
 ft:=λa f=>by
  rcases f with f|f
  .exact r.ft a f
  .subst f;exact r.trk _ (aZ n)
end
noncomputable abbrev EE:=Lc->az->Option (D×az)
noncomputable abbrev xg:=Option (D×az)
noncomputable abbrev EV:=Lc->az->Option (P×az)
noncomputable abbrev tyV:=Option (P×az)
noncomputable abbrev EB:=Lc->az->Option (Bool×az)
noncomputable abbrev M':=Option (Bool×az)
noncomputable abbrev lh:=Lc->az->Option (List P×az)
noncomputable abbrev CQ:=Option (List P×az)
inductive Fl where
 |nx|rt (d:D)|bk|ct
noncomputable abbrev ES:=Lc->az->Option (Fl×Lc×az)
noncomputable abbrev BB:=Option (Fl×Lc×az)
variable{l:Type}{β:Type}
noncomputable def cf(x:Option (l×az))(f:l->az->Option β):Option β:=match x with
 |some (a,S)=>f a S
 |none=>none
@[simp] theorem av(a:l)(S:az)(f:l->az->Option β):cf (some (a,S)) f=f a S:=rfl
@[simp] theorem PB(f:l->az->Option β):cf none f=none:=rfl
theorem ai{l β:Type}{x:Option (l×az)}{f:l->az->Option β}{r:β}(h:cf x f=some r):∃a S,x=some (a,S)/\f a S=some r:=by
 cases x with
 |none=>cases h
 |some p=>exact⟨p.1,p.2,rfl,h⟩
def tN(f:D->az->Option (P×az)):List D->az->Option (List P×az)
 | [],S=>some ([],S)
 |d::r,S=>cf (f d S) λv h=>cf (tN f r h) λT x=>some (v::T,x)
def toP:Nat->D->az->Option (P×az)
 |_,.p v,S=>some (v,S)
 |0,.ref _,_=>none
 |n+1,.ref i,S=>match S[i]? with
  |some (.lst d)=>cf (tN (toP n) d S) λT h=>some (.lst T,h.set i (.fz (.lst T)))
  |some (.dct k d)=>cf (tN (toP n) d S) λT h=>some (.dct k T,h.set i (.fz (.dct k T)))
  |some (.fz v)=>some (v,S)
  |some (.ins _ _ _)=>none
  |some (.dtt _ _)=>none
  |none=>none
@[simp] theorem J1(n:Nat)(v:P)(S:az):toP n (.p v) S=some (v,S):=by cases n<;>rfl
theorem l8(n:Nat):∀(T:List P)(S:az),tN (toP n) (T.map .p) S=some (T,S)
 | [],_=>rfl
 |v::r,S=>by simp[tN,l8 n r S]
variable{n:Nat}{S:az}{T:List P}
theorem eS(h:S[i]? = some (.lst (T.map .p))):toP (n+1) (.ref i) S=some (.lst T,S.set i (.fz (.lst T))):=by simp[toP,h,l8]
section
variable{K:FG}{F:Aa}{H:Hp}{m:List Addr}{S N:az}
theorem wq 
  (n:∀{d:D}{x:V}{v:P}{F:Aa}{S N:az},f d S=some (v,N)->Rel K F H m S->RD K F H m d x->∃F',Stp F m H F' m H/\Rel K F' H m N/\N.length=S.length/\RP K F' H v x) :
  ∀{s:List D}{xs:List V}{T:List P}{F:Aa}{S N:az},tN f s S=some (T,N)->Rel K F H m S->dO K F H m s xs->∃F',Stp F m H F' m H/\Rel K F' H m N/\N.length=S.length/\dg K F' H T xs
 | [],xs,T,F,S,N,h,r,a=>by cases h;exact⟨F,.refl,r,rfl,a⟩
 |d::s,xs,T,F,S,N,h,r,a=>by obtain⟨x,y,e,p,q⟩:=a;obtain⟨v,z,c,h⟩:=ai h;obtain⟨A,o,t,h⟩:=ai h;cases h;obtain⟨C,k,i,l,u⟩:=n c r p;obtain⟨B,b,j,w,g⟩:=wq n t i (dO.mono k q);exact⟨B,k.trans b,j,w.trans l,x,y,e,RP.mono b u,g⟩
theorem sg:∀(n:Nat){d:D}{x:V}{v:P}{F:Aa}{S N:az},toP n d S=some (v,N)->Rel K F H m S->RD K F H m d x->∃F',Stp F m H F' m H/\Rel K F' H m N/\N.length=S.length/\RP K F' H v x
 |n,.p w,x,v,F,S,N,h,r,p=>by rw[J1]at h;cases h;exact⟨F,.refl,r,rfl,p⟩
 |0,.ref i,x,v,F,S,N,h,r,p=>by cases h
 |n+1,.ref i,x,v,F,S,N,h,r,p=>by
  obtain⟨a,e,k⟩:=p;subst e;have t:i < S.length:=by rw[<- r.len];exact(bL.mp k).1
  obtain⟨o,I⟩:∃o,S[i]? = some o:=⟨S[i],by simp[t]⟩;have y:=r.obj i a o k I;simp only[toP,I]at h;cases o with
  |fz w=>cases h;exact⟨F,.refl,r,rfl,y⟩
  |ins c L G=>cases h
  |dtt _ _=>cases h
  |lst G=>obtain⟨T,f,u,h⟩:=ai h;cases h;obtain⟨xs,g,B⟩:=y;obtain⟨C,E,A,l,z⟩:=wq (λh=>sg n h) u r B;obtain⟨R,s⟩:∃o,f[i]? = some o:=⟨f[i]'(by rw[l];exact t),by simp[l,t]⟩;have Q:Stp C m H (λb=>C b\/b=a) m H:=vY (aZ k);have q:RP K (λb=>C b\/b=a) H (.lst T) (.ref a):=⟨a,xs,rfl,⟨.inr rfl,g⟩,dg.mono Q z⟩;exact⟨_,E.trans Q,A.frz k s q,by rw[fq];exact l,q⟩
  |dct L G=>obtain⟨T,f,u,h⟩:=ai h;cases h;obtain⟨j,g,M,B⟩:=y;obtain⟨C,E,A,l,z⟩:=wq (λh=>sg n h) u r B;obtain⟨R,s⟩:∃o,f[i]? = some o:=⟨f[i]'(by rw[l];exact t),by simp[l,t]⟩;have Q:Stp C m H (λb=>C b\/b=a) m H:=vY (aZ k);have q:RP K (λb=>C b\/b=a) H (.dct L T) (.ref a):=⟨a,j,rfl,.inr rfl,g,M,dg.mono Q z⟩;exact⟨_,E.trans Q,A.frz k s q,by rw[fq];exact l,q⟩
end
structure Grow(F:Aa)(H:Hp)(F':Aa)(H':Hp):Prop where
 keep:∀b o,H b=some o->H' b=some o
 frz:∀b,F b->F' b
 nf:∀b,F' b->F b\/(H b=none/\H' b≠none)
section
variable{K:FG}{F F' C B:Aa}{H H' y I:Hp}{m:List Addr}{S N:az}
theorem Grow.refl:Grow F H F H:=⟨λ_ _ h=>h,λ_ h=>h,λ_ h=>.inl h⟩
theorem Grow.stp(g:Grow F H F' H'):Stp F m H F' m H' where
 pre:=⟨[],by simp⟩
 oth:=λb o h _=>g.keep b o h
 frz:=g.frz
 frk:=λb o _ h=>g.keep b o h
 tup:=λb xs h=>g.keep b _ h
 trk:=λb h=>by
  cases q:H b with
  |none=>exact absurd q h
  |some o=>rw[g.keep b o q];exact λz=>nomatch z
 nf:=λb h=>by
  rcases g.nf b h with h|⟨h,_⟩
  .exact .inl h
  .exact .inr (.inl h)
 nm:=λ_ h=>.inl h
theorem Rel.grow(r:Rel K F H m S)(g:Grow F H F' H'):Rel K F' H' m S:=
 r.stay g.stp (fun a u _ h=>g.keep a u h) (fun a f=>by
  rcases g.nf a f with f|⟨f,_⟩
  .exact .inl f
  .exact .inr f) λa f=>by
  rcases g.nf a f with f|⟨_,f⟩
  .exact (g.stp (m:=m)).trk a (r.ft a f)
  .exact f
theorem cw{p:Addr}{o:HO}(hp:H p=none):Grow F H F (cx H p o):=
 ⟨λb u h=>by rw[aw (by rintro rfl;rw[hp]at h;cases h)];exact h,λ_ h=>h,λ_ h=>.inl h⟩
theorem cM{p:Addr}{o:HO}(hp:H p=none):Grow F H (λb=>F b\/b=p) (cx H p o):=
 ⟨fun b u h=>by rw [aw (by rintro rfl;rw [hp] at h;cases h)];exact h,fun _ h=>.inl h,fun b h=>by
  rcases h with h|h
  .exact .inl h
  .subst h;exact .inr ⟨hp,by rw[aU];exact λz=>nomatch z⟩⟩
theorem RP.grow(g:Grow F H F' H')(h:RP K F H d v):RP K F' H' d v:=RP.mono (m:=[]) g.stp h
theorem dg.grow(g:Grow F H F' H')(h:dg K F H d v):dg K F' H' d v:=dg.mono (m:=[]) g.stp h
theorem RP.newTup(hp:H p=none)(r:dg K F H h xs):RP K F (cx H p (.tup xs)) (.tup h) (.ref p):=⟨p,xs,rfl,.inl aU,r.grow (cw hp)⟩
theorem RP.newLst(hp:H p=none)(r:dg K F H h xs):RP K (λb=>F b\/b=p) (cx H p (.lst xs)) (.lst h) (.ref p):=⟨p,xs,rfl,⟨.inr rfl,aU⟩,r.grow (cM hp)⟩
end
@[simp] def vC(v:P)(_L:Lc)(S:az):tyV:=some (v,S)
def a_(i:Nat)(L:Lc)(S:az):xg:=match L[i]? with
 |some (some d)=>some (d,S)
 |_=>none
@[simp] def vE(f:EE)(L:Lc)(S:az):tyV:=cf (f L S) (toP 9)
@[simp] def U(f:EV)(L:Lc)(S:az):xg:=cf (f L S) λv h=>some (.p v,h)
@[simp] def qY(g:P->P->Option P)(a b:EV)(L:Lc)(S:az):tyV:=cf (a L S) λx h=>cf (b L h) λy e=>(g x y).map λv=>(v,e)
@[simp] def K2(g:P->Option P)(a:EV)(L:Lc)(S:az):tyV:=cf (a L S) λx h=>(g x).map λv=>(v,h)
@[simp] def bV(a:EV)(L:Lc)(S:az):M':=cf (a L S) λx h=>match x with
 | .bl b=>some (b,h)
 |_=>none
@[simp] def kc(a b:EB)(L:Lc)(S:az):M':=cf (a L S) λc h=>if c=true then b L h else some (false,h)
@[simp] def uS(a b:EB)(L:Lc)(S:az):M':=cf (a L S) λc h=>if c=true then some (true,h) else b L h
@[simp] def pZ(a:EB)(L:Lc)(S:az):M':=cf (a L S) λc h=>some (!c,h)
@[simp] def vB(a:EB)(L:Lc)(S:az):tyV:=cf (a L S) λc h=>some (.bl c,h)
@[simp] def N1(c:EB)(a b:EV)(L:Lc)(S:az):tyV:=cf (c L S) λk h=>if k=true then a L h else b L h
@[simp] def aY(_L:Lc)(S:az):CQ:=some ([],S)
@[simp] def bI(a:EV)(r:lh)(L:Lc)(S:az):CQ:=cf (a L S) λx h=>cf (r L h) λxs e=>some (x::xs,e)
@[simp] def bS(g:List P->Option P)(a:lh)(L:Lc)(S:az):tyV:=cf (a L S) λxs h=>(g xs).map λv=>(v,h)
@[simp] def dA(L:Lc)(S:az):BB:=some (.nx,L,S)
@[simp] def ae(f g:ES)(L:Lc)(S:az):BB:=match f L S with
 |some (.nx,h,x)=>g h x
 |r=>r
@[simp] def am(i:Nat)(f:EE)(L:Lc)(S:az):BB:=cf (f L S) λd h=>some (.nx,L.set i (some d),h)
@[simp] def aL(f:EE)(L:Lc)(S:az):BB:=cf (f L S) λd h=>some (.rt d,L,h)
@[simp] def cj(f:EE)(L:Lc)(S:az):BB:=cf (f L S) λ_ h=>some (.nx,L,h)
@[simp] def cQ(c:EB)(a b:ES)(L:Lc)(S:az):BB:=cf (c L S) λk h=>if k=true then a L h else b L h
noncomputable def v_:ES:=λ_ _=>none
noncomputable def P6:ES:=λL S=>some (.ct,L,S)
noncomputable abbrev kY:=P->Lc->Option Lc
noncomputable def af(i:Nat):kY:=λv L=>some (L.set i (some (.p v)))
noncomputable def bb(g:kY)(b:ES):List P->Lc->az->Option (Fl×Lc×az)
 | [],L,S=>some (.nx,L,S)
 |v::r,L,S=>match g v L with
  |none=>none
  |some a=>match b a S with
   |some (.nx,L2,h)=>bb g b r L2 h
   |some (.ct,L2,h)=>bb g b r L2 h
   |some (.bk,L2,h)=>some (.nx,L2,h)
   |x=>x
@[simp] def bq(i:lh)(g:kY)(b:ES)(L:Lc)(S:az):BB:=cf (i L S) λxs h=>bb g b xs L h
open PySem PySem.Spec PyProof.Rows L2
section
variable(K:FG)
structure RL(F:Aa)(H:Hp)(m:List Addr)(J:L2.St)(L:Lc):Prop where
 len:J.length=L.length
 at':∀(i:Nat) d,L[i]? = some (some d)->∃v,J[i]? = some (some v)/\RD K F H m d v
inductive tEI(f:EE)(J:L2.St)(H:Hp)(Q:VK):Prop
 |mk (F:Aa) (m:List Addr) (L:Lc) (S:az) (d:D) (S':az) (h0_:Rel K F H m S) (h1_:RL K F H m J L) (h2_:f L S=some (d,S')) (h3_:∀v F' m' H',Stp F m H F' m' H'->Rel K F' H' m' S'->RD K F' H' m' d v->Q v H'):tEI f J H Q
noncomputable def tE(f:EE):TE:=λJ H Q=>tEI K f J H Q
inductive tVI(f:EV)(J:L2.St)(H:Hp)(Q:VK):Prop
 |mk (F:Aa) (m:List Addr) (L:Lc) (S:az) (d:P) (S':az) (h0_:Rel K F H m S) (h1_:RL K F H m J L) (h2_:f L S=some (d,S')) (h3_:∀v F' m' H',Stp F m H F' m' H'->Rel K F' H' m' S'->RP K F' H' d v->Q v H'):tVI f J H Q
noncomputable def tV(f:EV):TE:=λJ H Q=>tVI K f J H Q
inductive tQI(f:EB)(J:L2.St)(H:Hp)(Q:Bool->Hp->Prop):Prop
 |mk (F:Aa) (m:List Addr) (L:Lc) (S:az) (b:Bool) (S':az) (h0_:Rel K F H m S) (h1_:RL K F H m J L) (h2_:f L S=some (b,S')) (h3_:∀F' m' H',Stp F m H F' m' H'->Rel K F' H' m' S'->Q b H'):tQI f J H Q
noncomputable def tQ(f:EB):TT:=λJ H Q=>tQI K f J H Q
inductive tVsI(f:lh)(J:L2.St)(H:Hp)(Q:List V->Hp->Prop):Prop
 |mk (F:Aa) (m:List Addr) (L:Lc) (S:az) (ds:List P) (S':az) (h0_:Rel K F H m S) (h1_:RL K F H m J L) (h2_:f L S=some (ds,S')) (h3_:∀xs F' m' H',Stp F m H F' m' H'->Rel K F' H' m' S'->dg K F' H' ds xs->Q xs H'):tVsI f J H Q
noncomputable def tD(f:lh):TA:=λJ H Q=>tVsI K f J H Q
def Ra(D:Ends)(F:Aa)(m:List Addr)(J:L2.St)(H:Hp):Fl->Prop
 | .nx=>D.nx J H
 | .bk=>D.bk J H
 | .ct=>D.ct J H
 | .rt d=>∀v,RD K F H m d v->D.rt v H
inductive tStI(f:ES)(D:Ends)(J:L2.St)(H:Hp):Prop
 |mk (F:Aa) (m:List Addr) (L:Lc) (S:az) (fl:Fl) (L':Lc) (S':az) (h0_:Rel K F H m S) (h1_:RL K F H m J L) (h2_:f L S=some (fl,L',S')) (h3_:∀J' F' m' H',Stp F m H F' m' H'->Rel K F' H' m' S'->RL K F' H' m' J' L'->Ra K D F' m' J' H' fl):tStI f D J H
noncomputable def nh(f:ES):TS:=λD J H=>tStI K f D J H
end
section
variable{K:FG}{F F':Aa}{H H':Hp}{m m':List Addr}{J:L2.St}{L:Lc}{S:az}
theorem RL.mono(s:Stp F m H F' m' H')(h:RL K F H m J L):RL K F' H' m' J L:=⟨h.len,λi d e=>by obtain⟨v,x,r⟩:=h.at' i d e;exact⟨v,x,RD.mono s r⟩⟩
theorem RL.set (h:RL K F H m J L) (r:RD K F H m d v) (i:Nat):RL K F H m (J.set i (some v)) (L.set i (some d)):=⟨by rw [fq,fq];exact h.len,fun j e q=>by
 by_cases x:i=j
 .subst x;by_cases a:i < L.length
  .rw [cc a]at q;cases q;exact⟨v,cc (by rw[h.len];exact a),r⟩
  .rw [qM (by rw[fq];lia)]at q;cases q
 .rw [aG x]at q;rw[aG x];exact h.at' j e q⟩
end
section
variable{X:Cx}{e:Expr}{z:Ab}{Q:Stmt}{sts:List Stmt}
theorem _root_.L2.PE.imp'(h:PE X e t)(i:∀J H Q,k J H Q->t J H Q):PE X e k:=λp s J H Q I q=>h p s J H Q I (i J H Q q)
theorem _root_.L2.PT.imp'(h:PT X e t)(i:∀J H Q,k J H Q->t J H Q):PT X e k:=λp s J H Q I q=>h p s J H Q I (i J H Q q)
theorem _root_.L2.PW.imp'(h:PW X e t)(i:∀J H Q,k J H Q->t J H Q):PW X e k:=λw p s J H Q I q=>h w p s J H Q I (i J H Q q)
theorem _root_.L2.PA.imp'(h:PA X z t)(i:∀J H Q,k J H Q->t J H Q):PA X z k:=λM p s J H Q I q=>h M p s J H Q I (i J H Q q)
theorem _root_.L2.PS.imp'(h:PS X Q t)(i:∀D J H,k D J H->t D J H):PS X Q k:=λp s J H D I q=>h p s J H D I (i D J H q)
theorem _root_.L2.p0.imp'(h:p0 X sts t)(i:∀D J H,k D J H->t D J H):p0 X sts k:=λp s J H D I q=>h p s J H D I (i D J H q)
end
section
variable{X:Cx}{a b c e:Expr}{z:Ab}{fa fb:EV}{fe:EE}{M:Pos}
theorem QK(h:PE X e (tE X.K fe)):PE X e (tV X.K (vE fe)):=h.imp' λJ H Q z=>by obtain⟨F,m,L,S,d,N,r,l,q,k⟩:=z;obtain⟨a,x,n,f⟩:=ai q;refine⟨F,m,L,S,a,x,r,l,n,λv F' m' H' s b t=>?_⟩;obtain⟨B,w,c,_,p⟩:=sg 9 f b t;exact k v B m' H' (s.trans w) c p
theorem M_(h:PE X e (tV X.K fa)):PE X e (tE X.K (U fa)):=h.imp' λJ H Q z=>by obtain⟨F,m,L,S,d,N,r,l,q,k⟩:=z;obtain⟨x,c,a,n⟩:=ai q;cases n;exact⟨F,m,L,S,x,N,r,l,a,λv F' m' H' s f b=>k v F' m' H' s f b⟩
theorem QJ(i:Nat)(s:X.N[i]? = some x:=by rfl)(n:Nv X.e.scope x:=by first|exact Or.inl rfl|exact Or.inr (Or.inl rfl)|exact Or.inr (Or.inr rfl))(hd:(x == ("__debug__":Str))=false:=by decide)
  (h:(x == ("__classdict__":Str))=false:=by decide):PE X (.Name x M) (tE X.K (a_ i)):=(LI s n hd h).imp' λJ H Q z=>by
 obtain⟨F,m,L,S,d,N,r,l,q,k⟩:=z;unfold a_ at q;split at q
 .rename_i b e;cases q;obtain⟨v,a,f⟩:=l.at' i _ e;exact⟨v,a,k v F m H .refl r f⟩
 .cases q
theorem xC(h:PE X e (tC v))(r:∀F H,RP X.K F H d v):PE X e (tV X.K (vC d)):=h.imp' λJ H Q z=>by obtain⟨F,m,L,S,a,N,x,l,q,k⟩:=z;cases q;exact k v F m H .refl x (r F H)
theorem QW {i h M}:PE X (.Constant (.int i) h M) (tV X.K (vC (.int i))):=xC LN λ_ _=>rfl
theorem S7 {i h M}:PE X (.Constant (.bool i) h M) (tV X.K (vC (.bl i))):=xC OB λ_ _=>rfl
theorem QQ {h M}:PE X (.Constant .none h M) (tV X.K (vC .non)):=xC LM λ_ _=>rfl
theorem QM {i h M}:PE X (.Constant (.str i) h M) (tV X.K (vC (.str i))):=xC LJ λ_ _=>rfl
inductive rPI(K:FG)(g:P->P->Option P)(x:V)(y:V)(H:Hp)(Q:VK):Prop
 |mk (F:Aa) (dx:P) (dy:P) (d:P) (h0_:(∀a,F a->H a≠none)) (h1_:RP K F H dx x) (h2_:RP K F H dy y) (h3_:g dx dy=some d) (h4_:∀v F' H',Grow F H F' H'->RP K F' H' d v->Q v H'):rPI K g x y H Q
noncomputable def rP(K:FG)(g:P->P->Option P):R2:=λx y H Q=>rPI K g x y H Q
def p6(X:Cx)(f:Value->Value->Sem Value)(g:P->P->Option P):Prop:=ke X f (rP X.K g)
theorem vV(h:tV X.K (qY g fa fb) J H t):La (rP X.K g) (tV X.K fa) (tV X.K fb) J H t:=by
 obtain⟨F,m,L,S,d,N,r,l,q,k⟩:=h;obtain⟨x,s,o,q⟩:=ai q;obtain⟨a,j,K,q⟩:=ai q;refine⟨F,m,L,S,x,s,r,l,o,λv C P y b M D=>?_⟩;refine⟨C,P,L,s,a,j,M,l.mono b,K,λu B A I c f E=>?_⟩;cases e:g x a with
 |none=>rw[e]at q;cases q
 |some z=>rw[e]at q;cases q;refine⟨B,x,a,_,f.ft,RP.mono c D,E,e,λw p i n G=>?_⟩;exact k w p A i (b.trans (c.trans n.stp)) (f.grow n) G
theorem SY(o:p6 X (binaryOp k) g)(x:PE X a (tV X.K fa))(e:PE X b (tV X.K fb)):PE X (.BinOp a k b M) (tV X.K (qY g fa fb)):=
 (OA o x e).imp' λ_ _ _ h=>vV h
theorem QY(o:p6 X (compareOp k) g)(x:PE X a (tV X.K fa))(e:PE X b (tV X.K fb))(m:behindInMarks k b=false):PE X (.Compare a [k] [b] M) (tV X.K (qY g fa fb)):=
 (BR o x e m).imp' λ_ _ _ h=>vV h
theorem EH(h:tQ X.K (bV (qY g fa fb)) J H t):EI (La (rP X.K g) (tV X.K fa) (tV X.K fb)) J H t:=by
 refine vV ?_;obtain⟨F,m,L,S,d,N,r,l,q,k⟩:=h;obtain⟨x,n,e,q⟩:=ai q;cases x with
 |bl b=>cases q;exact⟨F,m,L,S,_,_,r,l,e,λv F' m' H' s a p=>⟨_,p,k F' m' H' s a⟩⟩
 |_=>cases q
theorem QH(o:p6 X (compareOp k) g)(x:PE X a (tV X.K fa))(e:PE X b (tV X.K fb))(m:behindInMarks k b=false):PT X (.Compare a [k] [b] M) (tQ X.K (bV (qY g fa fb))):=
 (BL o x e m).imp' λ_ _ _ h=>EH h
variable{qa qb:EB}{u:Ab}
theorem NG(h:PT X a (tQ X.K qa)):PW X (.BoolOp .And [a] M) (tQ X.K qa):=IF h
theorem QF(h:PT X a (tQ X.K qa)):PW X (.BoolOp .Or [a] M) (tQ X.K qa):=Lu h
theorem QI(n:PT X a (tQ X.K qa))(f:PW X (.BoolOp .And (b::u) M) (tQ X.K qb)):PW X (.BoolOp .And (a::b::u) M) (tQ X.K (kc qa qb)):=
 (Lv n f).imp' λJ H Q z=>by
  obtain⟨F,m,L,S,d,N,r,l,q,k⟩:=z;obtain⟨c,h,e,q⟩:=ai q;refine⟨F,m,L,S,c,h,r,l,e,λF' m' H' s x=>?_⟩;cases c with
  |true=>rw[aj rfl]at q ⊢;exact⟨F',m',L,h,d,N,x,l.mono s,q,λB t I v p=>k B t I (s.trans v) p⟩
  |false=>rw[al b7]at q ⊢;cases q;exact k F' m' H' s x
theorem SW(n:PT X a (tQ X.K qa))(f:PW X (.BoolOp .Or (b::u) M) (tQ X.K qb)):PW X (.BoolOp .Or (a::b::u) M) (tQ X.K (uS qa qb)):=
 (Ow n f).imp' λJ H Q z=>by
  obtain⟨F,m,L,S,d,N,r,l,q,k⟩:=z;obtain⟨c,h,e,q⟩:=ai q;refine⟨F,m,L,S,c,h,r,l,e,λF' m' H' s x=>?_⟩;cases c with
  |false=>rw[al b7]at q ⊢;exact⟨F',m',L,h,d,N,x,l.mono s,q,λB t I v p=>k B t I (s.trans v) p⟩
  |true=>rw[aj rfl]at q ⊢;cases q;exact k F' m' H' s x
theorem QG(h:PT X a (tQ X.K qa)):PT X (.UnaryOp .Not a M) (tQ X.K (pZ qa)):=
 (Lw h).imp' λJ H Q z=>by obtain⟨F,m,L,S,d,N,r,l,q,k⟩:=z;obtain⟨c,n,e,q⟩:=ai q;cases q;exact⟨F,m,L,S,c,N,r,l,e,λF' m' H' s x=>k F' m' H' s x⟩
theorem NR {k} (h:PE X a (tV X.K (vB qa))):PE X (.BoolOp k [a] M) (tV X.K (vB qa)):=LK h
theorem xf(h:tQ X.K qa J H k)(x:∀b H',k b H'->t (.bl b) H'):tV X.K (vB qa) J H t:=by obtain⟨F,m,L,S,d,N,r,l,q,a⟩:=h;exact⟨F,m,L,S,.bl d,N,r,l,by unfold vB;rw[q];rfl,λv F' m' H' s e p=>by rw[show v=.bl d from p];exact x _ _ (a F' m' H' s e)⟩
theorem BY(h:tV X.K (vB qa) J H k):tQ X.K qa J H λb H'=>k (.bl b) H':=by obtain⟨F,m,L,S,d,N,r,l,q,x⟩:=h;obtain⟨c,n,e,q⟩:=ai q;cases q;exact⟨F,m,L,S,c,N,r,l,e,λF' m' H' s a=>x _ F' m' H' s a rfl⟩
theorem QZ(f:PE X a (tV X.K (vB qa)))(t:PE X (.BoolOp .And (b::u) M) (tV X.K (vB qb))):PE X (.BoolOp .And (a::b::u) M) (tV X.K (vB (kc qa qb))):=
 (LQ f t).imp' λJ H Q h=>by
  obtain⟨F,m,L,S,d,N,r,l,q,k⟩:=BY h;obtain⟨c,x,n,q⟩:=ai q;refine xf (k:=λc y=>if c=true then tV X.K (vB qb) J y Q else Q (.bl false) y) ⟨F,m,L,S,c,x,r,l,n,λF' m' H' s e=>?_⟩ λb H' q=>⟨b,rfl,q⟩;cases c with
  |true=>rw[aj rfl]at q ⊢;exact xf (k:=λb I=>Q (.bl b) I) ⟨F',m',L,x,d,N,e,l.mono s,q,λB p I w v=>k B p I (s.trans w) v⟩ λ_ _ q=>q
  |false=>rw[al b7]at q ⊢;cases q;exact k F' m' H' s e
theorem SX(f:PE X a (tV X.K (vB qa)))(t:PE X (.BoolOp .Or (b::u) M) (tV X.K (vB qb))):PE X (.BoolOp .Or (a::b::u) M) (tV X.K (vB (uS qa qb))):=
 (Oz f t).imp' λJ H Q h=>by
  obtain⟨F,m,L,S,d,N,r,l,q,k⟩:=BY h;obtain⟨c,x,n,q⟩:=ai q;refine xf (k:=λc y=>if c=true then Q (.bl true) y else tV X.K (vB qb) J y Q) ⟨F,m,L,S,c,x,r,l,n,λF' m' H' s e=>?_⟩ λb H' q=>⟨b,rfl,q⟩;cases c with
  |false=>rw[al b7]at q ⊢;exact xf (k:=λb I=>Q (.bl b) I) ⟨F',m',L,x,d,N,e,l.mono s,q,λB p I w v=>k B p I (s.trans w) v⟩ λ_ _ q=>q
  |true=>rw[aj rfl]at q ⊢;cases q;exact k F' m' H' s e
theorem QP(x:PE X a (tV X.K (vB qa))):PE X (.UnaryOp .Not a M) (tV X.K (vB (pZ qa))):=
 (LL x).imp' λJ H Q h=>by obtain⟨F,m,L,S,d,N,r,l,q,k⟩:=BY h;obtain⟨c,f,e,q⟩:=ai q;cases q;exact xf (k:=λb H'=>Q (.bl (!b)) H') ⟨F,m,L,S,c,N,r,l,e,λF' m' H' s n=>k F' m' H' s n⟩ λb H' q=>⟨b,rfl,q⟩
theorem Bt(h:PE X e (tV X.K fa)):PE X e (tV X.K (vB (bV fa))):=h.imp' λJ H Q h=>by
 obtain⟨F,m,L,S,d,N,r,l,q,k⟩:=BY h;obtain⟨x,f,a,q⟩:=ai q;cases x with
 |bl b=>cases q;exact⟨F,m,L,S,_,_,r,l,a,λv F' m' H' s n p=>by cases (show v=.bl d from p);exact k F' m' H' s n⟩
 |_=>cases q
theorem S6(u:PT X c (tQ X.K qa))(p:PE X a (tV X.K fa))(w:PE X b (tV X.K fb)):PE X (.IfExp c a b M) (tV X.K (N1 qa fa fb)):=
 (Fp u p w).imp' λJ H Q z=>by
  obtain⟨F,m,L,S,d,N,r,l,q,k⟩:=z;obtain⟨c,h,t,q⟩:=ai q;refine⟨F,m,L,S,c,h,r,l,t,λF' m' H' s f=>?_⟩;cases c with
  |true=>rw[aj rfl]at q ⊢;exact⟨F',m',L,h,d,N,f,l.mono s,q,λv B x I n e=>k v B x I (s.trans n) e⟩
  |false=>rw[al b7]at q ⊢;exact⟨F',m',L,h,d,N,f,l.mono s,q,λv B x I n e=>k v B x I (s.trans n) e⟩
variable{fs:lh}
theorem JM:PA X [] (tD X.K aY):=jk.imp' λJ H Q h=>by obtain⟨F,m,L,S,d,N,r,l,q,k⟩:=h;cases q;exact k [] F m H .refl r rfl
theorem G3(b:PE X e (tV X.K fa))(c:PA X z (tD X.K fs))(t:starEach (e::z) X.e=(false,eval e X.e)::starEach z X.e:=by rfl):PA X (e::z) (tD X.K (bI fa fs)):=
 (fS b c t).imp' λJ H Q p=>by obtain⟨F,m,L,S,d,N,r,l,q,k⟩:=p;obtain⟨x,h,n,q⟩:=ai q;obtain⟨xs,K,f,q⟩:=ai q;cases q;refine⟨F,m,L,S,x,h,r,l,n,λv C w y s j g=>?_⟩;refine⟨C,w,L,h,xs,N,j,l.mono s,f,λT B u I a o i=>?_⟩;exact k (v::T) B u I (s.trans a) o ⟨v,T,rfl,RP.mono a g,i⟩
noncomputable def few(xs:List l):Bool:=decide (xs.length≤1000000)
theorem lC{l:Type}{xs:List l}(h:few xs=true):xs.length≤sizeLine:=aF (bC h) (by decide)
@[simp] def aI(a:lh)(L:Lc)(S:az):tyV:=cf (a L S) λxs h=>if few xs=true then some (.tup xs,h) else none
@[simp] def bf(a:lh)(L:Lc)(S:az):tyV:=cf (a L S) λxs h=>if few xs=true then some (.lst xs,h) else none
@[simp] def dB(a:lh)(L:Lc)(S:az):xg:=cf (a L S) λxs h=>if few xs=true then some (.ref h.length,h++[.lst (xs.map .p)]) else none
theorem QL {t} (h:PA X z (tD X.K fs)):PE X (.Tuple z t M) (tV X.K (aI fs)):=(we h).imp' λJ H Q a=>by
 obtain⟨F,m,L,S,d,N,r,l,q,k⟩:=a;obtain⟨xs,c,e,q⟩:=ai q;split at q
 .rename_i f;cases q;refine⟨F,m,L,S,xs,N,r,l,e,λT C s y b n x=>⟨by rw[<- x.length];exact lC f,λp hp=>?_⟩⟩;exact k (.ref p) C s _ (b.trans (cw hp).stp) (n.grow (cw hp)) (.newTup hp x)
 .cases q
theorem QS(h:PA X z (tD X.K fs)):PE X (.List z M) (tV X.K (bf fs)):=(yZ h).imp' λJ H Q a=>by
 obtain⟨F,m,L,S,d,N,r,l,q,k⟩:=a;obtain⟨xs,c,e,q⟩:=ai q;split at q
 .rename_i f;cases q;refine⟨F,m,L,S,xs,N,r,l,e,λT C s y b n x=>⟨by rw[<- x.length];exact lC f,λp hp=>?_⟩⟩;exact k (.ref p) _ s _ (b.trans (cM hp).stp) (n.grow (cM hp)) (.newLst hp x)
 .cases q
theorem JW(h:PA X z (tD X.K fs)):PE X (.List z M) (tE X.K (dB fs)):=(yZ h).imp' λJ H Q c=>by
 obtain⟨F,m,L,S,d,N,r,l,q,k⟩:=c;obtain⟨xs,n,f,q⟩:=ai q;split at q
 .rename_i b;cases q;refine⟨F,m,L,S,xs,n,r,l,f,λT C x y t e a=>⟨by rw[<- a.length];exact lC b,λp hp=>?_⟩⟩;have s:Stp C x y C (x++[p]) (cx y p (.lst T)):=fu hp;refine k (.ref p) C (x++[p]) _ (t.trans s) (e.own hp ⟨T,aU,dO.ofP (dg.mono s a)⟩) ⟨p,rfl,?_⟩;rw[<- e.len,ce (ah _)];simp
 .cases q
def rC(K:FG)(g:List P->Option P):List V->Hp->VK->Prop:=λxs H Q=>∃F s d,(∀a,F a->H a≠none)/\dg K F H s xs/\g s=some d/\∀v F' H',Grow F H F' H'->RP K F' H' d v->Q v H'
theorem yN(h:tV X.K (bS g fs) J H t):tD X.K fs J H λT y=>rC X.K g T y t:=by
 obtain⟨F,m,L,S,d,N,r,l,q,k⟩:=h;obtain⟨xs,c,s,q⟩:=ai q;cases e:g xs with
 |none=>rw[e]at q;cases q
 |some z=>rw[e]at q;cases q;exact⟨F,m,L,S,xs,_,r,l,s,λT C n y b a f=>⟨C,xs,_,a.ft,f,e,λv B I x p=>k v B n I (b.trans x.stp) (a.grow x) p⟩⟩
theorem K1{x:Str}{p:Pos}{id:String}{g:List P->Option P}(c:fH X (.builtin id) (rC X.K g))(n:Gl X x)(m:X.g x=none)(v:bootBuiltins x=some (.builtin id))(a:PA X (e::z) (tD X.K fs))(k:x≠"__name__":=by decide)(d:(x == ("__debug__":Str))=false:=by decide)
  (s:starEach (e::z) X.e=(false,eval e X.e)::starEach z X.e:=by rfl) (l:(backTo M (starEach z X.e)).any (·.1)=false:=by rfl):PE X (.Call (.Name x p) (e::z) [] M) (tV X.K (bS g fs)):=
 (nM c n m v a k d s l).imp' λ_ _ _ h=>yN h
theorem yG(c:fH X (.type k) (rC X.K g))(n:Gl X x)(m:X.g x=none)(v:bootBuiltins x=some (.type k))(a:PA X (e::z) (tD X.K fs))(f:x≠"__name__":=by decide)(d:(x == ("__debug__":Str))=false:=by decide)
  (s:starEach (e::z) X.e=(false,eval e X.e)::starEach z X.e:=by rfl) (l:(backTo M (starEach z X.e)).any (·.1)=false:=by rfl):PE X (.Call (.Name x p) (e::z) [] M) (tV X.K (bS g fs)):=
 (l0 c n m v a f d s l).imp' λ_ _ _ h=>yN h
noncomputable def P1(K:FG)(g:List P->Option P):Sp:=λT H Q _=>rC K g T H Q
theorem NQ(G:FnOk X.p X.w X.K X.g X.b tH k f t ps (P1 X.K g))(j:Room k X.A)(w:Gl X x)(i:X.g x=some (.ref f))(u:iA X.K (.ref f)=true)(c:Binds X.K t ps [])
  (b:PA X (e::z) (tD X.K fs)) (d:(x == ("__debug__":Str))=false:=by decide) (v:starEach (e::z) X.e=(false,eval e X.e)::starEach z X.e:=by rfl) (a:(backTo M (starEach z X.e)).any (·.1)=false:=by rfl) :
  PE X (.Call (.Name x p) (e::z) [] M) (tV X.K (bS g fs)):=
 (wf G j w i u c .nil sB b d v a).imp' λJ H Q h=>by obtain⟨F,m,L,S,n,N,r,l,q,k⟩:=yN h;exact⟨F,m,L,S,n,N,r,l,q,λxs F' m' H' s y p=>by show P1 X.K g (xs++[]) H' Q E0;rw[eQ];exact k xs F' m' H' s y p⟩
end
section
variable{X:Cx}{a b e:Expr}{Q:Stmt}{u bs cs:List Stmt}{f g:ES}{fe:EE}{qa:EB}{M:Pos}
theorem QD:p0 X [] (nh X.K dA):=IH.imp' λD J H h=>by obtain⟨F,m,L,S,f,x,N,r,l,q,k⟩:=h;cases q;exact k J F m H .refl r l
theorem ND(z:PS X Q (nh X.K f))(o:p0 X u (nh X.K g)):p0 X (Q::u) (nh X.K (ae f g)):=(Fd z o).imp' λD J H K=>by
 obtain⟨F,m,L,S,w,v,N,r,l,q,k⟩:=K;cases e:f L S with
 |none=>rw[show ae f g L S=none by unfold ae;rw[e]]at q;cases q
 |some x=>
  obtain⟨i,t,p⟩:=x;cases i with
  |nx=>
   have s:g t p=some (w,v,N):=by have:=q;unfold ae at this;rw[e]at this;exact this
   exact⟨F,m,L,S,.nx,t,p,r,l,e,λc C a y b n h=>⟨C,a,t,p,w,v,N,n,h,s,λj B A I G E P=>k j B A I (b.trans G) E P⟩⟩
  |rt d=>
   have s:some (Fl.rt d,t,p)=some (w,v,N):=by have:=q;unfold ae at this;rw[e]at this;exact this
   cases s;exact⟨F,m,L,S,_,_,_,r,l,e,λc C a y b n h=>k c C a y b n h⟩
  |bk=>
   have s:some (Fl.bk,t,p)=some (w,v,N):=by have:=q;unfold ae at this;rw[e]at this;exact this
   cases s;exact⟨F,m,L,S,_,_,_,r,l,e,λc C a y b n h=>k c C a y b n h⟩
  |ct=>
   have s:some (Fl.ct,t,p)=some (w,v,N):=by have:=q;unfold ae at this;rw[e]at this;exact this
   cases s;exact⟨F,m,L,S,_,_,_,r,l,e,λc C a y b n h=>k c C a y b n h⟩
theorem QC(h:PS X Q (nh X.K f)):p0 X [Q] (nh X.K f):=IG h
theorem KC(h:PE X e (tE X.K fe)):PS X (.Return (some e) M) (nh X.K (aL fe)):=(Ly h).imp' λD J H z=>by obtain⟨F,m,L,S,b,n,N,r,l,q,k⟩:=z;obtain⟨d,f,x,q⟩:=ai q;cases q;exact⟨F,m,L,S,d,N,r,l,x,λv F' m' H' s a p=>k J F' m' H' s a (l.mono s) v p⟩
theorem NC(h:PE X e (tE X.K fe))(a:swapsWith e none M.line X.e=pure false:=by rfl):PS X (.Expr e M) (nh X.K (cj fe)):=(II h a).imp' λD J H z=>by obtain⟨F,m,L,S,c,f,N,r,l,q,k⟩:=z;obtain⟨d,b,x,q⟩:=ai q;cases q;exact⟨F,m,L,S,d,N,r,l,x,λv F' m' H' s n p=>k J F' m' H' s n (l.mono s)⟩
theorem El(i:Nat)(n:X.N.Nodup)(h:PE X e (tE X.K fe))(b:X.N[i]? = some x:=by rfl)(w:Loc X.e.scope x:=by first|exact Or.inl rfl|exact Or.inr rfl)(c:swapsWith e (some (.Name x t)) M.line X.e=pure false:=by rfl)
  (f:X.fn x=true\/X.e.scope.names.lookup x=some .local:=by first|exact .inl rfl|exact .inr rfl|assumption):PS X (.Assign [.Name x t] e M) (nh X.K (am i fe)):=
 (Lx n b w h c f).imp' λD J H z=>by obtain⟨F,m,L,S,y,g,N,r,l,q,k⟩:=z;obtain⟨d,j,a,q⟩:=ai q;cases q;exact⟨F,m,L,S,d,N,r,l,a,λv F' m' H' s u p=>k (J.set i (some v)) F' m' H' s u ((l.mono s).set p i)⟩
theorem SS(i:PT X c (tQ X.K qa))(w:p0 X bs (nh X.K f))(u:p0 X cs (nh X.K g)):PS X (.If c bs cs M) (nh X.K (cQ qa f g)):=(Ox i w u).imp' λD J H z=>by
 obtain⟨F,m,L,S,p,t,N,r,l,q,k⟩:=z;obtain⟨c,x,d,q⟩:=ai q;refine⟨F,m,L,S,c,x,r,l,d,λF' m' H' s v=>?_⟩;cases c with
 |true=>rw[aj rfl]at q ⊢;exact⟨F',m',L,x,p,t,N,v,l.mono s,q,λh B e I b n a=>k h B e I (s.trans b) n a⟩
 |false=>rw[al b7]at q ⊢;exact⟨F',m',L,x,p,t,N,v,l.mono s,q,λh B e I b n a=>k h B e I (s.trans b) n a⟩
theorem KD:PS X Q (nh X.K v_):=Fe.imp' λD J H h=>by obtain⟨F,m,L,S,f,x,N,r,l,q,k⟩:=h;cases q
theorem SU:PS X (.Continue M) (nh X.K P6):=xr.imp' λD J H h=>by obtain⟨F,m,L,S,f,x,N,r,l,q,k⟩:=h;cases q;exact k J F m H .refl r l
inductive gTI(K:FG)(g:kY)(x:V)(J:L2.St)(H:Hp)(Q:L2.St->Hp->Prop):Prop
 |mk (F:Aa) (m:List Addr) (L:Lc) (v:P) (L':Lc) (h0_:RL K F H m J L) (h1_:RP K F H v x) (h2_:g v L=some L') (h3_:∀J',RL K F H m J' L'->Q J' H):gTI K g x J H Q
noncomputable def gT(K:FG)(g:kY):TG:=λx J H Q=>gTI K g x J H Q
theorem _root_.L2.PG.imp'(h:PG X tg t)(i:∀v J H Q,k v J H Q->t v J H Q):PG X tg k:=λp s J H v u Q I r q=>h p s J H v u Q I r (i v J H Q q)
theorem MC(i:Nat)(h:X.N.Nodup)(a:X.N[i]? = some x:=by rfl)(e:Loc X.e.scope x:=by first|exact Or.inl rfl|exact Or.inr rfl)(f:X.fn x=true\/X.e.scope.names.lookup x=some .local:=by first|exact .inl rfl|exact .inr rfl|assumption) :
  PG X (.Name x M) (gT X.K (af i)):=(IT h a e f).imp' λv J H Q z=>by
 obtain⟨F,m,L,d,s,l,p,q,k⟩:=z;cases q;exact k _ (l.set (d:=.p d) p i)
def Kz(K:FG)(a:It)(T:List P)(F:Aa)(m:List Addr)(H:Hp):Prop:=∀B s I,Stp F m H B s I ->
 (∀(i:Nat) v,T[i]? = some v->a.go i I/\∀x h,a.yld i I x h->∃e,Grow B I e h/\RP K e h v x)/\a.stop T.length I
inductive tII(K:FG)(f:lh)(J:L2.St)(H:Hp)(R:It->Hp->Prop):Prop
 |mk (F:Aa) (m:List Addr) (L:Lc) (S:az) (vs:List P) (S':az) (h0_:Rel K F H m S) (h1_:RL K F H m J L) (h2_:f L S=some (vs,S')) (h3_:∀J9 F' m' H',Stp F m H F' m' H'->Rel K F' H' m' S'->Kz K J9 vs F' m' H'->R J9 H'):tII K f J H R
noncomputable def tI(K:FG)(f:lh):TI:=λJ H R=>tII K f J H R
theorem QE{tg iter:Expr}{fi:lh}{g:kY}{b:List Stmt}{fb:ES}(hp:PassesOwn (model X.p X.w) X.A X.e X.xe)(hc:X.c=true)(hi:PI X tg iter (tI X.K fi))(hg:PG X tg (gT X.K g))(hb:p0 X b (nh X.K fb))
  (hs:∀x,foldedSetIterable iter X.e x=pure x:=by intro _;rfl):PS X (.For tg iter b [] M) (nh X.K (bq fi g fb)):=
 (Lz hp hc hi hg hb hs).imp' λD J H hz=>by
  obtain⟨F,m,L,S,fl,L',N,r,l,q,k⟩:=hz;obtain⟨T,S1,e1,q⟩:=ai q;refine⟨F,m,L,S,T,S1,r,l,e1,fun J9 C u y P r1 it=>?_⟩;refine⟨fun i n Q I=>n=T.length-i/\i≤T.length/\∃B s L2 f,Stp C u y B s I/\Rel X.K B I s f/\RL X.K B I s Q L2/\bb g fb (T.drop i) L2 f=some (fl,L',N),
   ⟨T.length,rfl,cT _,C,u,L,S1,.refl,r1,l.mono P,by rw[nw];exact q⟩,?_⟩
  rintro i n Q I ⟨rfl,hi,B,s,L2,f,s2,r2,l2,a⟩;obtain⟨go,o⟩:=it B s I s2;by_cases t:i < T.length
  .right;have hv:T[i]? = some T[i]:=by simp[t]
   rw[A3 t]at a;obtain⟨hgo,hy⟩:=go i _ hv;refine⟨hgo,λJ3 c=>∃n',n' < T.length-i/\(n'=T.length-(i+1)/\i+1≤T.length/\∃B s L2 f,Stp C u y B s c/\Rel X.K B c s f/\RL X.K B c s J3 L2/\bb g fb (T.drop (i+1)) L2 f=some (fl,L',N)),λ_ _ z=>z,λx c h=>?_⟩;obtain⟨G,gr,p3⟩:=hy x c h;unfold bb at a;cases eg:g T[i] L2 with
   |none=>rw[eg]at a;cases a
   |some R=>
    rw[eg]at a;dsimp only at a;refine⟨G,s,L2,T[i],R,l2.mono gr.stp,p3,eg,λJ3 l3=>?_⟩;have A:Stp C u y G s c:=s2.trans gr.stp;have r3:=r2.grow gr;cases Z:fb R f with
    |none=>rw[Z]at a;cases a
    |some z=>
     obtain⟨p,V,W⟩:=z;rw[Z]at a;refine⟨G,s,R,f,p,V,W,r3,l3,Z,λJ4 v j H4 E K w=>?_⟩;cases p with
     |nx=>exact⟨T.length-(i+1),by lia,rfl,t,v,j,V,W,A.trans E,K,w,a⟩
     |ct=>exact⟨T.length-(i+1),by lia,rfl,t,v,j,V,W,A.trans E,K,w,a⟩
     |bk=>cases a;exact k J4 v j H4 (P.trans (A.trans E)) K w
     |rt d=>cases a;exact k J4 v j H4 (P.trans (A.trans E)) K w
  .left;have e:i=T.length:=by lia
   subst e;rw[qE]at a;cases a;exact⟨o,k Q B s I (P.trans s2) r2 l2⟩
end
theorem Stp.toGrow(s:Stp F [] H F' m' H')(f:∀a,F' a->H' a≠none):Grow F H F' H':=
 ⟨fun b o h=>s.oth b o h (by simp),s.frz,fun b h=>by
  rcases s.nf b h with q|q|q
  .exact .inl q
  .exact .inr ⟨q,f b h⟩
  .simp at q⟩
theorem mw{l:Prop}{β:Type}{d:β}(h:(none:Option β)=some d):l:=nomatch h
noncomputable def jt(n:Nat):Bool:=decide (n≤1000000)
theorem jK(h:jt n=true):n≤sizeLine:=aF (bC h) (by decide)
section
variable{X:Cx}
def wP:P->P->Option P
 | .int i,.int j=>some (.int (i+j))
 | .str x,.str y=>if jt (x.length+y.length)=true then some (.str (x++y)) else none
 | .tup xs,.tup s=>if (!xs.isEmpty && jt (xs.length+s.length))=true then some (.tup (xs++s)) else none
 | .lst xs,.lst s=>if jt (xs.length+s.length)=true then some (.lst (xs++s)) else none
 |_,_=>none
theorem OS:p6 X (binaryOp .Add) wP:=by
 intro f s J H x y v u Q I l o h;obtain⟨F,D,t,d,G,w,g,q,k⟩:=h;cases D with
 |int i=>
  cases t with
  |int j=>cases q;cases (show x=.int i from w);cases (show y=.int j from g);exact L0 f s J H _ _ v u Q I l o ⟨i,j,rfl,rfl,k _ F H .refl rfl⟩
  |_=>exact mw q
 |str i=>
  cases t with
  |str j=>
   simp only[wP]at q;split at q
   .rename_i c;cases q;cases (show x=.str i from w);cases (show y=.str j from g);exact y1 f s J H _ _ v u Q I l o ⟨i,j,rfl,rfl,jK c,k _ F H .refl rfl⟩
   .cases q
  |_=>exact mw q
 |tup A=>
  cases t with
  |tup z=>
   simp only[wP]at q;split at q
   .rename_i c;rw[aD]at c;cases q;obtain⟨a,xs,rfl,S,r⟩:=w;obtain⟨b,P,rfl,K,m⟩:=g;have B:=r.length;have C:=m.length;have E:xs≠[]:=λn=>by
     subst n;have:A=[]:=iX B;subst this;simp at c
    refine IZ f s J H _ _ v u Q I l o ⟨a,b,xs,P,rfl,rfl,S.sq,K.sq,E,by rw[<- B,<- C];exact jK c.2,λn=>?_,λ_ p hp=>?_⟩
    .subst n;have e:z=[]:=iX C;subst e;refine k _ F H .refl ?_;rw[eQ];exact⟨a,xs,rfl,S,r⟩
    .exact k _ F _ (cw hp) (.newTup hp (r.append m))
   .cases q
  |_=>exact mw q
 |lst A=>
  cases t with
  |lst z=>
   simp only[wP]at q;split at q
   .rename_i c;cases q;obtain⟨a,xs,rfl,S,r⟩:=w;obtain⟨b,P,rfl,K,m⟩:=g;exact LZ f s J H _ _ v u Q I l o ⟨a,b,xs,P,rfl,rfl,S.2,K.2,by rw[<- r.length,<- m.length];exact jK c,λp hp=>k _ _ _ (cM hp) (.newLst hp (r.append m))⟩
   .cases q
  |_=>exact mw q
 |_=>exact mw q
noncomputable def Hb(c:Int->Int->Bool)(g:Int->Int->P):P->P->Option P
 | .int i,.int j=>if c i j=true then some (g i j) else none
 |_,_=>none
@[simp] theorem JA(c:Int->Int->Bool)(g:Int->Int->P)(i j:Int):Hb c g (.int i) (.int j)=if c i j=true then some (g i j) else none:=rfl
theorem xw{f:Value->Value->Sem Value}{C:Int->Int->Prop}{a:Int->Int->V}{c:Int->Int->Bool}{g:Int->Int->P}(o:ke X f (rI C a))(b:∀i j,c i j=true->C i j)(m:∀K F H i j,RP K F H (g i j) (a i j)):p6 X f (Hb c g):=by
 intro p s J H x y v u Q I l z h;obtain⟨F,e,n,d,S,t,w,q,k⟩:=h;cases e with
 |int i=>
  cases n with
  |int j=>
   rw[JA]at q;split at q
   .rename_i r;cases q;cases (show x=.int i from t);cases (show y=.int j from w);exact o p s J H _ _ v u Q I l z ⟨i,j,rfl,rfl,b i j r,k _ F H .refl (m _ _ _ _ _)⟩
   .cases q
  |_=>exact mw q
 |_=>exact mw q
theorem su(h:ke X f (IC k)):ke X f (rI (λ_ _=>True) k):=λp s J H x y v u Q I r n ⟨i,j,e,a,_,q⟩=>h p s J H x y v u Q I r n ⟨i,j,e,a,q⟩
noncomputable abbrev Em:Int->Int->Bool:=λ_ _=>true
abbrev MP:=Hb Em λi j=>.int (i-j)
theorem OH:p6 X (binaryOp .Sub) MP:=xw (su LR) (λ_ _ _=>trivial) λ_ _ _ _ _=>rfl
noncomputable abbrev LD:Int->Int->Bool:=λ_ j=>decide (0 < j) && decide (j < 1152921504606846976)
theorem Fy:ke X (binaryOp .FloorDiv) (rI (λ_ j=>0 < j/\j < 1152921504606846976) λi j=>.int (i / j)):=P8 λi j _ _ _ _ _ h q=>by have a:(0:Int) < j:=h.1;have e:j < 1152921504606846976:=h.2;have x:j.natAbs.log2 < 9000:=cq ((A_ (by lia)).mpr (show j.natAbs < 2 ^ 60 by lia)) (by decide);exact floordiv_int (by lia) (by rw[Int.fdiv_eq_ediv_of_nonneg i (by lia)];exact q) (.inl (PyProof.noPylong_of_log2 x))
abbrev zm:=Hb LD λi j=>.int (i / j)
theorem I0:p6 X (binaryOp .FloorDiv) zm:=xw Fy (λi j h=>by rw[aD]at h;exact⟨bC h.1,bC h.2⟩) λ_ _ _ _ _=>rfl
abbrev MT:=Hb (λ_ j=>decide (0 < j)) λi j=>.int (i % j)
theorem OL:p6 X (binaryOp .Mod) MT:=xw LX (λi j h=>bC h) λ_ _ _ _ _=>rfl
abbrev MR:=Hb (λi j=>decide (0≤j) && decide (j≤1000000) && decide (i.natAbs < 2 ^ 64)) λi j=>.int (i ^ j.toNat)
theorem OI:p6 X (binaryOp .Pow) MR:=xw LW (λi j h=>by simp only[aD]at h;exact⟨bC h.1.1,bC h.1.2,bC h.2⟩) λ_ _ _ _ _=>rfl
abbrev RY:=Hb Em λi j=>.bl (decide (i < j))
theorem Rr:p6 X (compareOp .Lt) RY:=xw (su OD) (λ_ _ _=>trivial) λ_ _ _ _ _=>rfl
abbrev Pr:=Hb Em λi j=>.bl (decide (i≤j))
theorem Rs:p6 X (compareOp .LtE) Pr:=xw (su OE) (λ_ _ _=>trivial) λ_ _ _ _ _=>rfl
abbrev R0:=Hb Em λi j=>.bl (decide (j < i))
theorem Rt:p6 X (compareOp .Gt) R0:=xw (su OF) (λ_ _ _=>trivial) λ_ _ _ _ _=>rfl
abbrev R1:=Hb Em λi j=>.bl (decide (j≤i))
theorem Ru:p6 X (compareOp .GtE) R1:=xw (su OG) (λ_ _ _=>trivial) λ_ _ _ _ _=>rfl
noncomputable def gJ(i j:Int):Bool:=decide (i.natAbs.log2+j.natAbs.log2 < 100000000)
theorem FI{i j:Int}(h:gJ i j=true):IntMulOk i j:=by
 have a:i.natAbs.log2+j.natAbs.log2 < 100000000:=bC h;have b:∀x:Int,Builtin.Int.intBits x≤x.natAbs.log2+1:=λx=>by
  unfold Builtin.Int.intBits;split
  .exact cT _
  .exact ah _
 exact IntMulOk.of_le (b i) (b j) (by lia)
theorem IY:ke X (binaryOp .Mult) (rI (λi j=>IntMulOk i j) λi j=>.int (i * j)):=P8 λ_ _ _ _ _ _ _ h q=>mul_int q h
noncomputable def eZ(x:Str)(n:Nat):Str:=⟨(List.replicate n x.cps).foldl (·++·) #[]⟩
theorem yQ(x:Str):eZ x 1=x:=by unfold eZ;cases x;simp
theorem Dr(n:Nat):(List.replicate n (#[]:Array Nat)).foldl (·++·) #[]=#[]:=by
 induction n with
 |zero=>rfl
 |succ n i=>rw[dw,gE];simpa using i
theorem vX(x:Str)(n:Nat)(h:x.length=0):eZ x n=x:=by have e:x.cps=#[]:=Array.eq_empty_of_size_eq_zero (by simpa[nl] using h);unfold eZ;cases x;simp only at e;subst e;rw[Dr]
theorem zd(a:Array Nat)(n:Nat):∀b:Array Nat,((List.replicate n a).foldl (·++·) b).size=b.size+n * a.size:=by
 induction n with
 |zero=>intro b;simp
 |succ n i=>intro b;rw[dw,gE,i,Ax,qU];lia
theorem mu(x:Str)(n:Nat):(eZ x n).length=n * x.length:=by unfold eZ nl;simp only;rw[zd];simp
def wO:P->P->Option P
 | .int i,.int j=>if gJ i j=true then some (.int (i * j)) else none
 | .str x,.int n=>if (jt (n.toNat * x.length) && decide (n.natAbs < 1000000))=true then some (.str (eZ x n.toNat)) else none
 | .lst xs,.int n=>if (jt (xs.length * n.toNat) && decide (n.natAbs < 1000000))=true then some (.lst (List.replicate n.toNat xs).flatten) else none
 |_,_=>none
theorem dg.rep(h:dg K F H r xs):∀k:Nat,dg K F H (List.replicate k r).flatten (List.replicate k xs).flatten
 |0=>rfl
 |k+1=>by rw[dw,dw,hZ,hZ];exact h.append (dg.rep h k)
theorem OK:p6 X (binaryOp .Mult) wO:=by
 intro r s J H x y v u Q I o S h;obtain⟨F,A,w,d,L,g,l,q,k⟩:=h;cases A with
 |int i=>
  cases w with
  |int j=>
   simp only[wO]at q;split at q
   .rename_i c;cases q;cases (show x=.int i from g);cases (show y=.int j from l);exact IY r s J H _ _ v u Q I o S ⟨i,j,rfl,rfl,FI c,k _ F H .refl rfl⟩
   .cases q
  |_=>exact mw q
 |str i=>
  cases w with
  |int n=>
   simp only[wO]at q;split at q
   .rename_i c;rw[aD]at c;have D:=bC c.2;have M:n.toNat * i.length≤1000000:=bC c.1;have R:=ly;have T:(1000000:Nat)≤sizeLine:=by decide
    cases q;cases (show x=.str i from g);cases (show y=.int n from l);obtain⟨t,rfl⟩:=o;obtain⟨V,rfl⟩:=S;refine PySem.P.mul_str (by have B:decide (n < -(2 ^ 63:Int))=false:=cG (by lia);have C:decide (n ≥ 2 ^ 63)=false:=cG (by lia);rw[B,C];rfl) (λa b=>?_) (λa b=>?_) ?_
    .intro z;have N:((i.length:Nat):Int)≤(2 ^ 63-1) / n:=by
      refine(Int.le_ediv_iff_mul_le (by lia)).mpr ?_;have e:((i.length:Nat):Int) * n=((n.toNat * i.length:Nat):Int):=by rw[zP,zQ (by lia),Int.mul_comm]
      rw[e];lia
     lia
    .unfold Builtin.Str.tooLong;first
      |exact cG (by rw[nE];lia)
      |(rw[nE];exact cG (by lia))
    .have f:Q (.str (eZ i n.toNat)) H:=k _ F H .refl rfl;by_cases K:n < 1
     .rw [aj K];have e:n.toNat=0:=by lia
      rw[e]at f;exact⟨by decide,⟨.str Str.empty,H,I.tok _,⟨_,rfl⟩,f⟩⟩
     .rw [al K];by_cases m:(n == 1 ||i.length == 0)=true
      .rw [aj m];rw[Aj]at m;have e:eZ i n.toNat=i:=by
        rcases m with m|m
        .have:n=1:=by simpa using m
         subst this;exact yQ i
        .exact vX i _ (by simpa using m)
       rw[e]at f;exact⟨.str i,H,I,⟨_,rfl⟩,f⟩
      .rw [al m];refine⟨?_,⟨.str (eZ i n.toNat),H,I.tok _,⟨_,rfl⟩,f⟩⟩;have:=mu i n.toNat
       unfold eZ at this;rw[this];lia
   .cases q
  |_=>exact mw q
 |lst G=>
  cases w with
  |int n=>
   simp only[wO]at q;split at q
   .rename_i c;rw[aD]at c;have D:=bC c.2;cases q;obtain⟨a,xs,rfl,E,P⟩:=g;cases (show y=.int n from l);exact LU r s J H _ _ v u Q I o S ⟨a,n,xs,rfl,rfl,E.2,by lia,by lia,by rw[<- P.length];exact jK c.1,λp hp=>k _ _ _ (cM hp) (.newLst hp (P.rep _))⟩
   .cases q
  |_=>exact mw q
 |_=>exact mw q
noncomputable def SG:P->P->Option P
 | .int i,.int j=>some (.bl (decide (i=j)))
 | .str x,.str y=>some (.bl (decide (x=y)))
 | .bl a,.bl b=>some (.bl (decide (a=b)))
 |_,_=>none
noncomputable def MS:P->P->Option P
 | .int i,.int j=>some (.bl (!decide (i=j)))
 | .str x,.str y=>some (.bl (!decide (x=y)))
 | .bl a,.bl b=>some (.bl (!decide (a=b)))
 |_,_=>none
theorem pI{i j:Int}:decide (V.int i=V.int j)=decide (i=j):=by
 by_cases h:i=j
 .subst h;simp
 .rw [cG h,cG λz=>h (V.int.inj z)]
theorem pH:decide (V.str i=V.str k)=decide (i=k):=by
 by_cases h:i=k
 .subst h;simp
 .rw [cG h,cG λz=>h (V.str.inj z)]
theorem s_:decide (V.bl i=V.bl k)=decide (i=k):=by
 by_cases h:i=k
 .subst h;simp
 .rw [cG h,cG λz=>h (V.bl.inj z)]
theorem Rv:p6 X (compareOp .Eq) SG:=by
 intro p s J H x y v u Q I r f h;obtain⟨F,b,a,d,t,e,n,q,k⟩:=h;cases b with
 |int i=>
  cases a with
  |int j=>cases q;cases (show x=.int i from e);cases (show y=.int j from n);exact Fz p s J H _ _ v u Q I r f ⟨rfl,by rw[pI];exact k _ F H .refl rfl⟩
  |_=>exact mw q
 |str i=>
  cases a with
  |str j=>cases q;cases (show x=.str i from e);cases (show y=.str j from n);exact Fz p s J H _ _ v u Q I r f ⟨rfl,by rw[pH];exact k _ F H .refl rfl⟩
  |_=>exact mw q
 |bl i=>
  cases a with
  |bl j=>cases q;cases (show x=.bl i from e);cases (show y=.bl j from n);exact Fz p s J H _ _ v u Q I r f ⟨rfl,by rw[s_];exact k _ F H .refl rfl⟩
  |_=>exact mw q
 |_=>exact mw q
theorem Rq:p6 X (compareOp .NotEq) MS:=by
 intro p s J H x y v u Q I r f h;obtain⟨F,b,a,d,t,e,n,q,k⟩:=h;cases b with
 |int i=>
  cases a with
  |int j=>cases q;cases (show x=.int i from e);cases (show y=.int j from n);exact Fx p s J H _ _ v u Q I r f ⟨rfl,by rw[pI];exact k _ F H .refl rfl⟩
  |_=>exact mw q
 |str i=>
  cases a with
  |str j=>cases q;cases (show x=.str i from e);cases (show y=.str j from n);exact Fx p s J H _ _ v u Q I r f ⟨rfl,by rw[pH];exact k _ F H .refl rfl⟩
  |_=>exact mw q
 |bl i=>
  cases a with
  |bl j=>cases q;cases (show x=.bl i from e);cases (show y=.bl j from n);exact Fx p s J H _ _ v u Q I r f ⟨rfl,by rw[s_];exact k _ F H .refl rfl⟩
  |_=>exact mw q
 |_=>exact mw q
theorem CJ{l β:Type}{xs:List l}{s:List β}{i:Int}{d:l}(x:xs.length=s.length)(h:L2.atI xs i=some d):∃j:Nat,xs[j]? = some d/\∀y,s[j]? = some y->L2.atI s i=some y:=by
 unfold L2.atI at h ⊢;rw[x]at h;cases e:B9 s.length i with
 |none=>rw[e]at h;cases h
 |some j=>rw[e]at h;exact⟨j,h,λy a=>a⟩
theorem dg.atI{K:FG}{F:Aa}{H:Hp}{s:List P}{xs:List V}{i:Int}{d:P}(r:dg K F H s xs)(h:L2.atI s i=some d):∃x,L2.atI xs i=some x/\RP K F H d x:=by obtain⟨j,a,n⟩:=CJ r.length h;obtain⟨x,e,p⟩:=r.get a;exact⟨x,n x e,p⟩
theorem dO.atI{K:FG}{F:Aa}{H:Hp}{m:List Addr}{s:List D}{xs:List V}{i:Int}{d:D}(r:dO K F H m s xs)(h:L2.atI s i=some d):∃x,L2.atI xs i=some x/\RD K F H m d x:=by obtain⟨j,a,n⟩:=CJ r.length h;obtain⟨x,e,p⟩:=r.get a;exact⟨x,n x e,p⟩
noncomputable def bx(k:bG):List bG->List l->Option l
 |h::s,v::T=>if h=k then some v else bx k s T
 |_,_=>none
noncomputable def cZ:P->Option bG
 | .int i=>some (.inl i)
 | .str x=>some (.inr x)
 |_=>none
def tG:P->P->Option P
 | .tup xs,.int i=>L2.atI xs i
 | .lst xs,.int i=>L2.atI xs i
 | .ro xs,.int i=>L2.atI xs i
 | .str x,.int i=>if jt x.length=true then (L2.atI x.cps.toList i).map λc=>.str ⟨#[c]⟩ else none
 | .dct s T,y=>match cZ y with
  |some k=>bx k s T
  |none=>none
 |_,_=>none
theorem oP:∀{s:List (bG×V)}{a:List P}{d:P},dg K F H a (s.map (·.2))->bx k (s.map (·.1)) a=some d->∃v,iq s k=some v/\RP K F H d v
 | [],a,d,r,h=>by cases a<;>exact mw h
 |(f,v)::s,[],d,r,h=>mw h
 |(f,v)::s,u::a,d,r,h=>by
  obtain⟨x,g,e,p,b⟩:=r;rw[aE]at e;injection e with c m;simp only[aE,bx]at h;by_cases n:f=k
  .rw [aj n]at h;cases h;exact⟨v,jg (p:=(f,v)) n,by rw[show v=x from c];exact p⟩
  .rw [al n]at h;rw[<- m]at b;obtain⟨w,t,q⟩:=oP b h;exact⟨w,by rw[ip (p:=(f,v)) n];exact t,q⟩
theorem jo(h:cZ t=some k)(r:RP K F H t v):v=kV k:=by
 cases t with
 |int i=>cases h;exact r
 |str x=>cases h;exact r
 |_=>exact mw h
theorem FW(r:X.A.units+1 < cLine):G8 X (λx y H Q=>∃a v,x=.ref a/\kZ H a y (some v)/\(∃k,H a=some (.dK k))/\Q v H):=by
 intro f l p s J H x y v u Q I d i h m;obtain⟨a,w,rfl,g,⟨k,c⟩,q⟩:=h;cases d;have n:∃o,s.heap.get? a=some o/\o.ExactDict:=by obtain⟨_,_,_,_,o,_,_,e,n,_⟩:=I.h a _ c;exact⟨o,e,n⟩
 obtain⟨o,e,n⟩:=n;exact qv ⟨o,e,n.1⟩ D6.lookup (uI r I g i λz j b t=>⟨w,H,b,t,q⟩) m
theorem Sz(M:X.A.units+1 < cLine):G8 X (rP X.K tG):=by
 intro n l f s J H x y v u Q I o S h t;obtain⟨F,D,m,d,R,g,j,q,k⟩:=h;cases D with
 |tup b=>
  cases m with
  |int i=>obtain⟨a,xs,rfl,K,r⟩:=g;cases (show y=.int i from j);obtain⟨z,e,p⟩:=r.atI (show L2.atI b i=some d from q);exact FV n l f s J H _ _ v u Q I o S ⟨a,xs,i,z,rfl,rfl,K.sq,e,k z F H .refl p⟩ t
  |_=>exact mw q
 |lst b=>
  cases m with
  |int i=>obtain⟨a,xs,rfl,K,r⟩:=g;cases (show y=.int i from j);obtain⟨z,e,p⟩:=r.atI (show L2.atI b i=some d from q);exact wv n l f s J H _ _ v u Q I o S ⟨a,xs,i,z,rfl,rfl,K.sq,e,k z F H .refl p⟩ t
  |_=>exact mw q
 |ro b=>
  cases m with
  |int i=>obtain⟨a,xs,rfl,K,r⟩:=g;cases (show y=.int i from j);obtain⟨z,e,p⟩:=r.atI (show L2.atI b i=some d from q);exact wv n l f s J H _ _ v u Q I o S ⟨a,xs,i,z,rfl,rfl,K.sq,e,k z F H .refl p⟩ t
  |_=>exact mw q
 |str z=>
  cases m with
  |int i=>
   cases (show x=.str z from g);cases (show y=.int i from j);simp only[tG]at q;split at q
   .rename_i L;cases e:L2.atI z.cps.toList i with
    |none=>rw[e]at q;exact mw q
    |some c=>rw[e]at q;cases q;exact Mn n l f s J H _ _ v u Q I o S ⟨z,i,c,rfl,rfl,jK L,e,k _ F H .refl rfl⟩ t
   .cases q
  |_=>exact mw q
 |dct T b=>
  obtain⟨a,B,rfl,fa,C,G,r⟩:=g;simp only[tG]at q;cases P:cZ m with
  |none=>rw[P]at q;exact mw q
  |some N=>rw[P]at q;dsimp only at q;subst G;obtain⟨w,E,p⟩:=oP r q;have A:=jo P j;subst A;exact FW M n l f s J H _ _ v u Q I o S ⟨a,w,rfl,by rw[<- E];exact kZ.k C,⟨B,C⟩,k w F H .refl p⟩ t
 |_=>exact mw q
theorem S4{a b:Expr}{fa fb:EV}{M:Pos}(u:X.A.units+1 < cLine)(x:PE X a (tV X.K fa))(e:PE X b (tV X.K fb))(s:oG b):PE X (.Subscript a b M) (tV X.K (qY tG fa fb)):=
 (Fo (Sz u) x e s).imp' λ_ _ _ h=>vV h
end
section
variable{X:Cx}
theorem rZ:∀{s:List (bG×V)}{a:List D}{d:D},dO K F H m a (s.map (·.2))->bx k (s.map (·.1)) a=some d->∃v,iq s k=some v/\RD K F H m d v
 | [],a,d,r,h=>by cases a<;>exact mw h
 |(f,v)::s,[],d,r,h=>mw h
 |(f,v)::s,g::a,d,r,h=>by
  obtain⟨x,i,e,p,b⟩:=r;rw[aE]at e;injection e with c t;simp only[aE,bx]at h;by_cases n:f=k
  .rw [aj n]at h;cases h;exact⟨v,jg (p:=(f,v)) n,by rw[show v=x from c];exact p⟩
  .rw [al n]at h;rw[<- t]at b;obtain⟨w,q,u⟩:=rZ b h;exact⟨w,by rw[ip (p:=(f,v)) n];exact q,u⟩
@[simp] def i_(r:EE)(k:EV)(L:Lc)(S:az):xg:=cf (r L S) λd x=>cf (k L x) λy h=>match d with
 | .p v=>(tG v y).map λz=>(.p z,h)
 | .ref i=>match h[i]? with
  | some (.lst s)=>(match y with
   | .int j=>(L2.atI s j).map λz=>(z,h)
   |_=>none)
  |some (.fz v)=>(tG v y).map λz=>(.p z,h)
  | some (.dct a T)=>(match cZ y with
   |some k=>(bx k a T).map λz=>(z,h)
   |none=>none)
  |_=>none
theorem QV{a b:Expr}{fa:EE}{fb:EV}{M:Pos}(hu:X.A.units+1 < cLine)(ha:PE X a (tE X.K fa))(hb:PE X b (tV X.K fb))(hs:oG b):PE X (.Subscript a b M) (tE X.K (i_ fa fb)):=
 (Fo ((((Sz hu).or wv).or (FW hu)).or FV) ha hb hs).imp' λJ H Q hz=>by
  obtain⟨F,m,L,S,d,N,r,l,q,k⟩:=hz;obtain⟨x,S1,A,q⟩:=ai q;obtain⟨h,K,e2,q⟩:=ai q;refine⟨F,m,L,S,x,S1,r,l,A,λv C m1 y c r1 p1=>?_⟩;refine⟨C,m1,L,S1,h,K,r1,l.mono c,e2,λu B V I o f Z=>?_⟩;have px:=RD.mono o p1;have s:∀w:P,RP X.K B I w v->(tG w h).map (λe=>(D.p e,K))=some (d,N)->rP X.K tG v u I Q:=λw pw q=>by
   cases g:tG w h with
   |none=>rw[g]at q;cases q
   |some e=>rw[g]at q;cases q;exact⟨B,w,h,e,f.ft,pw,Z,g,λt F3 H3 gr p3=>k t F3 V H3 (c.trans (o.trans gr.stp)) (f.grow gr) p3⟩
  cases x with
  |p w=>exact .inl (.inl (.inl (s w px q)))
  |ref i=>
   obtain⟨a,rfl,hm⟩:=px;dsimp only at q;cases z:K[i]? with
   |none=>rw[z]at q;cases q
   |some so=>
    rw[z]at q;have W:=f.obj i a so hm z;cases so with
    |fz w=>exact .inl (.inl (.inl (s w W q)))
    |dct ks T=>
     dsimp only at q;obtain⟨n,hk,ek,ra⟩:=W;cases E:cZ h with
     |none=>rw[E]at q;cases q
     |some R=>
      rw[E]at q;dsimp only at q;subst ek;cases g:bx R (n.map (·.1)) T with
      |none=>rw[g]at q;cases q
      |some e=>rw[g]at q;cases q;obtain⟨w,A,p⟩:=rZ ra g;have G:=jo E Z;subst G;exact .inl (.inr ⟨a,w,rfl,by rw[<- A];exact kZ.k hk,⟨n,hk⟩,k w B V I (c.trans o) f p⟩)
    |ins _ _ _=>cases q
    |dtt _ _=>cases q
    |lst ds=>
     dsimp only at q;cases h with
     |int j=>
      dsimp only at q;obtain⟨xs,hH,rs⟩:=W;cases g:L2.atI ds j with
      |none=>rw[g]at q;cases q
      |some e=>rw[g]at q;cases q;obtain⟨t,e3,p3⟩:=rs.atI g;cases (show u=.int j from Z);exact .inl (.inl (.inr ⟨a,xs,j,t,rfl,rfl,gY.of hH,e3,k t B V I (c.trans o) f p3⟩))
     |_=>cases q
def eX:P->Option Nat
 | .tup xs=>some xs.length
 | .lst xs=>some xs.length
 | .ro xs=>some xs.length
 | .str x=>if jt x.length=true then some x.length else none
 |_=>none
def dQ:D->az->Option Nat
 | .p v,_=>eX v
 | .ref i,S=>match S[i]? with
  |some (.lst d)=>some d.length
  |some (.fz v)=>eX v
  |_=>none
def dP(r:EE):EV:=λL S=>cf (r L S) λd h=>(dQ d h).map λn=>(.int n,h)
theorem B6{F:Aa}{H:Hp}{w:P}{v:V}{n:Nat}{Q:VK}(p:RP X.K F H w v)(h:eX w=some n)(q:Q (.int n) H) :
  (∃p y,[v]=[V.ref p]/\(gY X.K H p y\/oF X.K H p y)/\Q (.int y.length) H)\/(∃z,[v]=[V.str z]/\z.length≤sizeLine/\Q (.int z.length) H):=by
 cases w with
 |tup d=>obtain⟨a,xs,rfl,t,r⟩:=p;cases h;exact .inl ⟨a,xs,rfl,.inr t.sq,by rw[<- r.length];exact q⟩
 |lst d=>obtain⟨a,xs,rfl,t,r⟩:=p;cases h;exact .inl ⟨a,xs,rfl,.inl t.sq,by rw[<- r.length];exact q⟩
 |ro d=>obtain⟨a,xs,rfl,t,r⟩:=p;cases h;exact .inl ⟨a,xs,rfl,.inl t.sq,by rw[<- r.length];exact q⟩
 |str x=>
  cases (show v=.str x from p);simp only[eX]at h;split at h
  .rename_i c;cases h;exact .inr ⟨x,rfl,jK c,q⟩
  .cases h
 |_=>exact mw h
theorem QT(A:Gl X "len")(f:X.g "len"=none)(P:PE X e (tE X.K fe))(c:starEach [e] X.e=[(false,eval e X.e)]:=by rfl):PE X (.Call (.Name "len" p) [e] [] M) (tV X.K (dP fe)):=
 (nM (wV.or wU) A f PySem.boot_len (fS P jk (by rw[c];rfl)) (by decide) (by decide) (by rw[c];rfl) rfl).imp' λJ H Q B=>by
  obtain⟨F,m,L,S,d,N,r,l,q,k⟩:=B;obtain⟨x,b,j,q⟩:=ai q;refine⟨F,m,L,S,x,b,r,l,j,λv C D y G u t=>?_⟩;cases h:dQ x b with
  |none=>rw[h]at q;cases q
  |some n=>
   rw[h]at q;cases q;have s:Q (.int n) y:=k _ C D y G u rfl;cases x with
   |p w=>exact B6 t h s
   |ref i=>
    obtain⟨a,rfl,f⟩:=t;simp only[dQ]at h;cases z:N[i]? with
    |none=>rw[z]at h;cases h
    |some g=>
     rw[z]at h;have o:=u.obj i a g f z;cases g with
     |fz w=>exact B6 o h s
     |dct R T=>cases h
     |ins _ _ _=>cases h
     |dtt _ _=>cases h
     |lst I=>cases h;obtain⟨xs,K,E⟩:=o;exact .inl ⟨a,xs,rfl,.inl (gY.of K),by rw[<- E.length];exact s⟩
noncomputable def d8(d:D)(S:az):Option (Nat×List D):=match d with
 | .ref i=>match S[i]? with
  |some (.lst s)=>some (i,s)
  |_=>none
 |_=>none
theorem jE(h:d8 d S=some (i,k)):d=.ref i/\S[i]? = some (.lst k):=by
 unfold d8 at h;split at h
 .split at h
  .rename_i e;cases h;exact⟨rfl,e⟩
  .cases h
 .cases h
@[simp] def bH(r:EE)(a:EE)(L:Lc)(S:az):xg:=cf (r L S) λd h=>match d8 d h with
 |none=>none
 |some _=>cf (a L h) λx e=>match d8 d e with
  |some (i,s)=>if few s=true then some (.p .non,e.set i (.lst (s++[x]))) else none
  |none=>none
theorem H_{o e:Expr}{W fe:EE}{p c:Pos}(ho:PE X o (tE X.K W))(he:PE X e (tE X.K fe))(M:starEach [e] X.e=[(false,eval e X.e)]:=by rfl)
  (t:attributeBase o "append" X.e (eval o X.e)=eval o X.e:=by rfl) (w:(p.endLine == c.line)=true:=by rfl):PE X (.Call (.Attribute o "append" p) [e] [] c) (tE X.K (bH W fe)):=
 (Kc qj zX PySem.F.type_list_append uq ho (fS he jk (by rw[M];rfl)) t (by rw[M];rfl) w (by rw[M];rfl) rfl).imp' λJ H h hz=>by
  obtain⟨F,m,L,S,d,N,r,l,q,k⟩:=hz;obtain⟨x,A,e1,q⟩:=ai q;refine⟨F,m,L,S,x,A,r,l,e1,λv C m1 y s1 r1 p1=>?_⟩;cases E:d8 x A with
  |none=>rw[E]at q;cases q
  |some s=>
   obtain⟨i,ds⟩:=s;rw[E]at q;dsimp only at q;obtain⟨rfl,z⟩:=jE E;obtain⟨a,rfl,hm⟩:=id p1;obtain⟨xs,hH,rs⟩:=r1.obj i a _ hm z;refine⟨.inl ⟨rfl,xs,gY.of hH⟩,?_⟩;obtain⟨n,V,e2,q⟩:=ai q;refine⟨C,m1,L,A,n,V,r1,l.mono s1,e2,λu B R I s2 T p2=>?_⟩;cases f:d8 (.ref i) V with
   |none=>rw[f]at q;cases q
   |some s=>
    obtain⟨i2,D⟩:=s;rw[f]at q;dsimp only at q;obtain⟨e3,b⟩:=jE f;cases e3;split at q
    .rename_i Z;cases q;obtain⟨a2,e4,g⟩:=RD.mono s2 p1;cases e4;obtain⟨j,K,P⟩:=T.obj i a _ g b;have hl:=lC Z;have G:j.length < sizeLine:=by
      have:D.length≤1000000:=bC Z;rw[<- P.length];exact lX this (by decide)
     have nt:∀zs,I a≠some (.tup zs):=λzs s=>by rw[K]at s;cases s
     have Q:Stp B R I B R (cx I a (.lst (j++[u]))):=gG T g b trivial nt;refine⟨a,j,u,rfl,rfl,K,G,?_⟩;exact k .non B R _ (s1.trans (s2.trans Q)) (T.set g b trivial nt ⟨_,aU,dO.mono Q (P.append ⟨u,[],rfl,p2,rfl⟩)⟩) rfl
    .cases q
noncomputable abbrev EO:=Lc->az->Option (Option Int×az)
noncomputable def cY:EO:=λ_ S=>some (none,S)
def cV(a:EV):EO:=λL S=>cf (a L S) λv h=>match v with
 | .int i=>some (some i,h)
 |_=>none
inductive tOI(K:FG)(f:EO)(J:L2.St)(H:Hp)(Q:Option Int->Hp->Prop):Prop
 |mk (F:Aa) (m:List Addr) (L:Lc) (S:az) (b:Option Int) (S':az) (h0_:Rel K F H m S) (h1_:RL K F H m J L) (h2_:f L S=some (b,S')) (h3_:∀F' m' H',Stp F m H F' m' H'->Rel K F' H' m' S'->Q b H'):tOI K f J H Q
noncomputable def tO(K:FG)(f:EO):TO:=λJ H Q=>tOI K f J H Q
theorem _root_.L2.PO.imp'(h:PO X e t)(i:∀J H Q,k J H Q->t J H Q):PO X e k:=λp s J H Q I q=>h p s J H Q I (i J H Q q)
theorem Ma:PO X none (tO X.K cY):=IN.imp' λJ H Q h=>by obtain⟨F,m,L,S,d,N,r,l,q,k⟩:=h;cases q;exact k F m H .refl r
theorem L_(h:PE X e (tV X.K fa)):PO X (some e) (tO X.K (cV fa)):=(IL h).imp' λJ H Q z=>by
 obtain⟨F,m,L,S,d,N,r,l,q,k⟩:=z;obtain⟨x,b,a,q⟩:=ai q;cases x with
 |int i=>cases q;exact⟨F,m,L,S,_,_,r,l,a,λv C s y f n p=>⟨i,p,k C s y f n⟩⟩
 |_=>cases q
def cut(xs:List l)(lo h:Option Int):List l:=(xs.drop (HT.fK xs.length 0 lo)).take (HT.fK xs.length xs.length h-HT.fK xs.length 0 lo)
theorem dg.cut(r:dg K F H k xs)(lo h:Option Int):dg K F H (Ev.cut k lo h) (x6 xs lo h):=by unfold Ev.cut x6;rw[r.length];exact(r.drop _).take _
def TU:P->Option Int->Option Int->Option P
 | .lst xs,lo,h=>some (.lst (cut xs lo h))
 | .ro xs,lo,h=>some (.lst (cut xs lo h))
 | .tup xs,lo,h=>if HT.fK xs.length 0 lo=0/\HT.fK xs.length xs.length h=xs.length then none else some (.tup (cut xs lo h))
 |_,_,_=>none
theorem _root_.L2.PI.imp'(h:PI X r iter t)(i:∀J H R,k J H R->t J H R):PI X r iter k:=λp s J H R I q=>h p s J H R I (i J H R q)
theorem FY(f:∀B h I,Stp F m H B h I->gY K I a xs)(r:dg K F H T xs):Kz K (PU K a) T F m H:=by
 intro B h I s;have q:=f B h I s;have k:=dg.mono s r;refine⟨λi v e=>?_,⟨xs,q,by rw[k.length];exact ah _⟩⟩;obtain⟨x,n,p⟩:=k.get e;refine⟨⟨xs,x,q,n⟩,λy b z=>?_⟩;obtain⟨rfl,z⟩:=z;have:=z xs q
 rw[n]at this;cases this;exact⟨B,.refl,p⟩
theorem Mo(k:TupAt K H a xs)(r:dg K F H T xs):Kz K (SQ K a) T F m H:=by
 intro B b I s;have q:=(k.kp s.kp).sq;have n:=dg.mono s r;refine⟨λi v e=>?_,⟨xs,q,by rw[n.length];exact ah _⟩⟩;obtain⟨x,h,p⟩:=n.get e;refine⟨⟨xs,x,q,h⟩,λy f z=>?_⟩;obtain⟨rfl,z⟩:=z;have:=z xs q
 rw[h]at this;cases this;exact⟨B,.refl,p⟩
noncomputable def intsFrom(lo:Int)(n:Nat):List P:=(List.range n).map λ(i:Nat)=>.int (lo+(i:Int))
def jw(a:EV):lh:=λL S=>cf (a L S) λv h=>match v with
 | .int j=>if decide (j.natAbs < 1000000)=true then some (intsFrom 0 j.toNat,h) else none
 |_=>none
theorem Mp{lo:Int}:Kz K (Qy lo n) (intsFrom lo n) F m H:=by
 intro B k I s;have l:(intsFrom lo n).length=n:=by unfold intsFrom;simp
 refine⟨λi v e=>?_,by show n≤(intsFrom lo n).length;rw[l];exact ah _⟩;have h:i < n:=by rw[<- l];exact(bL.mp e).1
 refine⟨h,λx a z=>?_⟩;obtain⟨rfl,rfl⟩:=z;refine⟨B,.refl,?_⟩;unfold intsFrom at e;simp[h]at e;subst e;exact rfl
theorem Tx{w a:Expr}{fa:EV}{p M:Pos}(g:Gl X "range")(n:X.g "range"=none)(s:PE X a (tV X.K fa))(h:starEach [a] X.e=[(false,eval a X.e)]:=by rfl):PI X w (.Call (.Name "range" p) [a] [] M) (tI X.K (jw fa)):=
 (C6 g n (fS s jk (by rw[h];rfl)) h).imp' λJ H R z=>by
  obtain⟨F,m,L,S,T,N,r,l,q,k⟩:=z;obtain⟨v,u,e,q⟩:=ai q;cases v with
  |int j=>
   dsimp only at q;split at q
   .rename_i c;have i:j.natAbs < 1000000:=bC c;cases q;refine⟨F,m,L,S,_,_,r,l,e,λx C f y d t b=>?_⟩;cases (show x=.int j from b);exact⟨j,rfl,by lia,by lia,k _ C f y d t Mp⟩
   .cases q
  |_=>cases q
end
def bN(g:kY)(c:EB)(e:EV):List P->Lc->az->Option (List P×az)
 | [],_,S=>some ([],S)
 |v::r,L,S=>match g v L with
  |none=>none
  |some h=>cf (c h S) λk x=>if k=true then cf (e h x) λy a=>cf (bN g c e r h a) λn s=>some (y::n,s) else bN g c e r h x
open Classical in
def iK(ok:az->Prop)(g:kY)(c:EB)(e:EV):List P->Lc->az->Option (List P×az)
 | [],_,S=>if ok S then some ([],S) else none
 | v::r,L,S=>if ok S then (match g v L with
  |none=>none
  |some h=>cf (c h S) λk x=>if k=true then cf (e h x) λy a=>cf (iK ok g c e r h a) λn s=>some (y::n,s) else iK ok g c e r h x) else none
theorem tf:∀{T:List P}{L:Lc}{S:az},iK (λ_=>True) g c e T L S=bN g c e T L S
 | [],_,_=>aj trivial
 |v::r,L,S=>by
  unfold iK bN;rw[aj trivial];cases g v L with
  |none=>rfl
  |some h=>simp only[tf (T:=r)]
noncomputable def li(j:List Nat)(n:Nat)(L:List (Option l)):List (Option l):=(j.foldl (λL i=>L.set i none) L)++List.replicate n none
def bE(i:lh)(j:List Nat)(n:Nat)(g:kY)(c:EB)(e:EV):EV:=λL S=>cf (i L S) λxs h=>if few xs=true then cf (bN g c e xs (li j n L) h) λy x=>some (.lst y,x) else none
@[simp] def fm(_L:Lc)(S:az):M':=some (true,S)
theorem ik(j:List Nat):∀L:List (Option l),(j.foldl (λL i=>L.set i none) L).length=L.length:=by
 induction j with
 |nil=>intro L;rfl
 |cons t j h=>intro L;rw[gE,h,fq]
theorem tS(j:List Nat):∀(L:List (Option l))(i:Nat)(d:l),(j.foldl (λL i=>L.set i none) L)[i]? = some (some d)->L[i]? = some (some d)/\i ∉ j:=by
 induction j with
 |nil=>intro L i d h;exact⟨h,by simp⟩
 |cons t j n=>
  intro L i d h;rw[gE]at h;obtain⟨x,a⟩:=n _ _ _ h;by_cases e:t=i
  .subst e;by_cases s:t < L.length
   .rw [cc s]at x;cases x
   .rw [qM (by rw[fq];lia)]at x;cases x
  .rw [aG e]at x;exact⟨x,by simp[a];exact λz=>e z.symm⟩
theorem vO(j:List Nat)(n:Nat)(L:List (Option l)):(li j n L).length=L.length+n:=by unfold li;rw[bg,ik,AX]
theorem Bz(h:(li j n L)[i]? = some (some d)):L[i]? = some (some d)/\i ∉ j/\i < L.length:=by
 unfold li at h;by_cases x:i < L.length
 .rw [bA (by rw[ik];exact x)]at h;obtain⟨a,e⟩:=tS j L i d h;exact⟨a,e,x⟩
 .rw [ce (by rw[ik];lia),vq]at h;split at h<;>cases h
variable{J:L2.St}
theorem RL.up(l:RL K F H m J L)(j:List Nat)(n:Nat):RL K F H m (li j n J) (li j n L):=by
 refine⟨by rw[vO,vO,l.len],λi d h=>?_⟩;obtain⟨a,s,f⟩:=Bz h;obtain⟨v,e,r⟩:=l.at' i d a;refine⟨v,?_,r⟩;unfold li;rw[bA (by rw[ik,l.len];exact f)];have k:∀(j:List Nat)(J:L2.St),i ∉ j->J[i]? = some (some v)->(j.foldl (λL i=>L.set i none) J)[i]? = some (some v):=by
  intro j;induction j with
  |nil=>intro J _ e;exact e
  |cons t j b=>intro J x e;rw[gE];refine b _ (λz=>x (ao _ z)) ?_;rw[aG (λz=>x (by rw[z];exact ar))];exact e
 exact k j J s e
noncomputable def om(G:Scope)(e:Env):List (Str×Addr):=((G.names.filter λx=>x.2 == .free).map λx=>(x.1,(e.cells.lookup x.1).getD 0)).reverse
def inn(X:Cx)(G:Scope)(q:LS)(s:Shared)(H:Hp)(C:Addr)(f:List Addr):Cx:=
 { X with N:=q,z:=s,y:=H,e:=compEnvC G (om G X.e) C X.e,o:=X.k,ex:=f,fn:=λ_=>false,pn:=[],xe:=λ_ _=>False }
structure BlockOk(X:Cx)(scope:Scope)(N':LS)(ts:List Nat)(n:Nat):Prop where
 kind:scope.kind=.function
 cell:∀x ∈ scope.names,x.2≠.cell
 loc:∀x ∈ scope.names,x.2=.local->scope.names.lookup x.1=some .local
 fr:∀x ∈ scope.names,x.2=.free->scope.names.lookup x.1=some .free/\(X.e.kindOf x.1=some .cell\/X.e.kindOf x.1=some .free)
 names:X.N=N'.take X.N.length
 more:N'.length=X.N.length+n
 ts:∀x ∈ scope.names,x.2=.local->∀i:Nat,X.N[i]? = some x.1->i ∈ ts
theorem jn:∀{a:List (Str×l)}{x:Str}{v:l},a.lookup x=some v->(x,v) ∈ a
 | [],_,_,h=>by simp at h
 |(y,w)::r,x,v,h=>by
  rw[qH]at h;cases e:x == y with
  |true=>rw[e]at h;cases h;rw[show x=y from by simpa using e];exact ar
  |false=>rw[e]at h;exact ao _ (jn h)
theorem mx:∀{a:List (Str×l)}{x:Str}{v:l},(x,v) ∈ a->∃w,a.lookup x=some w
 | [],_,_,h=>by simp at h
 |(y,w)::r,x,v,h=>by
  rw[qH];cases e:x == y with
  |true=>exact⟨w,rfl⟩
  |false=>
   rcases aW.mp h with h|h
   .injection h with s _;subst s;simp at e
   .exact mx h
variable{x:Str}
theorem gH(h:(relabel G r).names.lookup x=some k):∃a,(x,a) ∈ G.names/\(k=a\/(k=.cell/\a=.free)):=by
 have m:=jn h;unfold relabel at m;obtain⟨⟨n,a⟩,t,e⟩:=aM.mp m;by_cases c:(a == NameKind.free && r.scope.kind == .function && r.kindOf n == some .cell)=true
 .have s:(n,NameKind.cell)=(x,k):=by simpa[c] using e
  injection s with f b;subst f;rw[aD,aD]at c;exact⟨a,t,.inr ⟨b.symm,by simpa using c.1.1⟩⟩
 .have s:(n,a)=(x,k):=by simpa[c] using e
  injection s with f b;subst f;exact⟨a,t,.inl b.symm⟩
section
variable{X:Cx}{G:Scope}{q:LS}{j:List Nat}{n:Nat}
theorem BlockOk.cl(B:BlockOk X G q j n)(I:Inv X pins J H s)(h:(om G X.e).lookup x=some c):X.e.cells.lookup x=some c/\(x,NameKind.free) ∈ G.names:=by
 have t:=jn h;unfold om at t;obtain⟨⟨y,k⟩,m,e⟩:=aM.mp (AN.mp t);obtain⟨m,w⟩:=eR.mp m;have r:k=.free:=by simpa using w
 subst r;injection e with v f;subst v;obtain⟨_,d⟩:=B.fr _ m rfl;obtain⟨p,a⟩:=I.o.has y d;dsimp only at f;rw[a]at f;have b:p=c:=f;subst b;exact⟨a,m⟩
theorem BlockOk.has(B:BlockOk X G q j n)(h:(x,NameKind.free) ∈ G.names):∃c,(om G X.e).lookup x=some c:=by unfold om;exact mx (v:=(X.e.cells.lookup x).getD 0) (AN.mpr (aM.mpr ⟨(x,.free),eR.mpr ⟨h,by simp⟩,rfl⟩))
theorem Ga(B:BlockOk X G q j n)(I:Inv X r J H s)(C:s.heap.objs.size≤k)(f:∀b ∈ t,tu X r H b)(w:∀b ∈ t,b < s.heap.objs.size) :
  (inn X G q s H k t).Ok where
 mod:=I.o.mod
 kind:=B.kind
 glob:=I.o.glob
 blt:=I.o.blt
 above:=C
 inj:=λx y c v d=>I.o.inj x y c (B.cl I v).1 (B.cl I d).1
 has:=λx h=>by
  have p:(relabel G X.e).names.lookup x=some .cell\/(relabel G X.e).names.lookup x=some .free:=h;rcases p with h|h
  .obtain⟨u,m,e|⟨_,e⟩⟩:=gH h
   .subst e;exact absurd rfl (B.cell _ m)
   .subst e;exact B.has m
  .obtain⟨u,m,e|⟨e,_⟩⟩:=gH h
   .subst e;exact B.has m
   .cases e
 cab:=λx c h=>nomatch h
 hd:=I.o.hd
 frames:=I.o.frames
 stk:=.inl rfl
 exf:=λb a=>⟨bB (cq (w b a) C),λx c h=>(f b a).2.2.2.2.1 x c (B.cl I h).1⟩
 bs:=I.bs
 bsz:=aF I.o.bsz I.sz
 noex:=λb o e a=>by
  rcases(f b a).2.2.2.1 with z|z
  .exact I.o.noex b o e z
  .exact absurd (cq (aO (I.o.bs b o e).1) z) (jA _)
 exfs:=λb a z=>by
  rcases aW.mp (I.stkSub b z) with z|z
  .exact (f b a).2.1 z
  .exact (f b a).2.2.1 z
 funs:=I.stack
 frf:=I.stkFree
theorem _root_.L2.Un.sameBut(u:Un fs r H H' h t)(s:gx k t h2)(C:∀b o,h.get? b=some o->b≠k):Un fs r H H' h h2 where
 keep:=λb o e n a x=>s.extBut b o (C b o e) (u.keep b o e n a x)
 slot:=λb o e n a x=>by obtain⟨l,q⟩:=u.slot b o e n a x;exact⟨l,s.extBut b _ (C b o e) q⟩
 free:=u.free
 there:=λb o e x=>by obtain⟨f,q⟩:=u.there b o e x;exact⟨f,s.extBut b _ (C b o e) q⟩
 tups:=u.tups
 frzs:=u.frzs
 tbls:=u.tbls
theorem _root_.L2.HOk.sameBut{P:Program}{w:World}{H:Hp}{h x:Heap}{C:Addr}(ok:HOk P w H h)(n:gx C h x)(a:H C=none):HOk P w H x:=λb u e=>
 (ok b u e).stay (fun c v s q=>n.extBut c v (by
  rintro rfl;rcases s with z|z
  .subst z;rw[a]at e;cases e
  .rw [a]at z;cases z) q) (λ_ q=>q) λ_ _ q=>q
inductive PIfs(X:Cx):Ab->EB->Prop where
 |none:PIfs X [] fm
 |one {c:Expr}{q:EB}:PT X c (tQ X.K q)->PIfs X [c] q
theorem Kp.bump(x:¬F p)(t:∀xs,H p≠some (.tup xs)):Kp F m H F m (cx H p o):=
 ⟨⟨[],by simp⟩,λ_ h=>h,λb u f h=>by rw[aw (by rintro rfl;exact x f)];exact h,λb xs h=>by rw[aw (by rintro rfl;exact t xs h)];exact h⟩
theorem Stp.bump(s:Stp F m H F' m' H')(hp:H p=none):Stp F m H F' m' (cx H' p o) where
 pre:=s.pre
 oth:=λb u h x=>by rw[aw (by rintro rfl;rw[hp]at h;cases h)];exact s.oth b u h x
 frz:=s.frz
 frk:=λb u f h=>by rw[aw (by rintro rfl;rw[hp]at h;cases h)];exact s.frk b u f h
 tup:=λb xs h=>by rw[aw (by rintro rfl;rw[hp]at h;cases h)];exact s.tup b xs h
 trk:=λb h=>by
  by_cases e:b=p
  .subst e;rw[aU];exact λz=>nomatch z
  .rw [aw e];exact s.trk b h
 nf:=s.nf
 nm:=s.nm
theorem Rel.bump(r:Rel K F H m S)(x:¬F p)(s:p ∉ m)(t:∀xs,H p≠some (.tup xs)):Rel K F (cx H p o) m S:=
 r.stayK (Kp.bump x t) (λa u e h=>by rw[aw (by rintro rfl;exact s e)];exact h) (λ_ f=>.inl f) λa f=>by rw[aw (by rintro rfl;exact x f)];exact r.ft a f
theorem Sx:Kp F m H (λb=>F b\/b=p) m H:=⟨⟨[],by simp⟩,λ_ h=>.inl h,λ_ _ _ h=>h,λ_ _ h=>h⟩
theorem Stp.addF(s:Stp F m H F' m' H')(hp:H p=none):Stp F m H (λb=>F' b\/b=p) m' H':=
 ⟨s.pre,s.oth,fun b h=>.inl (s.frz b h),s.frk,s.tup,s.trk,fun b h=>by
  rcases h with h|h
  .exact s.nf b h
  .subst h;exact .inr (.inl hp),s.nm⟩
theorem Rel.addF(r:Rel K F H m S)(s:p ∉ m)(hp:H p≠none):Rel K (λb=>F b\/b=p) H m S where
 len:=r.len
 nd:=r.nd
 obj:=λi a o e x=>(r.obj i a o e x).kp Sx λu h=>h
 sep:=λi a o e x w f=>by
  rcases f with f|f
  .exact r.sep i a o e x w f
  .subst f;exact s (aZ e)
 trk:=r.trk
 ft:=λa f=>by
  rcases f with f|f
  .exact r.ft a f
  .subst f;exact hp
theorem _root_.L2.Inv.letGo(I:Inv X k J H s)(f:gx h s.heap t)(C:H h=none)(v:X.z.heap.objs.size≤h)(d:h≠X.e.locals)
  (w:∀x c,X.e.cells.lookup x=some c->c≠h) (u:∀p ∈ X.pn++k,p.1≠h):Inv X k J H { s with heap:=t }:=by
 have r:∀b:Addr,b ∉ [h]->b≠h:=λb m z=>m (by simp[z]);refine I.call' (s':={ s with heap:=t }) (q:=[h]) rfl ⟨λb o e _ _ a=>f.extBut b o (r b a) e,λb o e _ _ a=>⟨o.slots,f.extBut b o (r b a) e⟩,λ_ _ _ n _=>n,λb o e a=>⟨o,f.extBut b o (r b a) e⟩,λ_ _ q=>q,λ_ _ _ q=>q,λb g q=>⟨#[],by rw[q];simp⟩⟩ (I.h.sameBut f C) I.bare λb m=>?_;have e:b=h:=by simpa using m
 subst e;exact⟨.inr v,d,w,u⟩
theorem DE(I:Nat->Shared->Prop)
  (u:∀n s,I n s->wpAny (model t w) A (pyNext it) (fun r f=>match r with
   |none=>R (.ok .next) f
   | some v=>wpAny (model t w) A (letOwnedTupleGo tg it v) (fun _ d=>wpAny (model t w) A (assign tg k v) (fun _ g=>
     wpAny (model t w) A (forIn ifs true fun c r=>if r=true then do let ok <- isTrue c k (eval c k);pure (ForInStep.yield ok) else pure (ForInStep.yield r)) (fun ok b=>
      if ok=true then wpAny (model t w) A (eval elt k) (fun x i=>
       wpAny (model t w) A (call (.builtin "list.append") [acc,x]) (λ_ j=>∃m,m < n/\I m j) (notedBy (model t w) A k λe a=>R (.error e) a) i) (notedBy (model t w) A k λe a=>R (.error e) a) b
      else ∃m,m < n/\I m b) (notedBy (model t w) A k λe a=>R (.error e) a) g) (notedBy (model t w) A k λe a=>R (.error e) a) d) (notedBy (model t w) A k λe a=>R (.error e) a) f) (notedBy (model t w) A k λe a=>R (.error e) a) s)
  (n:Nat) (h:I n s):codeAny (model t w) A (.compLoop (.ListComp elt [⟨tg,iter,ifs,0⟩] G M) 0 it acc k) R s:=by
 refine codeAny_loop rfl I (λn s S=>?_) n h;show wpAny _ A ((compTurn (.ListComp elt [⟨tg,iter,ifs,0⟩] G M) 0 it acc k).onRaise (λx=>do noteFrame x k;theTreesLotGoes x)) _ _ s;refine wpAny_noted ?_;rw[compTurn_list];refine ac (yv (ac (di (u n s S) (λr f p=>?_) λ_ _ z=>z)));cases r with
 |none=>exact aA p
 |some v=>
  refine ac (di p (λ_ d l=>ac (di l (λ_ g y=>ac (di y (λok b q=>?_) λ_ _ z=>z)) λ_ _ z=>z)) λ_ _ z=>z);cases ok with
  |false=>exact aA ⟨rfl,q⟩
  |true=>exact ac (ac (di q (λx i o=>ac (di o (λ_ j H=>aA (aA ⟨rfl,H⟩)) λ_ _ z=>z)) λ_ _ z=>z))
theorem JC{H:Heap}{tk:Nat}(B:BlockOk X G q j n)(a:Inv X pins J I k)(C:k.heap.objs.size≤h)(Z:∀b ∈ fp,tu X pins I b)(A:∀b ∈ fp,b < k.heap.objs.size)(l:∀b o,k.heap.get? b=some o->H.get? b=some o)
  (hD:I k.heap.objs.size=none) (D:k.heap.objs.size≠h) (P:I h=none) (d:H.Ns h mC) (s:H.get? k.heap.objs.size=some { cls:=.type "list",dict:=none,data:=.seq ([]:LV).toArray }) :
  Inv (inn X G q k I h fp) [] (li j n J) (cx I k.heap.objs.size (.lst [])) { k with heap:=H,toks:=tk }:=by
 refine⟨Ga B a C Z A,rfl,a.bare,Un.laid l (ah _) hD,?_,λx c e=>?_,?_,λx c e=>?_,λp hp=>absurd (show p ∈ ([]:PN) from hp) (by simp),?_,?_⟩
 .obtain⟨m0,hn0,E⟩:=a.loc;refine⟨_,d,λi x v T V hv=>?_⟩;obtain⟨S,F,K⟩:=Bz V;have t:J.length=X.N.length:=a.len;have N:X.N[i]? = some x:=by
   rw[B.names,iW (by rw[<- t];exact K)];exact T
  have g:(relabel G X.e).names.lookup x=some .local\/(relabel G X.e).names.lookup x=some .cell\/(relabel G X.e).names.lookup x=some .free:=hv;have R:¬(relabel G X.e).names.lookup x=some .local:=λz=>by
   obtain⟨Q,m,e|⟨e,_⟩⟩:=gH z
   .subst e;exact absurd (B.ts _ m rfl i N) F
   .cases e
  have M:(x,NameKind.free) ∈ G.names:=by
   rcases g with z|z|z
   .exact absurd z R
   .obtain⟨Q,m,e|⟨_,e⟩⟩:=gH z
    .subst e;exact absurd rfl (B.cell _ m)
    .subst e;exact m
   .obtain⟨Q,m,e|⟨e,_⟩⟩:=gH z
    .subst e;exact m
    .cases e
  obtain⟨_,r⟩:=B.fr _ M rfl;have L:Nv X.e.scope x:=by
   rcases r with z|z
   .exact .inr (.inl z)
   .exact .inr (.inr z)
  obtain⟨u,ru,lk⟩:=E i x v N S L;refine⟨u,ru,.inr ⟨?_,?_⟩⟩
  .rcases g with z|z|z
   .exact absurd z R
   .exact .inl z
   .exact .inr z
  .rcases lk with ⟨z,_⟩|⟨_,c,W,ic⟩
   .rcases r with y|y
    .rw [z]at y;cases y
    .rw [z]at y;cases y
   .obtain⟨c',f⟩:=B.has M;have:=(B.cl a f).1
    rw[W]at this;cases this;obtain⟨o,w,hd⟩:=ic;exact⟨c,f,o,l c o w,hd⟩
 .obtain⟨v,o,w,hd⟩:=a.cell x c (B.cl a e).1;exact⟨v,o,l c o w,hd⟩
 .show cx I k.heap.objs.size (.lst []) h=none;rw[aw (aQ D)];exact P
 .obtain⟨v,o,w,hd⟩:=a.cell x c (B.cl a e).1;rw[aw (bB (aO w))];exact a.freeC x c (B.cl a e).1
 .exact a.h.laid l (ah _) ⟨cT _,[],0,.nil,s⟩
 .show (li j n J).length=q.length;rw[vO,a.len,B.more]
inductive cIv(K:FG)(Y9:Cx)(F1:Aa)(m1:List Addr)(H2:Hp)(A:Addr)(tn:Nat->Heap->Prop)(fp:List Addr)(R:Nat->Nat->Lc->az->List P->Prop)(ys:List P)(nn:Nat)(sx:Shared):Prop
 |mk (i:Nat) (J':L2.St) (F':Aa) (m':List Addr) (H':Hp) (L':Lc) (S':az) (acc rest:List P) (xs:List V) (h0_:Inv Y9 [] J' H' sx) (h1_:tn i sx.heap) (h2_:∀b ∈ fp,H' b=none) (h3_:Stp F1 m1 H2 F' m' H') (h4_:Rel K F' H' m' S') (h5_:RL K F' H' m' J' L') (h6_:H' A=some (.lst xs)) (h7_:dg K F' H' acc xs) (h8_:acc.length≤i) (h9_:¬F' A) (ha_:A ∉ m') (hb_:R nn i L' S' rest) (hc_:acc++rest=ys):cIv K Y9 F1 m1 H2 A tn fp R ys nn sx
def SR(K:FG)(ok:az->Prop)(a:It)(T:List P)(F:Aa)(m:List Addr)(H:Hp):Prop:=∀B s I S,Stp F m H B s I->Rel K B I s S->ok S ->
 (∀(i:Nat) v,T[i]? = some v->a.go i I/\∀x h,a.yld i I x h->∃e,Grow B I e h/\RP K e h v x)/\a.stop T.length I
def tw(X:Cx)(t iter:Expr)(f:EV)(j:List Nat)(n:Nat)(g:kY)(c:EB)(fe:EV):Prop:=∃w,PI X t iter w/\∀J H F m L S d a,Rel X.K F H m S->RL X.K F H m J L->f L S=some (d,a) ->
 ∃ok T x s,d=.lst s/\few T=true/\w J H (λe y=>∃C h,Stp F m H C h y/\Rel X.K C y h x/\SR X.K ok e T C h y)/\iK ok g c fe T (li j n L) x=some (s,a)
theorem Pw(i:PI X tg iter (tI X.K fi)):tw X tg iter (bE fi j n g t fe) j n g t fe:=by
 refine⟨_,i,λJ H F m L S d a r l q=>?_⟩;obtain⟨T,x,s,q⟩:=ai q;split at q;case isFalse=>cases q
 rename_i h;obtain⟨w,e,k,q⟩:=ai q;cases q;exact⟨λ_=>True,T,x,w,rfl,h,⟨F,m,L,S,T,x,r,l,s,λu C b y v p f=>⟨C,b,v,p,λB c I a Q _ _=>f B c I Q⟩⟩,by rw[tf];exact k⟩
theorem pc 
  (B:BlockOk X G q j n) (hcalm:X.c=true)
  (hi:PI X tg iter wi) (hg:∀s H h Q,PG (inn X G q s H h Q) tg (gT X.K g)) (hc:∀s H h Q,PIfs (inn X G q s H h Q) ifs fc) (he:∀s H h Q,PE (inn X G q s H h Q) elt (tV X.K fe))
  (hclos:closureFor G X.e=pure (om G X.e)) (hs:∀x,foldedSetIterable iter X.e x=pure x)
  (a:Inv X pins J H s) (r:Rel X.K F H m S) (l:RL X.K F H m J L) (hw:wi J H λJ9 y=>∃C m1,Stp F m H C m1 y/\Rel X.K C y m1 S1/\SR X.K ok J9 T C m1 y) (hfew:few T=true) (e2:iK ok g fc fe T (li j n L) S1=some (ds,S2))
  (fin:∀p F' m' H' sx h xs,Inv X pins J H' sx->Stp F m H F' m' H'->Rel X.K F' H' m' S2->H p=none/\¬F' p/\p ∉ m'/\H' p=some (.lst xs)/\dg X.K F' H' ds xs->H' h=none->X.z.heap.objs.size≤h->h≠X.e.locals->(∀x c,X.e.cells.lookup x=some c->c≠h)->(∀p ∈ X.pn++pins,p.1≠h) ->
   (∃mC,sx.heap.Ns h mC)->compPost (model X.p X.w) X.A X.xe use k (.ref p) h (.ok .next) sx) :
  wx X (comprehension (.ListComp elt [⟨tg,iter,ifs,0⟩] G M) G X.e p2 (newList []) false (eval iter X.e) use) k X.xe s:=by
 refine wpAny_comprehension_free (use:=use) rfl hs hclos B.kind B.loc (dL (hi pins s J H _ a hw) λxv sA hA=>dL hA λitv D h2=>?_);obtain⟨it,Q,tn,J9,I,rfl,I2,t,st2,f2,C,m1,s1,r1,itp⟩:=h2;have hfp:∀b ∈ Q,b < D.heap.objs.size:=λb V=>by obtain⟨o,e,_⟩:=t.obj _ _ st2 b V;exact aO e
 refine rO ?_ (by show 0≤sizeLine;exact cT _);refine wpAny_newFunctionEnv B.cell (by intro d hy;simp at hy) (λh1 hns1 hsb1=>?_) B.kind;dsimp only at hns1 hsb1 ⊢;have hD:I D.heap.objs.size=none:=I2.h.fresh (ah _);generalize hH2:D.heap.push { cls:=.type "list",dict:=none,data:=.seq ([]:LV).toArray }=A at hns1 hsb1 ⊢;have hC:A.objs.size=D.heap.objs.size+1:=by rw[<- hH2,rH]
 have E:D.heap.objs.size≤A.objs.size:=by rw[hC];exact kq _
 have old:∀b o,D.heap.get? b=some o->h1.get? b=some o:=λb o e=>hsb1.extBut b o (bB (cq (aO e) E)) (bD _ (hH2 ▸ bD _ e));have hDC:D.heap.objs.size≠A.objs.size:=by rw[hC];exact bB (i3 _)
 have accO:h1.get? D.heap.objs.size=some { cls:=.type "list",dict:=none,data:=.seq ([]:LV).toArray }:=hsb1.extBut _ _ hDC (bD _ (hH2 ▸ db _ rfl));have hCn:I A.objs.size=none:=I2.h.fresh E;have hCcell:∀x c,X.e.cells.lookup x=some c->c≠A.objs.size:=λx c e z=>by obtain⟨v,o,ho,_⟩:=I2.cell x c e;exact absurd (aO ho) (A9.mpr (by rw[z];exact E))
 have hCloc:A.objs.size≠X.e.locals:=cm (cq I2.lt E);have hCpin:∀p ∈ X.pn++pins,p.1≠A.objs.size:=λp hp z=>absurd (aO (I2.pin p hp).1) (A9.mpr (by rw[z];exact E));have I3:=JC (tk:=D.toks+([]:List (Str×Value)).length) B I2 E f2 hfp old hD hDC hCn hns1 accO;have okX:=Ga (k:=A.objs.size) B I2 E f2 hfp;have fpH:∀{H':Hp},(∀b ∈ Q,H' b=none)->∀b ∈ Q,tu (inn X G q D I A.objs.size Q) [] H' b:=λhn b V=>
  ⟨hn b V,bB (cq (hfp b V) E),okX.exfs b V,.inl V,(okX.exf b V).2,λp hp=>absurd (show p ∈ ([]:PN) from hp) (by simp)⟩
 have tn1:tn 0 h1:=t.keep _ _ _ st2 λb V o e=>old b o e;have loop:∀s3:Shared,s3={ D with heap:=h1,toks:=D.toks+([]:List (Str×Value)).length } ->
   codeAny (model X.p X.w) X.A (.compLoop (.ListComp elt [⟨tg,iter,ifs,0⟩] G M) 0 (.ref it) (.ref D.heap.objs.size) (compEnvC G (om G X.e) A.objs.size X.e))
    (compPost (model X.p X.w) X.A X.xe use k (.ref D.heap.objs.size) A.objs.size) s3:=by
  rintro s3 rfl;refine DE (cIv X.K (inn X G q D I A.objs.size Q) C m1 I D.heap.objs.size tn Q (λnn i L' N u=>nn=T.length-i/\i≤T.length/\iK ok g fc fe (T.drop i) L' N=some (u,S2)) ds) ?_ T.length ?_
  .rintro nn sx ⟨i,J',F',m',H',L',N,acc,u,xs,I',tn',fr',st',r',l',hacc,ra,hal,nF,nm,⟨rfl,hi',R⟩,rfl⟩;by_cases hlt:i < T.length
   .have hv:T[i]? = some T[i]:=by simp[hlt]
    rw[A3 hlt]at R;unfold iK at R;split at R;case isFalse=>cases R
    rename_i hok;obtain⟨hgo,_⟩:=itp F' m' H' N st' r' hok;obtain⟨hgo1,hy⟩:=hgo i _ hv;refine di (t.item (inn X G q D I A.objs.size Q) rfl rfl rfl hcalm i [] sx J' H' (λ_ _=>False) I' (fpH fr') tn' hgo1) (λrr sy hr=>?_) (λ_ _ f=>f.elim);obtain⟨w,rfl,hr⟩:=hr;refine di hr (λ_ sz hz=>?_) (λ_ _ f=>f.elim);obtain⟨x,H3,I4,rx,yl,tn4,fr4⟩:=hz;obtain⟨F3,gr,p3⟩:=hy x H3 yl;have Nc:Stp C m1 I F3 m' H3:=st'.trans gr.stp;have r4:=r'.grow gr;have l4:=l'.mono (gr.stp (m:=m'));have acc4:=gr.keep _ _ hacc;have nF4:¬F3 D.heap.objs.size:=λz=>by
     rcases gr.nf _ z with z|⟨z,_⟩
     .exact nF z
     .rw [hacc]at z;cases z
    have I4':=I4.pinned (fpH fr4) (t.obj _ _ tn4);have back:∀{J7:L2.St}{H7:Hp}{s7:Shared},Inv (inn X G q D I A.objs.size Q) ([]++oW Q sz.heap) J7 H7 s7->tn (i+1) s7.heap/\∀b ∈ Q,H7 b=none:=λ{J7 H7 s7} I7=>
     ⟨t.keep _ _ _ tn4 λb V o e=>(I7.pin (b,o) (fQ _ (fQ _ (kD V e)))).1,λb V=>by obtain⟨o,e,dd⟩:=t.obj _ _ tn4 b V;exact(I7.pin (b,o) (fQ _ (fQ _ (kD V e)))).2.1⟩
    cases eg:g T[i] L' with
    |none=>rw[eg]at R;cases R
    |some L1=>
     rw[eg]at R;dsimp only at R;obtain⟨kk,S5,e5,R⟩:=ai R;refine di (hg D I A.objs.size Q _ sz J' H3 x w (λJ5 H5=>H5=H3/\RL X.K F3 H3 m' J5 L1) I4' rx ⟨F3,m',L',T[i],L1,l4,p3,eg,λJ5 l5=>⟨rfl,l5⟩⟩) (λ_ s5 h5=>?_) (λ_ _ f=>f.elim);obtain⟨J5,H5,I5,rfl,l5⟩:=h5;have test:wx X (forIn ifs true λc r=>if r=true then do let ok <- isTrue c (compEnvC G (om G X.e) A.objs.size X.e) (eval c (compEnvC G (om G X.e) A.objs.size X.e));pure (ForInStep.yield ok) else pure (ForInStep.yield r))
       (λok s6=>ok=kk/\∃W m6 H6,Inv (inn X G q D I A.objs.size Q) ([]++oW Q sz.heap) J5 H6 s6/\Stp F3 m' H5 W m6 H6/\Rel X.K W H6 m6 S5) (λ_ _=>False) s5:=by
      have hcc:=hc D I A.objs.size Q;cases hcc with
      |none=>cases e5;exact wpAny_tests_nil ⟨rfl,F3,m',H5,I5,.refl,r4⟩
      |one hq=>refine wpAny_tests_one (di (hq _ s5 J5 H5 (λb H6=>b=kk/\∃W m6,Stp F3 m' H5 W m6 H6/\Rel X.K W H6 m6 S5) I5 ⟨F3,m',L1,N,kk,S5,r4,l5,e5,λW m6 H6 s6 r6=>⟨rfl,W,m6,s6,r6⟩⟩) (λb s6 h6=>?_) λ_ _ f=>f);obtain⟨H6,I6,rfl,W,m6,DM,r6⟩:=h6;exact⟨rfl,W,m6,H6,I6,DM,r6⟩
     refine di test (λok s6 h6=>?_) (λ_ _ f=>f.elim);obtain⟨rfl,W,m6,H6,I6,DM,r6⟩:=h6;have Z:=DM.oth _ _ acc4 nm;have nm6:D.heap.objs.size ∉ m6:=λz=>by
      rcases DM.nm _ z with z|z
      .exact nm z
      .rw [acc4]at z;cases z
     have nF6:¬W D.heap.objs.size:=λz=>by
      rcases DM.nf _ z with z|z|z
      .exact nF4 z
      .rw [acc4]at z;cases z
      .exact nm z
     have ra6:=dg.mono DM (ra.grow gr);have l6:=l5.mono DM;cases ok with
     |false=>rw[al b7]at R ⊢;obtain⟨t7,f7⟩:=back I6;exact⟨T.length-(i+1),by lia,i+1,J5,W,m6,H6,L1,S5,acc,u,xs,I6.pins_of λp hp=>absurd hp (by simp),t7,f7,Nc.trans DM,r6,l6,Z,ra6,Bf hal,nF6,nm6,⟨rfl,hlt,R⟩,rfl⟩
     |true=>
      rw[aj rfl]at R ⊢;obtain⟨d,S8,e8,R⟩:=ai R;obtain⟨zs,S9,e9,R⟩:=ai R;cases R;refine di (he D I A.objs.size Q _ s6 J5 H6 (λv8 H8=>∃F8 m8,Stp W m6 H6 F8 m8 H8/\Rel X.K F8 H8 m8 S8/\RP X.K F8 H8 d v8) I6 ⟨W,m6,L1,S5,d,S8,r6,l6,e8,λv8 F8 m8 H8 s8 r8 p8=>⟨F8,m8,s8,r8,p8⟩⟩) (λu8 s8 h8=>?_) (λ_ _ f=>f.elim);obtain⟨v8,H8,I8,rv8,F8,m8,st8,r8,p8⟩:=h8;have acc8:=st8.oth _ _ Z nm6;have nm8:D.heap.objs.size ∉ m8:=λz=>by
       rcases st8.nm _ z with z|z
       .exact nm6 z
       .rw [Z]at z;cases z
      have nF8:¬F8 D.heap.objs.size:=λz=>by
       rcases st8.nf _ z with z|z|z
       .exact nF6 z
       .rw [Z]at z;cases z
       .exact nm6 z
      have ra8:=dg.mono st8 ra6;have nt8:∀zs,H8 D.heap.objs.size≠some (.tup zs):=λzs z=>by rw[acc8]at z;cases z
      have hl8:xs.length < sizeLine:=by have h9:T.length≤1000000:=bC hfew;rw[<- ra8.length];exact cq (lX hal hlt) (aF h9 (by decide))
      refine di (uq (X:=inn X G q D I A.objs.size Q) _ s8 J5 H8 (.ref D.heap.objs.size) [v8] (.ref D.heap.objs.size) [u8] (λ_ H9=>H9=cx H8 D.heap.objs.size (.lst (xs++[v8]))) I8 rfl (.cons rv8 .nil) ⟨_,xs,v8,rfl,rfl,acc8,hl8,rfl⟩) (λ_ s9 h9=>?_) (λ_ _ f=>f.elim);obtain⟨_,H9,I9,_,rfl⟩:=h9;obtain⟨t9,f9⟩:=back I9;have kb:Kp F8 m8 H8 F8 m8 (cx H8 D.heap.objs.size (.lst (xs++[v8]))):=Kp.bump nF8 nt8;have st9:Stp C m1 I F8 m8 (cx H8 D.heap.objs.size (.lst (xs++[v8]))):=(Nc.trans (DM.trans st8)).bump hD;have l9:RL X.K F8 (cx H8 D.heap.objs.size (.lst (xs++[v8]))) m8 J5 L1:=⟨l6.len,λK dd e=>by obtain⟨v,e1,rr⟩:=(l6.mono st8).at' K dd e;exact⟨v,e1,RD.kp kb rr⟩⟩
      exact⟨T.length-(i+1),by lia,i+1,J5,F8,m8,_,L1,S8,acc++[d],zs,xs++[v8],I9.pins_of fun p hp=>absurd hp (by simp),t9,f9,st9,r8.bump nF8 nm8 nt8,l9,aU,
       dg.kp kb (ra8.append ⟨v8,[],rfl,p8,rfl⟩),by rw[bg];exact Nat.succ_le_succ hal,nF8,nm8,⟨rfl,hlt,e9⟩,by simp⟩
   .have e:i=T.length:=by lia
    subst e;rw[qE]at R;unfold iK at R;split at R;case isFalse=>cases R
    rename_i hok;cases R;obtain⟨_,hstop⟩:=itp F' m' H' _ st' r' hok;refine di (t.done (inn X G q D I A.objs.size Q) rfl rfl rfl hcalm T.length [] sx J' H' (λ_ _=>False) I' (fpH fr') tn' hstop) (λrr sy hr=>?_) (λ_ _ f=>f.elim);obtain⟨rfl,I5⟩:=hr;rw[eQ] at *
    have Iout:Inv X pins J H' sy:=I2.call' (q:=Q) I5.os I5.base I5.h I5.bare λb V=>⟨(f2 b V).2.2.2.1,(f2 b V).2.1,(f2 b V).2.2.2.2.1,(f2 b V).2.2.2.2.2⟩;have hD0:H D.heap.objs.size=none:=by
     cases P:H D.heap.objs.size with
     |none=>rfl
     |some o=>exact absurd hD (s1.trk _ (by rw[P];exact λz=>nomatch z))
    have hCH:H' A.objs.size=none:=I5.free;obtain⟨mC,hmC,_⟩:=I5.loc;exact fin D.heap.objs.size F' m' H' sy A.objs.size xs Iout (s1.trans st') r' ⟨hD0,nF,nm,hacc,ra⟩ hCH (aF I2.sz E) hCloc hCcell hCpin ⟨mC,hmC⟩
  .exact⟨0,_,C,m1,_,li j n L,S1,[],ds,[],I3,tn1,λb V=>by rw[aw (bB (hfp b V))];exact(f2 b V).1,(cw hD).stp,r1.grow (cw hD),((l.mono s1).mono (cw hD).stp).up j n,aU,rfl,cT _,r1.fresh_F hD,r1.fresh_m hD,⟨rfl,cT _,by rw[nw];exact e2⟩,rfl⟩
 exact codeAny_compStart_list (loop _ rfl) (t.self X.A 0 _ _ _ tn1 (loop _ rfl))
theorem x9(Q:Stp F m H F' m' H')(r:Rel K F' H' m' S)(f:H p=none/\¬F' p/\p ∉ m'/\H' p=some (.lst xs)/\dg K F' H' k xs) :
  Stp F m H (λb=>F' b\/b=p) m' H'/\Rel K (λb=>F' b\/b=p) H' m' S/\RP K (λb=>F' b\/b=p) H' (.lst k) (.ref p):=by
 obtain⟨x,e,n,h,a⟩:=f;exact⟨Q.addF x,r.addF n (by rw[h];exact λz=>nomatch z),_,xs,rfl,⟨.inr rfl,h⟩,dg.kp (m:=m') Sx a⟩
theorem NO(B:BlockOk X G q j n)(c:X.c=true)
  (W:tw X tg iter f j n g fc fe) (hg:∀s H C e,PG (inn X G q s H C e) tg (gT X.K g)) (V:∀s H C e,PIfs (inn X G q s H C e) ifs fc) (Z:∀s H C e,PE (inn X G q s H C e) t (tV X.K fe))
  (o:closureFor G X.e=pure (om G X.e)) (hs:∀x,foldedSetIterable iter X.e x=pure x:=by intro _;rfl) :
  PE X (.ListComp t [⟨tg,iter,ifs,0⟩] G M) (tV X.K f):=by
 intro i s J H h I ⟨F,m,L,S,d,N,r,l,a,k⟩;rw[DV];obtain⟨wi,hi,W⟩:=W;obtain⟨ok,T,S1,ds,rfl,w,hw,K⟩:=W J H F m L S d N r l a;refine pc B c hi hg V Z o hs I r l hw w K λp F' m' H' sx C xs v Q r' f R P A D E hz=>?_
 obtain⟨mC,b⟩:=hz;obtain⟨u,y,z⟩:=x9 Q r' f;exact⟨mC,b,λh' sb=>⟨.ref p,H',v.letGo sb R P A D E,rfl,k _ _ m' H' u y z⟩⟩
@[simp] def Cs(f:EV)(L:Lc)(S:az):xg:=cf (f L S) λv h=>match v with
 | .lst d=>some (.ref h.length,h++[.lst (d.map .p)])
 |_=>none
theorem GI(Q:Stp F m H F' m' H')(r:Rel K F' H' m' S)(f:H p=none/\¬F' p/\p ∉ m'/\H' p=some (.lst xs)/\dg K F' H' ds xs) :
  Stp F m H F' (m'++[p]) H'/\Rel K F' H' (m'++[p]) (S++[.lst (ds.map .p)]):=by
 obtain⟨q,g,j,c,l⟩:=f;have d:Kp F' m' H' F' (m'++[p]) H':=⟨⟨[p],rfl⟩,λ_ h=>h,λ_ _ _ h=>h,λ_ _ h=>h⟩;have lt:∀{i:Nat}{a:Addr},(m'++[p])[i]? = some a->i < m'.length\/(i=m'.length/\a=p):=λ{i a} e=>by
  rcases A' i m'.length with h|h
  .exact .inl h
  .rw [ce h]at e;have v:i-m'.length=0:=by
    rcases Bg (i-m'.length) with z|z
    .exact z
    .rw [qM (by simp;lia)]at e;cases e
   rw[v]at e;exact .inr ⟨by lia,by simpa using e.symm⟩
 refine⟨⟨?_,Q.oth,Q.frz,Q.frk,Q.tup,Q.trk,Q.nf,λb t=>?_⟩,⟨by rw[bg,bg,r.len];rfl,?_,λi a o s x=>?_,λi a o s x w=>?_,λa k=>?_,r.ft⟩⟩
 .obtain⟨n,e⟩:=Q.pre;exact⟨n++[p],by rw[e,cR]⟩
 .rcases b9.mp t with t|t
  .exact Q.nm b t
  .have:b=p:=by simpa using t
   subst this;exact .inr q
 .rw [lT];refine⟨r.nd,by simp,λa k b t e=>?_⟩;have:b=p:=by simpa using t
  subst this;subst e;exact j k
 .rcases lt s with h|⟨h,rfl⟩
  .rw [bA h]at s;rw[bA (by rw[<- r.len];exact h)]at x;exact(r.obj i a o s x).kp d λu z=>z
  .subst h;rw[r.len,ce (ah _)]at x;simp at x;subst x;exact⟨xs,c,dO.ofP l⟩
 .rcases lt s with h|⟨h,rfl⟩
  .rw [bA h]at s;rw[bA (by rw[<- r.len];exact h)]at x;exact r.sep i a o s x w
  .exact g
 .rcases b9.mp k with k|k
  .exact r.trk a k
  .have:a=p:=by simpa using k
   subst this;rw[c];exact λz=>nomatch z
theorem KW(B:BlockOk X G q j n)(c:X.c=true)
  (W:tw X tg iter f j n g fc fe) (hg:∀s H C e,PG (inn X G q s H C e) tg (gT X.K g)) (hc:∀s H C e,PIfs (inn X G q s H C e) ifs fc) (he:∀s H C e,PE (inn X G q s H C e) t (tV X.K fe))
  (o:closureFor G X.e=pure (om G X.e)) (hs:∀x,foldedSetIterable iter X.e x=pure x:=by intro _;rfl) :
  PE X (.ListComp t [⟨tg,iter,ifs,0⟩] G M) (tE X.K (Cs f)):=by
 intro i s J H h I ⟨F,m,L,S,d,N,r,l,a,k⟩;rw[DV];obtain⟨v,z,A,a⟩:=ai a;obtain⟨wi,hi,W⟩:=W;obtain⟨ok,T,S3,ds,rfl,w,hw,D⟩:=W J H F m L S v z r l A;cases a;refine pc B c hi hg hc he o hs I r l hw w D λp F' m' H' sx C xs y Q u f hC E R V Z hz=>?_
 obtain⟨mC,b⟩:=hz;obtain⟨K,P⟩:=GI Q u f;refine⟨mC,b,λh' sb=>⟨.ref p,H',y.letGo sb hC E R V Z,rfl,k _ F' _ H' K P ⟨p,rfl,?_⟩⟩⟩;rw[<- u.len,ce (ah _)];simp
theorem NE(i:Nat)(hN:X.N.Nodup)(B:BlockOk X G q j n)(c:X.c=true)
  (W:tw X tg iter f j n g fc fe) (hg:∀s H C b,PG (inn X G q s H C b) tg (gT X.K g)) (hc:∀s H C b,PIfs (inn X G q s H C b) ifs fc) (he:∀s H C b,PE (inn X G q s H C b) t (tV X.K fe))
  (o:closureFor G X.e=pure (om G X.e)) (E:swapsWith (.ListComp t [⟨tg,iter,ifs,0⟩] G M) (some (.Name x px)) spos.line X.e=pure true:=by rfl)
  (hs:∀x,foldedSetIterable iter X.e x=pure x:=by intro _;rfl) (P:X.N[i]? = some x:=by rfl) (hx:Loc X.e.scope x:=by first|exact Or.inl rfl|exact Or.inr rfl)
  (hf:X.fn x=true\/X.e.scope.names.lookup x=some .local:=by first|exact .inl rfl|exact .inr rfl|assumption) :
  PS X (.Assign [.Name x px] (.ListComp t [⟨tg,iter,ifs,0⟩] G M) spos) (nh X.K (am i (U f))):=by
 intro z s J H D I ⟨F,m,L,S,fl,L',N,r,l,h,k⟩;obtain⟨d,S1,e1,h⟩:=ai h;cases h;obtain⟨v,S2,e2,e3⟩:=ai e1;cases e3;rw[exec_Assign_Name_used _ _ _ _ E];refine ac (yv (ac ?_));show wpAny _ _ (do let _ <- comprehension (.ListComp t [⟨tg,iter,ifs,0⟩] G M) G X.e _ (newList []) false (eval iter X.e) (some (assign (.Name x px) X.e))) _ _ s;obtain⟨wi,hi,W⟩:=W;obtain⟨ok,T,S3,ds,rfl,u,hw,e4⟩:=W J H F m L S v _ r l e2;refine ac (di (pc (use:=some (assign (.Name x px) X.e)) (k:=λ_ R=>SP X z D .next R) B c hi hg hc he o hs I r l hw u e4 λp F' m' H' sx C xs I' Z r0 f hC h0 h1 h2 h3 hz=>?_) (λ_ R hq=>aA (aA hq)) λ_ _ e=>e);obtain⟨mC,A⟩:=hz;obtain⟨Q,r',rp⟩:=x9 Z r0 f;refine D8 (ui I' hN P hx (v:=.ref p) rfl (λR K y=>?_) hf);refine⟨mC,?_,λh' sb=>⟨_,H',K.letGo sb hC h0 h1 h2 h3,k _ _ m' H' Q r' ((l.mono Q).set (d:=.p (.lst ds)) rp i)⟩⟩;obtain⟨a,V,w⟩:=y;refine A.sameBut V ?_;rcases w with w|w
 .rw [w];exact h1
 .exact aQ (h2 x a w)
end
end Ev
namespace Ev
open PySem PySem.Spec PyProof.Rows L2
section
variable{X:Cx}{a b e:Expr}{es:Ab}{C z:EV}{fs:lh}{N p:Pos}
noncomputable def x4:P->Option P
 | .int i=>some (.int (-i))
 |_=>none
theorem QR(f:PE X a (tV X.K C)):PE X (.UnaryOp .USub a N) (tV X.K (K2 x4 C)):=(Oy K3 f).imp' λJ H Q z=>by
 obtain⟨F,m,L,S,d,t,r,l,q,k⟩:=z;obtain⟨x,w,n,q⟩:=ai q;cases x with
 |int i=>cases q;exact⟨F,m,L,S,_,_,r,l,n,λv h b e s c p=>⟨i,p,k _ h b e s c rfl⟩⟩
 |_=>cases q
noncomputable def lF:List P->Option P
 | [.int i]=>some (.int i)
 | [.bl b]=>some (.int (if b then 1 else 0))
 |_=>none
theorem yU{K:FG}{F:Aa}{H:Hp}{d:P}{xs:List V}(r:dg K F H [d] xs):∃x,xs=[x]/\RP K F H d x:=by obtain⟨x,h,rfl,p,a⟩:=r;cases (show h=[] from a);exact⟨x,rfl,p⟩
theorem JF:fH X (.type "int") (rC X.K lF):=by
 intro B s J H xs u Q I r h;obtain⟨F,e,d,f,a,q,k⟩:=h;unfold lF at q;split at q
 .cases q;obtain⟨x,rfl,p⟩:=yU a;exact uK B s J H _ u Q I r (.inl ⟨_,by rw[show x=_ from p],k _ F H .refl rfl⟩)
 .cases q;obtain⟨x,rfl,p⟩:=yU a;exact uK B s J H _ u Q I r (.inr ⟨_,by rw[show x=_ from p],k _ F H .refl rfl⟩)
 .cases q
noncomputable def mB:EE:=λ_ S=>some (.ref S.length,S++[.dct [] []])
theorem Ep:PE X (.Dict [] [] N) (tE X.K mB):=Fs.imp' λJ H Q h=>by obtain⟨F,m,L,S,d,x,r,l,q,k⟩:=h;cases q;intro p hp;refine k (.ref p) F (m++[p]) _ (fu hp) (r.own hp ⟨[],aU,rfl,rfl⟩) ⟨p,rfl,?_⟩;rw[<- r.len,ce (ah _)];simp
noncomputable def pY(k:bG)(v:D):List bG->List D->List bG×List D
 |h::s,w::x=>if h=k then (h::s,v::x) else (h::(pY k v s x).1,w::(pY k v s x).2)
 |_,_=>([k],[v])
noncomputable def lw(d:D)(S:az):Option (Nat×List bG×List D):=match d with
 | .ref i=>match S[i]? with
  |some (.dct k T)=>some (i,k,T)
  |_=>none
 |_=>none
theorem wj(h:lw v S=some (i,u,T)):v=.ref i/\S[i]? = some (.dct u T):=by
 unfold lw at h;split at h
 .split at h
  .rename_i e;cases h;exact⟨rfl,e⟩
  .cases h
 .cases h
def pR(o:EE)(k v:EV):ES:=λL S=>cf (v L S) λy x=>cf (o L x) λd a=>cf (k L a) λz h=>match lw d h,cZ z with
 |some (i,s,T),some e=>if (s.Nodup/\few s=true) then some (.nx,L,h.set i (.dct (pY e (.p y) s T).1 (pY e (.p y) s T).2)) else none
 |_,_=>none
theorem ul{K:FG}{F:Aa}{H:Hp}{m:List Addr}{k:bG}{y:D}{u:V}(t:RD K F H m y u):∀{v:List (bG×V)}{s:List D},(v.map (·.1)).Nodup->dO K F H m s (v.map (·.2)) ->
  (putK v k u).map (·.1)=(pY k y (v.map (·.1)) s).1/\dO K F H m (pY k y (v.map (·.1)) s).2 ((putK v k u).map (·.2))
 | [],s,_,r=>by have:s=[]:=iX r.length;subst this;exact⟨rfl,u,[],rfl,t,rfl⟩
 |(h,w)::v,[],_,r=>by have:=r.length;simp at this
 |(h,w)::v,d::s,i,r=>by
  obtain⟨x,G,e,E,j⟩:=r;rw[aE]at e i;injection e with o S;subst o;subst S;obtain⟨p,g⟩:=b_.mp i;simp only[aE,pY];by_cases n:h=k
  .subst n;rw[aj rfl];have f:putK ((h,w)::v) h u=(h,u)::v:=by
    unfold putK;rw[aj (by simp)];rw[aE,aj rfl];congr 1;have:∀l:List (bG×V),h ∉ l.map (·.1)->l.map (λa=>if a.1=h then (a.1,u) else a)=l:=by
     intro l;induction l with
     |nil=>intro _;rfl
     |cons q l C=>
      intro b;rw[aE]at b;have P:¬q.1=h:=λz=>b (by rw[<- z];exact ar)
      rw[aE,al P,C λz=>b (ao _ z)]
    exact this v p
   rw[f];exact⟨rfl,u,_,rfl,t,j⟩
  .rw [al n];obtain⟨A,B⟩:=ul t g j;have f:putK ((h,w)::v) k u=(h,w)::putK v k u:=by
    unfold putK;rw[fP,cG (show ¬(h,w).1=k from n),qo];by_cases c:(v.any λa=>decide (a.1=k))=true
    .rw [aj c,aj c,aE,al (show ¬(h,w).1=k from n)]
    .rw [al c,al c];rfl
   rw[f,aE,aE,A];exact⟨rfl,w,_,rfl,E,B⟩
theorem QB{o i g:Expr}{h:EE}{r k:EV}{G:Pos}(hu:X.A.units+1 < cLine)(ho:PE X o (tE X.K h))(hi:PE X i (tV X.K r))(hv:PE X g (tV X.K k))(hs:swapsWith g (some (.Subscript o i G)) N.line X.e=pure false:=by rfl) :
  PS X (.Assign [.Subscript o i G] g N) (nh X.K (pR h r k)):=(BM hu ho hi hv hs).imp' λD J H hz=>by
 obtain⟨F,m,L,S,fl,L',S',e,l,q,s⟩:=hz;obtain⟨y,M,e1,q⟩:=ai q;obtain⟨d,Q,e2,q⟩:=ai q;obtain⟨z,R,e3,q⟩:=ai q;refine⟨F,m,L,S,y,M,e,l,e1,λv I m1 H1 u r1 p1=>?_⟩;refine⟨I,m1,L,M,d,Q,r1,l.mono u,e2,λx F2 m2 H2 K r2 p2=>?_⟩;refine⟨F2,m2,L,Q,z,R,r2,(l.mono u).mono K,e3,λw b p c P E p3=>?_⟩;cases B:lw d R with
 |none=>rw[B]at q;cases q
 |some t=>
  obtain⟨j,ks,T⟩:=t;rw[B]at q;cases A:cZ z with
  |none=>rw[A]at q;cases q
  |some f=>
   rw[A]at q;dsimp only at q;split at q
   .rename_i Z;cases q;obtain⟨rfl,es⟩:=wj B;obtain⟨a,rfl,C⟩:=RD.mono P p2;obtain⟨n,W,hk,rs⟩:=E.obj j a _ C es;subst hk;have pv:RD X.K b c p (.p y) v:=RD.mono P (RD.mono K (show RD X.K I H1 m1 (.p y) v from p1));obtain⟨h1,h2⟩:=ul (k:=f) pv Z.1 rs;cases (jo A p3);have nt:∀zs,c a≠some (.tup zs):=λzs z=>by rw[W]at z;cases z
    have st:Stp b p c b p (cx c a (.dK (putK n f v))):=gG E C es trivial nt;have hl:n.length < sizeLine:=by have V:(n.map (·.1)).length≤1000000:=bC Z.2;rw[aR]at V;exact lX V (by decide)
    refine⟨a,_,rfl,yi.k W hl,?_⟩;exact s J b p _ (u.trans (K.trans (P.trans st))) (E.set C es trivial nt ⟨_,aU,h1,dO.mono st h2⟩) (((l.mono u).mono K).mono (P.trans st))
   .cases q
end
section
variable{X:Cx}{a b c e:Expr}{es:Ab}{C z l:EV}{fs:lh}{N p:Pos}
abbrev zp:P->P->Option P:=SG
theorem OR(_:X.A.units+1 < cLine):p6 X (compareOp .Eq) zp:=Rv
@[simp] def fG(a:EV)(L:Lc)(S:az):CQ:=cf (a L S) λv h=>match v with
 | .lst xs=>some (xs,h)
 | .ro xs=>some (xs,h)
 | .tup xs=>some (xs,h)
 |_=>none
theorem iS{M iter:Expr}(h:PE X iter (tV X.K C)):PI X M iter (tI X.K (fG C)):=by
 intro B s J H R I ⟨F,m,L,S,T,W,r,l,q,k⟩;obtain⟨v,z,Z,q⟩:=ai q;refine dL (h B s J H (λx n=>∃c w,Stp F m H c w n/\Rel X.K c n w z/\RP X.K c n v x) I ⟨F,m,L,S,v,z,r,l,Z,λx c w n f A j=>⟨c,w,f,A,j⟩⟩) λu f P=>?_
 obtain⟨x,n,t,G,c,w,st,A,j⟩:=P;have mk:∀{D:It},Kz X.K D T c w n->z=W->R D n:=λit e=>by subst e;exact k _ c w n st A it
 have i:∀{a:Addr}{xs:List V},x=.ref a->gY X.K n a xs->R (PU X.K a) n->wx X (pyIter u) (PM X B J M R) X.xe f:=λ{a xs} e hq q=>by
  subst e;cases G;obtain⟨g,rv,p,P⟩:=t.list hq;refine yC p.isList ?_;refine⟨f.heap.objs.size,[f.heap.objs.size],_,_,n,rfl,t.kept (t':=f.toks) λb o e=>bD _ e,uh a _,⟨_,db _ rfl,rfl,rfl⟩,λb K=>?_,q⟩;have e:b=f.heap.objs.size:=by simpa using K
  subst e;exact t.fpOk (ah _) (t.h.fresh (ah _))
 cases v with
 |lst E=>cases q;obtain⟨a,xs,rfl,d,y⟩:=j;exact i rfl d.sq (mk (FY (λN m2 Q s=>(d.kp s.kp).sq) y) rfl)
 |ro E=>cases q;obtain⟨a,xs,rfl,d,y⟩:=j;exact i rfl d.sq (mk (FY (λN m2 Q s=>(d.kp s.kp).sq) y) rfl)
 |tup E=>
  cases q;obtain⟨a,xs,rfl,d,y⟩:=j;cases G;obtain⟨g,rv,pp,P⟩:=t.tuple d.sq;refine vb (show f.heap.IsTuple a g.toArray from pp) ?_;refine⟨f.heap.objs.size,[f.heap.objs.size],_,_,n,rfl,t.kept (t':=f.toks) λb o e=>bD _ e,yH a _,⟨_,db _ rfl,rfl,rfl⟩,λb K=>?_,mk (Mo d y) rfl⟩;have e:b=f.heap.objs.size:=by simpa using K
  subst e;exact t.fpOk (ah _) (t.h.fresh (ah _))
 |_=>cases q
end
section
variable{X:Cx}{N p:Pos}
end
noncomputable def cK:Nat->P->Bool
 |_,.non=>true
 |_,.bl _=>true
 |_,.int _=>true
 |_,.str x=>aq x
 |n+1,.tup xs=>xs.all (cK n)
 |n+1,.lst xs=>xs.all (cK n)
 |n+1,.ro xs=>xs.all (cK n)
 |_,_=>false
variable{n:Nat}
theorem rg:∀{s:List P},(∀d ∈ s,(pd d).canLay0=true/\(pd d).depth≤n)->u0 (jW s)=true/\uZ (jW s)≤n
 | [],_=>⟨rfl,cT _⟩
 |d::r,h=>by obtain⟨⟨p,a⟩,q⟩:=List.forall_mem_cons.mp h;obtain⟨x,e⟩:=rg q;exact⟨by simp only[jW,u0,p,x,Bool.and_self],by simp only[jW,uZ];lia⟩
theorem fU:∀(n:Nat)(p:P),cK n p=true->(pd p).canLay0=true/\(pd p).depth≤n
 |_,.non,_=>⟨rfl,cT _⟩
 |_,.bl _,_=>⟨rfl,cT _⟩
 |_,.int _,_=>⟨rfl,cT _⟩
 |n,.str x,h=>⟨by cases n<;>exact h,cT _⟩
 |n,.dct _ _,h=>by cases n<;>cases h
 |0,.tup _,h=>by cases h
 |0,.lst _,h=>by cases h
 |0,.ro _,h=>by cases h
 |n+1,.tup s,h=>by obtain⟨a,b⟩:=rg λd hd=>fU n d (bK.mp h d hd);exact⟨a,by simp only[pd,p_];lia⟩
 |n+1,.lst s,h=>by obtain⟨a,b⟩:=rg λd hd=>fU n d (bK.mp h d hd);exact⟨a,by simp only[pd,p_];lia⟩
 |n+1,.ro s,h=>by obtain⟨a,b⟩:=rg λd hd=>fU n d (bK.mp h d hd);exact⟨a,by simp only[pd,p_];lia⟩
theorem kB(h:cK 20 p=true):zI (pd p)=true:=by obtain⟨x,a⟩:=fU 20 p h;unfold zI;rw[x,Ai];exact jT (by lia)
section
variable{X:Cx}{B:PN}{J:L2.St}{H:Hp}{s:Shared}{F:Aa}
theorem jD(o:∀{p:P}{v:V}{u:Value},RP X.K F H p v->RelV v u->cK n p=true->∃a,Reads s.heap u (pd p) a) :
  ∀{k:List P}{xs:List V}{f:LV},dg X.K F H k xs->bc xs f->(∀d ∈ k,cK n d=true)->∃a,ReadsAll s.heap f (jW k) a
 | [],xs,f,r,v,_=>by cases (show xs=[] from r);cases v;exact⟨_,.nil⟩
 |d::k,xs,f,r,v,h=>by
  obtain⟨x,g,rfl,p,r⟩:=r;cases v with
  |cons t m=>obtain⟨a,q⟩:=o p t (h d (.head _));obtain⟨w,c⟩:=jD o r m λe b=>h e (.tail _ b);exact⟨_,.cons q c⟩
theorem jV(I:Inv X B J H s):∀(n:Nat){p:P}{v:V}{u:Value},RP X.K F H p v->RelV v u->cK n p=true->∃w,Reads s.heap u (pd p) w:=by
 intro n;induction n with
 |zero=>
  intro p v u r k h;cases p with
  |non=>cases (show v=.non from r);cases k;exact⟨_,.none⟩
  |bl b=>cases (show v=.bl b from r);cases k;exact⟨_,.bool b⟩
  |int i=>cases (show v=.int i from r);obtain⟨t,rfl⟩:=k;exact⟨_,.int i t⟩
  |str x=>cases (show v=.str x from r);obtain⟨t,rfl⟩:=k;exact⟨_,.str x t⟩
  |_=>simp[cK]at h
 |succ n y=>
  intro p v u r k h;cases p with
  |non=>cases (show v=.non from r);cases k;exact⟨_,.none⟩
  |bl b=>cases (show v=.bl b from r);cases k;exact⟨_,.bool b⟩
  |int i=>cases (show v=.int i from r);obtain⟨t,rfl⟩:=k;exact⟨_,.int i t⟩
  |str x=>cases (show v=.str x from r);obtain⟨t,rfl⟩:=k;exact⟨_,.str x t⟩
  |dct K T=>simp[cK]at h
  |tup z=>obtain⟨a,xs,rfl,l,j⟩:=r;cases k;obtain⟨g,f,⟨o,e,c,m,d⟩,S⟩:=I.tuple l.sq;obtain⟨w,q⟩:=jD y j f (by simpa[cK] using h);rw[pd];exact⟨w,reads_tuple_at e c d (by simpa using q)⟩
  |lst z=>obtain⟨a,xs,rfl,l,j⟩:=r;cases k;obtain⟨g,f,⟨o,m,e,c,_,d⟩,S⟩:=I.list l.sq;obtain⟨w,q⟩:=jD y j f (by simpa[cK] using h);rw[pd];exact⟨_,vd e c d (by simpa using q)⟩
  |ro z=>obtain⟨a,xs,rfl,l,j⟩:=r;cases k;obtain⟨g,f,⟨o,m,e,c,_,d⟩,S⟩:=I.list l.sq;obtain⟨w,q⟩:=jD y j f (by simpa[cK] using h);rw[pd];exact⟨_,vd e c d (by simpa using q)⟩
end
noncomputable def pV(f:D->Option P):List D->Option (List P)
 | []=>some []
 |d::r=>(f d).bind λv=>(pV f r).map λT=>v::T
def fJ(S:az):Nat->D->Option P
 |_,.p v=>some v
 |0,.ref _=>none
 |n+1,.ref i=>match S[i]? with
  |some (.lst d)=>(pV (fJ S n) d).map .lst
  |some (.fz v)=>some v
  |_=>none
@[simp] theorem vZ(S:az)(n:Nat)(v:P):fJ S n (.p v)=some v:=by cases n<;>rfl
theorem BZ(S:az)(n:Nat):∀T:List P,pV (fJ S n) (T.map .p)=some T
 | []=>rfl
 |v::r=>by simp[pV,BZ S n r]
section
variable{X:Cx}{B:PN}{J:L2.St}{H:Hp}{s:Shared}{F:Aa}{m:List Addr}{S:az}
theorem sG(o:∀{d:D}{v:V}{u:Value}{p:P},RD X.K F H m d v->RelV v u->fJ S n d=some p->cK a0 p=true->∃b,Reads s.heap u (pd p) b) :
  ∀{f:List D}{xs:List V}{c:LV}{k:List P},dO X.K F H m f xs->bc xs c->pV (fJ S n) f=some k->(∀d ∈ k,cK a0 d=true)->∃b,ReadsAll s.heap c (jW k) b
 | [],xs,c,k,r,v,q,_=>by cases (show xs=[] from r);cases v;cases q;exact⟨_,.nil⟩
 |d::f,xs,c,k,r,v,q,h=>by
  obtain⟨x,A,rfl,p,r⟩:=r;obtain⟨y,i,q⟩:∃a,fJ S n d=some a/\(pV (fJ S n) f).map (λT=>a::T)=some k:=by
   cases e:fJ S n d with
   |none=>simp[pV,e]at q
   |some a=>exact⟨a,rfl,by simpa[pV,e] using q⟩
  obtain⟨B,j,rfl⟩:∃a,pV (fJ S n) f=some a/\k=y::a:=by
   cases e:pV (fJ S n) f with
   |none=>rw[e]at q;cases q
   |some a=>rw[e]at q;cases q;exact⟨a,rfl,rfl⟩
  cases v with
  |cons z l=>obtain⟨b,g⟩:=o p z i (h y (.head _));obtain⟨K,t⟩:=sG o r l j λe w=>h e (.tail _ w);exact⟨_,.cons g t⟩
theorem e_(I:Inv X B J H s)(y:Rel X.K F H m S):∀(n k:Nat){d:D}{v:V}{u:Value}{p:P},RD X.K F H m d v->RelV v u->fJ S n d=some p->cK k p=true->∃b,Reads s.heap u (pd p) b:=by
 intro n;induction n with
 |zero=>
  intro k d v u p r x q h;cases d with
  |p w=>rw[vZ]at q;cases q;exact jV I k r x h
  |ref i=>cases q
 |succ n C=>
  intro k d v u p r x q h;cases d with
  |p w=>rw[vZ]at q;cases q;exact jV I k r x h
  |ref i=>
   obtain⟨a,rfl,g⟩:=r;have A:i < S.length:=by rw[<- y.len];exact(bL.mp g).1
   obtain⟨o,j⟩:∃o,S[i]? = some o:=⟨S[i],by simp[A]⟩;have l:=y.obj i a o g j;simp only[fJ,j]at q;cases o with
   |fz w=>cases q;exact jV I k l x h
   |dct M t=>cases q
   |ins _ _ _=>cases q
   |dtt _ _=>cases q
   |lst t=>
    dsimp only at q;cases e:pV (fJ S n) t with
    |none=>rw[e]at q;cases q
    |some Q=>
     rw[e]at q;cases q;cases k with
     |zero=>simp[cK]at h
     |succ k=>obtain⟨xs,K,G⟩:=l;cases x;obtain⟨E,f,⟨o,N,z,c,_,d⟩,L⟩:=I.list (gY.of K);obtain⟨b,q⟩:=sG (a0:=k) (λr x q h=>C k r x q h) G f e (by simpa[cK] using h);rw[pd];exact⟨_,vd z c d (by simpa using q)⟩
theorem nL(l:Rel X.K F H m S)(r:RD X.K F H m u v)(q:fJ S n u=some p)(hp:∀xs,p≠.lst xs/\p≠.tup xs):RP X.K F H p v:=by
 cases u with
 |p w=>rw[vZ]at q;cases q;exact r
 |ref i=>
  cases n with
  |zero=>cases q
  |succ n=>
   obtain⟨a,rfl,h⟩:=r;have s:i < S.length:=by rw[<- l.len];exact(bL.mp h).1
   obtain⟨o,x⟩:∃o,S[i]? = some o:=⟨S[i],by simp[s]⟩;have b:=l.obj i a o h x;simp only[fJ,x]at q;cases o with
   |fz w=>cases q;exact b
   |dct f d=>cases q
   |ins _ _ _=>cases q
   |dtt _ _=>cases q
   |lst d=>
    dsimp only at q;cases e:pV (fJ S n) d with
    |none=>rw[e]at q;cases q
    |some k=>rw[e]at q;cases q;exact absurd rfl (hp k).1
end
inductive rEI(K:FG)(g:D->D->az->Option P)(x:V)(y:V)(H:Hp)(Q:VK):Prop
 |mk (F:Aa) (m:List Addr) (S:az) (d:D) (e:D) (v:P) (h0_:Rel K F H m S) (h1_:RD K F H m d x) (h2_:RD K F H m e y) (h3_:g d e S=some v) (h4_:∀u F' H',Grow F H F' H'->RP K F' H' v u->Q u H'):rEI K g x y H Q
noncomputable def rE(K:FG)(g:D->D->az->Option P):R2:=λx y H Q=>rEI K g x y H Q
@[simp] def eC(g:D->D->az->Option P)(a b:EE)(L:Lc)(S:az):tyV:=cf (a L S) λx e=>cf (b L e) λy h=>(g x y h).map λv=>(v,h)
section
variable{X:Cx}{a b:Expr}{C z:EE}{N:Pos}
theorem BE(h:tV X.K (eC a0 C z) J H Q):La (rE X.K a0) (tE X.K C) (tE X.K z) J H Q:=by
 obtain⟨F,m,L,S,d,K,r,l,q,k⟩:=h;obtain⟨x,s,P,q⟩:=ai q;obtain⟨y,n,A,q⟩:=ai q;refine⟨F,m,L,S,x,s,r,l,P,λv p B M c I D=>?_⟩;refine⟨p,B,L,s,y,n,I,l.mono c,A,λu i f N t b E=>?_⟩;cases e:a0 x y n with
 |none=>rw[e]at q;cases q
 |some a=>rw[e]at q;cases q;exact⟨i,f,K,x,y,_,b,RD.mono t D,E,e,λw j o g G=>k w j f o (c.trans (t.trans g.stp)) (b.grow g) G⟩
theorem NP(o:ke X (compareOp u) (rE X.K v))(x:PE X a (tE X.K C))(e:PE X b (tE X.K z))(m:behindInMarks u b=false):PE X (.Compare a [u] [b] N) (tV X.K (eC v C z)):=
 (BR o x e m).imp' λ_ _ _ h=>BE h
theorem NF(o:ke X (compareOp op) (rE X.K u))(c:PE X a (tE X.K C))(t:PE X b (tE X.K z))(w:behindInMarks op b=false):PT X (.Compare a [op] [b] N) (tQ X.K (bV (eC u C z))):=
 (BL o c t w).imp' λJ H Q h=>by
  refine BE ?_;obtain⟨F,m,L,S,d,j,r,l,q,k⟩:=h;obtain⟨x,y,f,q⟩:=ai q;cases x with
  |bl b=>cases q;exact⟨F,m,L,S,_,_,r,l,f,λv e g n s i p=>⟨_,p,k e g n s i⟩⟩
  |_=>cases q
end
def zg(x y:P):Option Bool:=match zp x y with
 |some (.bl b)=>some b
 |_=>if (cK 20 x && cK 20 y)=true then some (bz (pd x) (pd y)) else none
def Dp(d e:D)(S:az):Option P:=(fJ S 9 d).bind λx=>(fJ S 9 e).bind λy=>(zg x y).map .bl
def FH(x y:P):Option Bool:=match MS x y with
 |some (.bl b)=>some b
 |_=>if (cK 20 x && cK 20 y)=true then some (!PyData.eqv (pd x) (pd y)) else none
def Kk(d e:D)(S:az):Option P:=(fJ S 9 d).bind λx=>(fJ S 9 e).bind λy=>(FH x y).map .bl
noncomputable def mD(c:D)(S:az):Option (List bG):=match c with
 | .p (.dct k _)=>some k
 | .ref i=>match S[i]? with
  |some (.dct k _)=>some k
  |some (.fz (.dct k _))=>some k
  |_=>none
 |_=>none
noncomputable def sQ(k:bG)(s:List bG):Bool:=s.any λh=>decide (h=k)
def Nf(d c:D)(S:az):Option Bool:=match mD c S with
 |some s=>(fJ S 9 d).bind λx=>(cZ x).map λk=>sQ k s
 |none=>none
def MD(d c:D)(S:az):Option P:=(Nf d c S).map .bl
noncomputable def cv:D->Bool
 | .p .non=>true
 |_=>false
def mj(d e:D)(_:az):Option P:=match e with
 | .p .non=>some (.bl (cv d))
 |_=>none
def cD(d e:D)(_:az):Option P:=match e with
 | .p .non=>some (.bl (!cv d))
 |_=>none
theorem zn(h:zp x v=some b):(∀xs,x≠.lst xs/\x≠.tup xs)/\∀xs,v≠.lst xs/\v≠.tup xs:=by
 refine⟨λxs=>⟨λe=>?_,λe=>?_⟩,λxs=>⟨λe=>?_,λe=>?_⟩⟩
 .subst e;cases v<;>cases h
 .subst e;cases v<;>cases h
 .subst e;cases x<;>cases h
 .subst e;cases x<;>cases h
section
variable{X:Cx}
theorem OQ(o:X.A.units+64 < cLine):ke X (compareOp .Eq) (rE X.K Dp):=by
 intro B s J H x y v u Q I j z h;obtain⟨F,m,S,d,e,r,l,g,i,q,k⟩:=h;unfold Dp at q;cases t:fJ S 9 d with
 |none=>rw[t]at q;cases q
 |some a=>
  rw[t]at q;cases p:fJ S 9 e with
  |none=>rw[p]at q;cases q
  |some b=>
   rw[p]at q;simp only[kl]at q;cases n:zg a b with
   |none=>rw[n]at q;cases q
   |some c=>
    rw[n]at q;cases q;unfold zg at n;split at n
    .rename_i G w;cases n;obtain⟨K,P⟩:=zn w;exact OR (by lia) B s J H x y v u Q I j z ⟨F,a,b,.bl c,l.ft,nL l g t K,nL l i p P,w,k⟩
    .split at n
     .rename_i f;rw[aD]at f;cases n;obtain⟨D,A⟩:=e_ I l 9 20 g j t f.1;obtain⟨E,C⟩:=e_ I l 9 20 i z p f.2;exact eq_dataH A C (kB f.1) (kB f.2) o ⟨.bl _,H,I,rfl,k _ F H .refl rfl⟩
     .cases n
theorem DB(h:MS x v=some b):(∀xs,x≠.lst xs/\x≠.tup xs)/\∀xs,v≠.lst xs/\v≠.tup xs:=by
 refine⟨λxs=>⟨λe=>?_,λe=>?_⟩,λxs=>⟨λe=>?_,λe=>?_⟩⟩
 .subst e;cases v<;>cases h
 .subst e;cases v<;>cases h
 .subst e;cases x<;>cases h
 .subst e;cases x<;>cases h
theorem OJ(o:X.A.units+64 < cLine):ke X (compareOp .NotEq) (rE X.K Kk):=by
 intro B s J H x y v u Q I j z h;obtain⟨F,m,S,d,e,r,l,g,i,q,k⟩:=h;unfold Kk at q;cases t:fJ S 9 d with
 |none=>rw[t]at q;cases q
 |some a=>
  rw[t]at q;cases p:fJ S 9 e with
  |none=>rw[p]at q;cases q
  |some b=>
   rw[p]at q;simp only[kl]at q;cases n:FH a b with
   |none=>rw[n]at q;cases q
   |some c=>
    rw[n]at q;cases q;unfold FH at n;split at n
    .rename_i G w;cases n;obtain⟨K,P⟩:=DB w;exact Rq B s J H x y v u Q I j z ⟨F,a,b,.bl c,l.ft,nL l g t K,nL l i p P,w,k⟩
    .split at n
     .rename_i f;rw[aD]at f;cases n;obtain⟨D,A⟩:=e_ I l 9 20 g j t f.1;obtain⟨E,C⟩:=e_ I l 9 20 i z p f.2;exact ne_dataH A C (kB f.1) (kB f.2) o ⟨.bl _,H,I,rfl,k _ F H .refl rfl⟩
     .cases n
theorem nN(x:P):∀xs:List P,(jW xs).any (λy=>bz y (pd x))=xs.any λy=>bz (pd y) (pd x)
 | []=>rfl
 |y::r=>by rw[jW,fP,fP,nN x r]
theorem FC(h:xs.all (cK 19)=true):u0 (jW xs)=true/\uZ (jW xs)≤20:=by have l:=fU 20 (.lst xs) h;simp only[pd,PyData.canLay0,p_]at l;have x:=l.2;exact⟨l.1,by lia⟩
theorem CP:(iq u v).isSome=sQ v (u.map (·.1)):=by
 induction u with
 |nil=>rfl
 |cons p r i=>
  unfold sQ at i ⊢;by_cases h:p.1=v
  .rw [jg h,aE,fP,jT h];rfl
  .rw [ip h,i,aE,fP,cG h];rfl
theorem GB{K:FG}{F:Aa}{H:Hp}{m:List Addr}{S:az}{c:D}{y:V}{n:List bG}(r:Rel K F H m S)(p:RD K F H m c y)(q:mD c S=some n):∃a k,y=.ref a/\H a=some (.dK k)/\k.map (·.1)=n:=by
 unfold mD at q;split at q
 .cases q;obtain⟨a,k,e,_,x,h,_⟩:=p;exact⟨a,k,e,x,h⟩
 .rename_i i;obtain⟨a,rfl,s⟩:=p;split at q
  .rename_i o;cases q;obtain⟨k,x,h,_⟩:=r.obj i a _ s o;exact⟨a,k,rfl,x,h⟩
  .rename_i o;cases q;obtain⟨b,k,e,_,x,h,_⟩:=r.obj i a _ s o;cases e;exact⟨a,k,rfl,x,h⟩
  .cases q
 .cases q
theorem ON(C:X.A.units+64 < cLine):ke X (compareOp .In) (rE X.K MD):=by
 intro B s J H x y v u Q I P A h;obtain⟨F,m,S,d,e,r,l,o,K,q,k⟩:=h;unfold MD Nf at q;cases c:mD e S with
 |some D=>
  rw[c]at q;dsimp only at q;cases f:fJ S 9 d with
  |none=>rw[f]at q;cases q
  |some a=>
   rw[f]at q;simp only[kl]at q;cases n:cZ a with
   |none=>rw[n]at q;cases q
   |some g=>rw[n]at q;cases q;obtain⟨b,i,rfl,w,p⟩:=GB l K c;have j:RP X.K F H a x:=nL l o f λxs=>⟨λz=>(by subst z;cases n),λz=>(by subst z;cases n)⟩;cases A;cases jo n j;exact RW (by lia) I (kZ.k w) P λE t=>⟨.bl _,H,t,rfl,by rw[CP,p];exact k _ F H .refl rfl⟩
 |none=>rw[c]at q;cases q
theorem OM:ke X (compareOp .Is) (rE X.K mj):=by
 intro B s J H x y v u Q I c t h;obtain⟨F,m,S,d,e,r,l,n,f,q,k⟩:=h;unfold mj at q;split at q
 .cases q;cases (show y=.non from f);refine LY B s J H x _ v u Q I c t ⟨rfl,?_⟩;have:decide (x=.non)=cv d:=by
   cases d with
   |ref i=>obtain⟨a,rfl,_⟩:=n;rfl
   |p w=>
    cases w with
    |non=>cases (show x=.non from n);rfl
    |bl b=>cases (show x=.bl b from n);rfl
    |int b=>cases (show x=.int b from n);rfl
    |str b=>cases (show x=.str b from n);rfl
    |_=>(obtain⟨a,xs,rfl,_⟩:=n;rfl)
  rw[this];exact k _ F H .refl rfl
 .cases q
theorem FA:ke X (compareOp .IsNot) (rE X.K cD):=by
 intro B s J H x y v u Q I c t h;obtain⟨F,m,S,d,e,r,l,n,f,q,k⟩:=h;unfold cD at q;split at q
 .cases q;cases (show y=.non from f);refine IX B s J H x _ v u Q I c t ⟨rfl,?_⟩;have:decide (x=.non)=cv d:=by
   cases d with
   |ref i=>obtain⟨a,rfl,_⟩:=n;rfl
   |p w=>
    cases w with
    |non=>cases (show x=.non from n);rfl
    |bl b=>cases (show x=.bl b from n);rfl
    |int b=>cases (show x=.int b from n);rfl
    |str b=>cases (show x=.str b from n);rfl
    |_=>(obtain⟨a,xs,rfl,_⟩:=n;rfl)
  rw[this];exact k _ F H .refl rfl
 .cases q
end
noncomputable def sR:List kY->List P->Lc->Option Lc
 | [],[],L=>some L
 |g::s,v::T,L=>match g v L with
  |some h=>sR s T h
  |none=>none
 |_,_,_=>none
def aP(g:List kY):kY:=λv L=>match v with
 | .tup T=>sR g T L
 |_=>none
theorem xP:∀{s:List kY}{T:List P}{L x:Lc},sR s T L=some x->T.length=s.length
 | [],[],_,_,_=>rfl
 | [],_::_,_,_,h=>by cases h
 |_::_,[],_,_,h=>by cases h
 |g::s,v::T,L,x,h=>by
  unfold sR at h;split at h
  .rw [aV,aV,xP h]
  .cases h
inductive gTsI(K:FG)(gs:List kY)(xs:List V)(J:L2.St)(H:Hp)(Q:L2.St->Hp->Prop):Prop
 |mk (F:Aa) (m:List Addr) (L:Lc) (vs:List P) (L':Lc) (h0_:RL K F H m J L) (h1_:dg K F H vs xs) (h2_:sR gs vs L=some L') (h3_:∀J',RL K F H m J' L'->Q J' H):gTsI K gs xs J H Q
noncomputable def TB(K:FG)(g:List kY):M7:=λxs J H Q=>gTsI K g xs J H Q
inductive GsOk(X:Cx):Ab->List kY->Prop where
 |nil:GsOk X [] []
 |cons {x:Str}{p:Pos}{es:Ab}{g:kY}{gs:List kY}:PG X (.Name x p) (gT X.K g)->GsOk X es gs->GsOk X (.Name x p::es) (g::gs)
section
variable{X:Cx}{N:Pos}
theorem ub:assignEach (.Name x p::es) v=(false,assign (.Name x p) v)::assignEach es v:=rfl
theorem GsOk.len(h:GsOk X es v)(e:Env):(assignEach es e).length=v.length/\(assignEach es e).findIdx? (·.1)=none:=by
 induction h with
 |nil=>exact⟨rfl,rfl⟩
 |cons _ _ i=>rw[ub];refine⟨by rw[aV,aV,i.1],?_⟩;simp only[vm,i.2];rfl
theorem GsOk.pgs(h:GsOk X es gs):PP X es (TB X.K gs):=by
 induction h with
 |nil=>
  intro B s J H xs u Q I a ⟨F,m,L,T,e,l,r,q,k⟩;cases T with
  |nil=>cases q;cases (show xs=[] from r);exact IS B s J H [] u Q I a ⟨rfl,k J l⟩
  |cons _ _=>cases q
 |cons g _ i=>
  intro B s J H xs u Q I a ⟨F,m,L,T,e,l,r,q,k⟩;cases T with
  |nil=>cases q
  |cons v T=>
   unfold sR at q;split at q
   .rename_i n f;obtain⟨x,c,rfl,p,r⟩:=r;refine Fk g i rfl B s J H _ u Q I a ⟨x,c,rfl,F,m,L,v,n,l,p,f,λt b=>?_⟩;exact⟨F,m,n,T,e,b,r,q,k⟩
   .cases q
theorem MB(c:X.c=true)(h:GsOk X es u):PG X (.Tuple es n N) (gT X.K (aP u)):=
 PG.imp' (LG c h.pgs (h.len _).1 (h.len _).2) λv J H Q z=>by
  obtain⟨F,m,L,d,x,l,p,q,k⟩:=z;cases d with
  |tup T=>obtain⟨a,xs,rfl,t,r⟩:=p;have e:=xP (show sR u T L=some x from q);exact⟨a,xs,rfl,t.sq,by rw[<- r.length];exact e,F,m,L,T,x,l,r,q,k⟩
  |_=>cases q
def JR(K:FG)(a:Addr):It:=
 ⟨λi H=>∃xs x,gY K H a xs/\xs[i]? = some x,λi H x h=>∃p y,x=.ref p/\H p=none/\h=cx H p (.tup [.int i,y])/\∀xs,gY K H a xs->xs[i]? = some y,λi H=>∃xs,gY K H a xs/\xs.length≤i⟩
theorem CS{P:Program}{w:World}{K:FG}{es:Ab}{n:Nat}(a e t:Addr)(C:e≠t):jR P w K (.Tuple es n N) (JR K a) [e,t] e (λi h=>(∃l,IsEnum h e t i l)/\h.IsListIter t a i) where
 mem:=by simp
 obj:=λi h st b p=>by
  obtain⟨⟨l,A⟩,⟨o,ho,c,d⟩⟩:=st;have:b=e\/b=t:=by simpa using p
  rcases this with rfl|rfl
  .exact⟨_,A,λv z=>by have z':Data.fields _=Data.cell v:=z;cases z'⟩
  .exact⟨o,ho,λv z=>by rw[d]at z;cases z⟩
 keep:=λi h h' st k=>by obtain⟨⟨l,A⟩,y⟩:=st;exact⟨⟨l,k e (by simp) _ A⟩,y.at λo q=>k t (by simp) o q⟩
 item:=by
  intro X hP hw hK f i B s J H E I T st hg;subst hP hw hK;obtain⟨xs,x,V,hx⟩:=hg;obtain⟨its,rv,pl,hz⟩:=I.list V;obtain⟨u,hu,ru⟩:=rv.get hx;obtain⟨⟨l,A⟩,y⟩:=st;obtain⟨f0,f1,f2,f3,f4,f5⟩:=T e (by simp);obtain⟨M,Q,g2,Z,g4,g5⟩:=T t (by simp);refine wpAny_pyNext_enum_item A y pl.isList (x:=u) (by simpa using hu) C λh1 ho1 G ht1 hz1 hk1=>?_
  refine⟨_,rfl,Ee (s:={ s with heap:=h1,toks:=s.toks+1 }) ho1 λR he2 F=>?_⟩;replace F:gx e h1 R:=F;have D:e < s.heap.objs.size:=aO A;have S:∀b o,b≠e->b≠t->s.heap.get? b=some o->R.get? b=some o:=λb o b1 b2 q=>(F.2 b b1).trans (hk1 b o b1 b2 q);have L:R.get? s.heap.objs.size=some { cls:=.type "tuple",data:=.seq #[.int i s.toks,u] }:=(F.2 _ (cm D)).trans ht1;have j:H s.heap.objs.size=none:=I.h.fresh (ah _);have W:∀{b:Addr}{o:HO},H b=some o->b≠e/\b≠t:=λ{b o} q=>⟨λz=>(by rw[z,f0]at q;cases q),λz=>(by rw[z,M]at q;cases q)⟩;have g:∀b,b ∉ [e,t]->b≠e/\b≠t:=λb p=>⟨λz=>p (by simp[z]),λz=>p (by simp[z])⟩;have I':Inv X B J (cx H s.heap.objs.size (.tup [.int i,x])) { s with heap:=R,gens:=s.gens,drawn:=s.drawn,toks:=s.toks+1 }:=by
   refine I.step (ch:=[e,t]) (λb p=>?_) (λb o _ _ f q _=>S b o (g b f).1 (g b f).2 q) (λb o _ _ f q _=>⟨o.slots,S b o (g b f).1 (g b f).2 q⟩) (λb o _ q n=>?_) (λb o f q=>⟨o,S b o (g b f).1 (g b f).2 q⟩)
    (λb ys q=>?_) (λb o ys q=>?_) (λb ps q=>⟨#[],?_⟩) (λm hm=>?_) (λb u' q=>?_) I.bare
   .have:b=e\/b=t:=by simpa using p
    rcases this with rfl|rfl
    .exact⟨f3,f1,f4,f5⟩
    .exact⟨Z,Q,g4,g5⟩
   .rw [aw (bB (aO q))];exact n
   .rw [aw (br q j)];exact q
   .rw [aw (br q j)];exact q
   .rw [aw (br q j),q];simp
   .obtain⟨o,es,ep,ho,r⟩:=hm;exact⟨o,es,ep,S _ o (aQ f1) (aQ Q) ho,r⟩
   .by_cases p:b=s.heap.objs.size
    .subst p;rw[aU]at q;cases q;exact⟨by show 2≤sizeLine;decide,[.int i s.toks,u],.cons ⟨_,rfl⟩ (.cons ru .nil),⟨_,L,⟨rfl,_,rfl⟩,rfl⟩⟩
    .rw [aw p]at q;refine(I.h b u' q).stay (λc v f z=>S c v ?_ ?_ z) (λc z=>by rw[aw (br z j)];exact z) λc ys z=>by rw[aw (br z j)];exact z
     .rcases f with rfl|f
      .exact (W q).1
      .exact (W f).1
     .rcases f with rfl|f
      .exact (W q).2
      .exact (W f).2
  refine⟨.ref s.heap.objs.size,_,I',rfl,⟨s.heap.objs.size,x,rfl,j,rfl,λys hy=>by rw[I.list_inj hy V];exact hx⟩,⟨⟨u,by simpa using he2⟩,G.at λo q=>(F.2 t (aQ C)).trans q⟩,λb p=>?_⟩;have hb':b=e\/b=t:=by simpa using p
  obtain⟨oi,hoi,_⟩:=id y;rcases hb' with rfl|rfl
  .rw [aw (bB D)];exact f0
  .rw [aw (bB (aO hoi))];exact M
 done:=by intro X hP hw hK f i B s J H E I T st hg;subst hP hw hK;obtain⟨xs,V,hx⟩:=hg;obtain⟨its,rv,pl,hz⟩:=I.list V;obtain⟨⟨l,A⟩,y⟩:=st;obtain⟨M,Q,g2,Z,g4,g5⟩:=T t (by simp);have hl:=rv.length;exact wpAny_pyNext_enum_end (I.o.hd f) A y pl.isList (by simp;lia) λh' eb=>⟨rfl,I.turned (t':=s.toks) (λb o p e=>eb b o p e) M Q Z g4 g5⟩
 self:=λ_ _ _ _ _ st h=>by obtain⟨⟨l,A⟩,_⟩:=st;exact va A h
noncomputable def bJ(k:Int):List P->List P
 | []=>[]
 |x::r=>.tup [.int k,x]::bJ (k+1) r
theorem mh:∀{T:List P}{k:Int}{i:Nat}{v:P},(bJ k T)[i]? = some v->∃x,T[i]? = some x/\v=.tup [.int (k+i),x]
 | [],_,_,_,h=>by simp[bJ]at h
 |x::r,k,0,v,h=>⟨x,rfl,by simpa[bJ] using h.symm⟩
 |x::r,k,i+1,v,h=>by obtain⟨y,a,e⟩:=mh (T:=r) (k:=k+1) (i:=i) (by simpa[bJ] using h);refine⟨y,by simpa using a,?_⟩;rw[e];congr 3;lia
theorem dD:∀(T:List P)(k:Int),(bJ k T).length=T.length
 | [],_=>rfl
 |_::r,k=>by rw[bJ,aV,aV,dD r]
@[simp] def RI(a:EV)(L:Lc)(S:az):CQ:=cf (a L S) λv h=>match v with
 | .lst xs=>some (bJ 0 xs,h)
 | .ro xs=>some (bJ 0 xs,h)
 |_=>none
theorem FZ{K:FG}{F:Aa}{m:List Addr}{H:Hp}{a:Addr}{T:List P}{xs:List V}(c:∀h n s,Stp F m H h n s->gY K s a xs)(r:dg K F H T xs):Kz K (JR K a) (bJ 0 T) F m H:=by
 intro h n s st;have q:=c h n s st;have l:=r.length;refine⟨λi v e=>?_,⟨xs,q,by rw[dD,l];exact ah _⟩⟩;obtain⟨d,b,rfl⟩:=mh e;obtain⟨x,k,p⟩:=r.get b;refine⟨⟨xs,x,q,k⟩,λz w y=>?_⟩;obtain⟨u,y,rfl,f,rfl,t⟩:=y;have:y=x:=by have:=t xs q;rw[k]at this;cases this;rfl
 subst this;refine⟨h,cw f,RP.newTup f ⟨_,_,rfl,?_,_,_,rfl,RP.mono st p,rfl⟩⟩;show V.int (i:Int)=V.int (0+(i:Int));rw[dq]
theorem iE{es:Ab}{n:Nat}{a:Expr}{C:EV}{p t:Pos}(hg:Gl X "enumerate")(hm:X.g "enumerate"=none)(ha:PE X a (tV X.K C))(E:starEach [a] X.e=[(false,eval a X.e)]):PI X (.Tuple es n N) (.Call (.Name "enumerate" p) [a] [] t) (tI X.K (RI C)):=by
 intro B s J H R I ⟨F,m,L,S,T,S',r,l,q,k⟩;obtain⟨v,P,e1,q⟩:=ai q;have hA:PA X [a] (tD X.K (bI C aY)):=G3 ha JM (by rw[E];rfl);refine Call_ (kE I hg hm An (kj (dL (hA t B s J H (λxs x=>∃f c,Stp F m H f c x/\Rel X.K f x c P/\dg X.K f x [v] xs) I ⟨F,m,L,S,[v],P,r,l,?_,λxs f c x h i o=>⟨f,c,h,i,o⟩⟩) λus h ⟨xs,x,d,M,f,c,st,i,o⟩=>?_) (by rw[E];rfl) rfl))
 .simp only[bI,aY,e1,av]
 obtain⟨x1,rfl,G⟩:=yU o;obtain⟨u,rfl,ru⟩:=vals1 M;have A:∀{a:Addr}{xs:List V},x1=.ref a->gY X.K x a xs->R (JR X.K a) x->wx X (call (.type "enumerate") [u]) (λv h=>wx X (pyIter v) (PM X B J (.Tuple es n N) R) X.xe h) X.xe h:=λ{a xs} e hq q=>by
  subst e;cases ru;obtain⟨its,M,pl,hz⟩:=d.list hq;refine call_enumerate_list pl.isList λh' D z hsz hk=>?_
  refine va D ?_;have w:∀b,h.heap.objs.size≤b->x b=none:=λb j=>d.h.fresh j;refine⟨h.heap.objs.size+1,[h.heap.objs.size+1,h.heap.objs.size],_,_,x,rfl,d.kept (t':=h.toks) hk,CS a _ _ (cm (i3 _)),⟨⟨_,D⟩,z⟩,λb j=>?_,q⟩;have y:b=h.heap.objs.size+1\/b=h.heap.objs.size:=by simpa using j
  rcases y with rfl|rfl
  .exact d.fpOk (kq _) (w _ (kq _))
  .exact d.fpOk (ah _) (w _ (ah _))
 cases v with
 |lst Z=>cases q;obtain⟨a,xs,rfl,g,K⟩:=G;exact A rfl g.sq (k _ f c x st i (FZ (λQ m2 W s=>(g.kp s.kp).sq) K))
 |ro Z=>cases q;obtain⟨a,xs,rfl,g,K⟩:=G;exact A rfl g.sq (k _ f c x st i (FZ (λQ m2 W s=>(g.kp s.kp).sq) K))
 |_=>cases q
end
open PySem.AutoSeq1 (wpAny_loadPart')
theorem GN(n:Nat):(jt n=true)=(n≤1000000):=by unfold jt;simp
variable{d:Type}{Q:d->Shared->Prop}
theorem Qh(h:c=false)(k:wpAny M A b Q E s):wpAny M A (if c=true then a else b) Q E s:=by rw[h,al b7];exact k
theorem Tw(h:c=true)(k:wpAny M A a Q E s):wpAny M A (if c=true then a else b) Q E s:=by rw[h,aj rfl];exact k
theorem xU(a:Array Value)(n:Nat):∀b:Array Value,((List.replicate n a).foldl (·++·) b).size=b.size+n * a.size:=by
 induction n with
 |zero=>intro b;simp
 |succ n i=>intro b;rw[dw,gE,i,Ax,qU];lia
theorem Ih(l:Addr)(i:Array Value)(n:Nat)(e:Option Addr)(k:Array (OV))(x:Int)(u:Tok)(c:-1000000 < x/\x < 1000000)(m:(i.isEmpty ||x == 1)=true) :
  Meets (Builtin.«tuple.__mul__» ⟨[.ref l,.int x u],[]⟩) (λ_ R s=>s.heap.get? l=some { cls:=.type "tuple",dict:=e,data:=.seq i n,slots:=k }/\R (.ok (.ret (Value.ref l))) s):=
 .of_wp λI w A R s h=>by
  obtain⟨hp,g,d,t,os⟩:=s;obtain⟨a,h⟩:=h;have f:=zG;have b:=zH
  wp_walk using mN a
  refine Qh (by rw[cG (by lia),cG (by lia)];rfl) ?_
  wp_walk using mN a
  exact⟨_,rfl,h⟩
theorem Ig(l:Addr)(i:Array Value)(n:Nat)(c:Option Addr)(q:Array (OV))(x:Int)(u:Tok)(H:-1000000 < x/\x < 1000000)(f:¬(i.isEmpty ||x == 1)=true)(z:i.size * x.toNat≤1000000) :
  Meets (Builtin.«tuple.__mul__» ⟨[.ref l,.int x u],[]⟩) (fun _ R s=>s.heap.get? l=some { cls:=.type "tuple",dict:=c,data:=.seq i n,slots:=q } /\
   R (.ok (.ret (Value.ref s.heap.objs.size))) { s with heap:=s.heap.push { cls:=Value.type "tuple",data:=Data.seq ((List.replicate x.toNat i).foldl (·++·) #[]) } }):=
 .of_wp λI w A R s h=>by
  obtain⟨hp,g,d,F,os⟩:=s;obtain⟨a,h⟩:=h;have y:=zG;have o:=zH
  wp_walk using mN a
  refine Qh (by rw[cG (by lia),cG (by lia)];rfl) ?_
  wp_walk using mN a
  have k:i.isEmpty=false:=by
   cases e:i.isEmpty with
   |false=>rfl
   |true=>rw[e]at f;simp at f
  by_cases b:x≤0
  .refine Tw (by rw[jT b];rfl) ?_;have m:x.toNat=0:=by lia
   rw[m]at h
   wp_walk using mN a
   exact⟨_,rfl,h⟩
  .refine Qh (by rw[cG b,k];rfl) ?_;have p:(i.size:Int) * x≤1000000:=by
    have:((i.size * x.toNat:Nat):Int)≤1000000:=by lia
    rw[zP,zQ (by lia)]at this;exact this
   have r:¬(i.size:Int) * x > (2 ^ 63-1) / 8:=by lia
   dsimp only;rw[al r];have S:(1000000:Int)≤(sizeLine:Int):=by decide
   refine Qh (show Hk _=false from cG (by lia)) ?_;have t:¬(qz (λv j=>v++j) #[] (List.replicate x.toNat i)).size > sizeLine:=by
    have e:=xU i x.toNat #[];rw[e];have:x.toNat * i.size≤1000000:=by rw[nE];exact z
    have:(1000000:Nat)≤sizeLine:=by decide
    simp only[be,qB];lia
   wp_walk using mN a
   exact⟨_,rfl,h⟩
theorem IB(a:Int)(t:Tok)(l:Addr)(i:Array Value)(n:Nat)(x:Option Addr)(e:Array (OV)) :
  Meets (Builtin.«int.__rmul__» ⟨[.int a t,.ref l],[]⟩) (λ_ R s=>s.heap.get? l=some { cls:=.type "tuple",dict:=x,data:=.seq i n,slots:=e }/\R (.ok (.ret Value.notImplemented)) s):=
 .of_wp λI w A R s h=>by
  obtain⟨hp,g,d,f,os⟩:=s;obtain⟨k,h⟩:=h
  wp_walk
  exact⟨_,rfl,h⟩
theorem C_:fillsNumberSlot (.type "tuple") "mul"=pure false:=
 PySem.fillsNumberSlot_seq (id:="tuple.__mul__") (r:=some (.builtin "tuple.__rmul__")) qh.lookup (by decide +kernel) Ad.lookup (by decide +kernel)
theorem Lr:seqRepeat? (.type "tuple")=pure (some (.builtin "tuple.__mul__")):=by unfold seqRepeat?;rw[Eb (T:="tuple") (name:="__mul__") (id:="tuple.__mul__") qh.lookup (by decide +kernel)];first|rfl|(rw[Eb (T:="tuple") (name:="__rmul__") (id:="tuple.__rmul__") Ad.lookup (by decide +kernel)];rfl)
section
variable{X:Cx}
theorem ze(i:LV)(k:Nat):(List.replicate k i.toArray).foldl (·++·) #[]=(List.replicate k i).flatten.toArray:=by
 have:∀(m:Nat)(b:LV),(List.replicate m i.toArray).foldl (·++·) b.toArray=(b++(List.replicate m i).flatten).toArray:=by
  intro m;induction m with
  |zero=>intro b;simp
  |succ m x=>intro b;rw[dw,gE,List.append_toArray,x,dw,hZ,cR]
 have h:=this k [];rw[cH]at h;exact h
theorem Bx(r:bc xs v):∀k:Nat,bc (List.replicate k xs).flatten (List.replicate k v).flatten
 |0=>.nil
 |k+1=>by rw[dw,dw,hZ,hZ];exact r.append (Bx r k)
theorem Mf(xs:List d)(k:Nat):(List.replicate k xs).flatten.length=xs.length * k:=by
 induction k with
 |zero=>rfl
 |succ k i=>rw[dw,hZ,bg,i,Ba];lia
def pJ:P->P->Option P
 | .tup xs,.int n=>if (jt (xs.length * n.toNat) && decide (n.natAbs < 1000000))=true then some (.tup (List.replicate n.toNat xs).flatten) else none
 |x,y=>wO x y
theorem L3:p6 X (binaryOp .Mult) pJ:=by
 intro B s J H x y v u Q I L M h;obtain⟨F,z,S,d,V,E,G,q,k⟩:=h;have f:wO z S=some d->wx X (binaryOp .Mult v u) (EP X B J Q) X.xe s:=λq=>OK B s J H x y v u Q I L M ⟨F,z,S,d,V,E,G,q,k⟩
 cases z with
 |tup j=>
  cases S with
  |int n=>
   simp only[pJ]at q;split at q
   .rename_i g;rw[aD,GN]at g;have Z:=bC g.2;cases q;obtain⟨a,xs,rfl,N,C⟩:=E;cases (show y=.int n from G);cases L;obtain⟨t,rfl⟩:=M;have K:=C.length;obtain⟨i,r,⟨o,e,c,m,D⟩,hz⟩:=I.tuple N.sq;have l:=r.length;obtain⟨oc,A,ot,os⟩:=o;dsimp only at c D;subst c D;refine Ed (T:="tuple") (U:="int") (by decide) ⟨_,e,rfl⟩ (λW=>rK W n t) C_ zS qf Lr zU.lookup
     (je qf (rK s n t) zT (zV _ _) (IB n t a i.toArray m A os) ⟨e,rfl,⟨_,e,rfl⟩,?_⟩)
    by_cases p:(i.toArray.isEmpty ||n == 1)=true
    .refine je qh ⟨_,e,rfl⟩ z_ (Ae _ _) (Ih a i.toArray m A os n t (by lia) p) ⟨e,⟨.ref a,H,I,rfl,k _ F H .refl ?_⟩⟩;have R:(List.replicate n.toNat j).flatten=j:=by
      rw[Aj]at p;rcases p with p|p
      .have:i=[]:=by simpa using p
       have:j=[]:=iX (by rw[K,l,this];rfl);subst this;simp
      .have:n=1:=by simpa using p
       subst this;simp
     rw[R];exact⟨a,xs,rfl,N,C⟩
    .refine je qh ⟨_,e,rfl⟩ z_ (Ae _ _) (Ig a i.toArray m A os n t (by lia) p (by rw[be,<- l,<- K];exact g.1)) ⟨e,?_⟩;rw[ze];have w:H s.heap.objs.size=none:=I.h.fresh (ah _);have P:(List.replicate n.toNat xs).flatten.length≤sizeLine:=by
      rw[Mf,<- K];exact aF g.1 (by decide)
     refine⟨.ref s.heap.objs.size,_,I.laid (t':=s.toks) (o:=.tup (List.replicate n.toNat xs).flatten) (λb ob q=>bD _ q) (ah _) ⟨P,_,Bx r n.toNat,pk.new _ _⟩,rfl,k _ F _ (cw w) (.newTup w (C.rep n.toNat))⟩
   .cases q
  |_=>exact f q
 |_=>exact f q
noncomputable def gb:List P->Option P
 | [.lst xs]=>some (.lst xs)
 | [.ro xs]=>some (.lst xs)
 | [.tup xs]=>some (.lst xs)
 |_=>none
noncomputable def bO:List P->Option P
 | [.lst xs]=>some (.tup xs)
 | [.ro xs]=>some (.tup xs)
 | [.tup xs]=>some (.tup xs)
 |_=>none
theorem GP:fH X (.type "list") (rC X.K gb):=by
  intro B s J H xs u Q I r h;obtain⟨F,b,d,c,f,q,k⟩:=h;unfold gb at q;split at q;all_goals first
    |(cases q;done)
    | (cases q
       obtain⟨x,rfl,p⟩:=yU f;obtain⟨a,y,rfl,t,n⟩:=p;first
         |exact kO B s J H _ u Q I r ⟨a,y,rfl,.inl t.sq,λl e=>k _ _ _ (cM e) (.newLst e n)⟩
         |exact kO B s J H _ u Q I r ⟨a,y,rfl,.inr t.sq,λl e=>k _ _ _ (cM e) (.newLst e n)⟩)
theorem DH:fH X (.type "tuple") (rC X.K bO):=by
  intro B s J H xs u Q I r h;obtain⟨F,b,d,c,f,q,k⟩:=h;unfold bO at q;split at q;all_goals first
    |(cases q;done)
    | (cases q
       obtain⟨x,rfl,p⟩:=yU f;obtain⟨a,y,rfl,t,n⟩:=p;first
         |exact mE B s J H _ u Q I r ⟨a,y,rfl,.inl ⟨t.sq,λl e=>k _ F _ (cw e) (.newTup e n)⟩⟩
         |exact mE B s J H _ u Q I r ⟨a,y,rfl,.inr ⟨t.sq,k _ F H .refl ⟨a,y,rfl,t,n⟩⟩⟩)
noncomputable def pN:List P->Option P
 | [.int i]=>some (.int (if i < 0 then -i else i))
 |_=>none
theorem JG:fH X (.builtin "abs") (rC X.K pN):=by
 intro B s J H xs u Q I r h;obtain⟨F,e,d,f,a,q,k⟩:=h;unfold pN at q;split at q
 .cases q;obtain⟨x,rfl,p⟩:=yU a;exact GO B s J H _ u Q I r ⟨_,by rw[show x=_ from p],k _ F H .refl rfl⟩
 .cases q
variable{e:Expr}{es:Ab}{fs:lh}{p N:Pos}
theorem KJ(g:Gl X "list")(m:X.g "list"=none)(a:PA X (e::es) (tD X.K fs))(x:starEach (e::es) X.e=(false,eval e X.e)::starEach es X.e)(h:(backTo N (starEach es X.e)).any (·.1)=false) :
  PE X (.Call (.Name "list" p) (e::es) [] N) (tV X.K (bS gb fs)):=yG GP g m qw a (by decide) (by decide) x h
theorem HW(g:Gl X "tuple")(m:X.g "tuple"=none)(a:PA X (e::es) (tD X.K fs))(x:starEach (e::es) X.e=(false,eval e X.e)::starEach es X.e)(h:(backTo N (starEach es X.e)).any (·.1)=false) :
  PE X (.Call (.Name "tuple" p) (e::es) [] N) (tV X.K (bS bO fs)):=yG DH g m HR a (by decide) (by decide) x h
theorem NI(g:Gl X "abs")(m:X.g "abs"=none)(a:PA X (e::es) (tD X.K fs))(x:starEach (e::es) X.e=(false,eval e X.e)::starEach es X.e)(h:(backTo N (starEach es X.e)).any (·.1)=false) :
  PE X (.Call (.Name "abs" p) (e::es) [] N) (tV X.K (bS pN fs)):=K1 JG g m HK a (by decide) (by decide) x h
@[simp] def gK(r:EE)(a:EV)(L:Lc)(S:az):xg:=cf (r L S) λd h=>match d8 d h with
 |none=>none
 |some _=>cf (a L h) λx e=>match d8 d e,x with
  |some (i,s),.lst y=>if jt (s.length+y.length)=true then some (.p .non,e.set i (.lst (s++y.map .p))) else none
  |_,_=>none
def wL(r:EE):EE:=λL S=>cf (r L S) λd h=>match d8 d h with
 |some (i,_)=>some (.p .non,h.set i (.lst []))
 |none=>none
end
section
variable{X:Cx}{o e:Expr}{h q:EE}{C:EV}{j t N:Pos}
theorem H0(ho:PE X o (tE X.K h))(he:PE X e (tV X.K C))(G:starEach [e] X.e=[(false,eval e X.e)])
  (f:attributeBase o "extend" X.e (eval o X.e)=eval o X.e) (c:(j.endLine == t.line)=true):PE X (.Call (.Attribute o "extend" j) [e] [] t) (tE X.K (gK h C)):=
 (Kc qj zY PySem.F.type_list_extend Db ho (fS he jk (by rw[G];rfl)) f (by rw[G];rfl) c (by rw[G];rfl) rfl).imp' λJ H Q hz=>by
  obtain⟨F,m,L,S,d,S',r,l,q,k⟩:=hz;obtain⟨x,D,e1,q⟩:=ai q;refine⟨F,m,L,S,x,D,r,l,e1,λv F1 m1 H1 Z V T=>?_⟩;cases E:d8 x D with
  |none=>rw[E]at q;cases q
  |some z=>
   obtain⟨i,ds⟩:=z;rw[E]at q;dsimp only at q;obtain⟨rfl,es⟩:=jE E;obtain⟨a,rfl,hm⟩:=id T;obtain⟨xs,hH,rs⟩:=V.obj i a _ hm es;refine⟨.inl ⟨rfl,xs,gY.of hH⟩,?_⟩;obtain⟨y,N,e2,q⟩:=ai q;refine⟨F1,m1,L,D,y,N,V,l.mono Z,e2,λu A I B s2 M p2=>?_⟩;cases s:d8 (.ref i) N with
   |none=>rw[s]at q;cases q
   |some z=>
    obtain⟨i2,ds2⟩:=z;rw[s]at q;obtain⟨e3,n⟩:=jE s;cases e3;cases y with
    |lst ys=>
     dsimp only at q;split at q
     .rename_i hf;cases q;obtain⟨a2,e4,p⟩:=RD.mono s2 T;cases e4;obtain⟨K,w,g⟩:=M.obj i a _ p n;obtain⟨b,P,rfl,tb,W⟩:=p2;have R:∀P,B a≠some (.tup P):=λP z=>by rw[w]at z;cases z
      have st:Stp A I B A I (cx B a (.lst (K++P))):=gG M p n trivial R;refine⟨a,b,K,P,rfl,rfl,w,tb.2,by rw[<- g.length,<- W.length];exact jK hf,?_⟩;exact k .non A I _ (Z.trans (s2.trans st)) (M.set p n trivial R ⟨_,aU,dO.mono st (g.append (dO.ofP W))⟩) rfl
     .cases q
    |_=>cases q
theorem KY(A:PE X o (tE X.K h))(b:attributeBase o "clear" X.e (eval o X.e)=eval o X.e)(n:(j.endLine == t.line)=true):PE X (.Call (.Attribute o "clear" j) [] [] t) (tE X.K (wL h)):=
 (LP qj zW PySem.F.type_list_clear FJ A b n).imp' λJ H Q B=>by
  obtain⟨F,m,L,S,d,E,r,l,q,k⟩:=B;obtain⟨x,g,P,q⟩:=ai q;refine⟨F,m,L,S,x,g,r,l,P,λv e w s D u C=>?_⟩;cases f:d8 x g with
  |none=>rw[f]at q;cases q
  |some z=>
   obtain⟨i,G⟩:=z;rw[f]at q;cases q;obtain⟨rfl,es⟩:=jE f;obtain⟨a,rfl,p⟩:=id C;obtain⟨xs,c,I⟩:=u.obj i a _ p es;have y:∀K,s a≠some (.tup K):=λK z=>by rw[c]at z;cases z
   have st:Stp e w s e w (cx s a (.lst [])):=gG u p es trivial y;refine⟨.inl ⟨rfl,xs,gY.of c⟩,a,xs,rfl,rfl,c,?_⟩;exact k .non e w _ (D.trans st) (u.set p es trivial y ⟨_,aU,rfl⟩) rfl
noncomputable abbrev pP:=Lc->az->Option (List D×az)
noncomputable abbrev N3:=Option (List D×az)
inductive tDsI(K:FG)(f:pP)(J:L2.St)(H:Hp)(Q:List V->Hp->Prop):Prop
 |mk (F:Aa) (m:List Addr) (L:Lc) (S:az) (ds:List D) (S':az) (h0_:Rel K F H m S) (h1_:RL K F H m J L) (h2_:f L S=some (ds,S')) (h3_:∀xs F' m' H',Stp F m H F' m' H'->Rel K F' H' m' S'->dO K F' H' m' ds xs->Q xs H'):tDsI K f J H Q
noncomputable def yj(K:FG)(f:pP):TA:=λJ H Q=>tDsI K f J H Q
@[simp] def j3(_L:Lc)(S:az):N3:=some ([],S)
@[simp] def cN(a:EE)(r:pP)(L:Lc)(S:az):N3:=cf (a L S) λx h=>cf (r L h) λxs e=>some (x::xs,e)
variable{es:Ab}{fs:pP}
theorem Ks:PA X [] (yj X.K j3):=jk.imp' λJ H Q h=>by obtain⟨F,m,L,S,d,x,r,l,q,k⟩:=h;cases q;exact k [] F m H .refl r rfl
theorem Gz(u:PE X e (tE X.K q))(g:PA X es (yj X.K fs))(i:starEach (e::es) X.e=(false,eval e X.e)::starEach es X.e):PA X (e::es) (yj X.K (cN q fs)):=
 (fS u g i).imp' λJ H Q z=>by obtain⟨F,m,L,S,d,t,r,l,h,k⟩:=z;obtain⟨x,a,p,h⟩:=ai h;obtain⟨xs,C,w,h⟩:=ai h;cases h;refine⟨F,m,L,S,x,a,r,l,p,λv f j B s P o=>?_⟩;refine⟨f,j,L,a,xs,t,P,l.mono s,w,λT b y c n A K=>?_⟩;exact k (v::T) b y c (s.trans n) A ⟨v,T,rfl,RD.mono n o,K⟩
def Cq(a:pP):EE:=λL S=>cf (a L S) λxs h=>if few xs=true then some (.ref h.length,h++[.lst xs]) else none
theorem NL(h:PA X es (yj X.K fs)):PE X (.List es N) (tE X.K (Cq fs)):=(yZ h).imp' λJ H Q z=>by
 obtain⟨F,m,L,S,d,w,r,l,q,k⟩:=z;obtain⟨xs,b,c,q⟩:=ai q;split at q
 .rename_i t;cases q;refine⟨F,m,L,S,xs,b,r,l,c,λT x a e v n s=>⟨by rw[<- s.length];exact lC t,λp hp=>?_⟩⟩;have f:Stp x a e x (a++[p]) (cx e p (.lst T)):=fu hp;refine k (.ref p) x (a++[p]) _ (v.trans f) (n.own hp ⟨T,aU,dO.mono f s⟩) ⟨p,rfl,?_⟩;rw[<- n.len,ce (ah _)];simp
 .cases q
noncomputable abbrev GF:=List D->az->Option (D×az)
inductive spRI(K:FG)(g:GF)(vs:List V)(H:Hp)(Q:VK):Prop
 |mk (F:Aa) (m:List Addr) (ds:List D) (S:az) (d:D) (S':az) (h0_:Rel K F H m S) (h1_:dO K F H m ds vs) (h2_:g ds S=some (d,S')) (h3_:∀v F' m' H',Stp F m H F' m' H'->Rel K F' H' m' S'->RD K F' H' m' d v->Q v H'):spRI K g vs H Q
noncomputable def sk(K:FG)(g:GF):Sp:=λT H Q _=>spRI K g T H Q
@[simp] def iI(g:GF)(a:pP)(L:Lc)(S:az):xg:=cf (a L S) λd h=>g d h
theorem K0(G:FnOk X.p X.w X.K X.g X.b tH u f fd ps (sk X.K a0))(A:Room u X.A)(o:Gl X x)(P:X.g x=some (.ref f))(K:iA X.K (.ref f)=true)(y:Binds X.K fd ps [])
  (j:PA X (e::es) (yj X.K fs)) (h:(x == ("__debug__":Str))=false) (z:starEach (e::es) X.e=(false,eval e X.e)::starEach es X.e) (a:(backTo N (starEach es X.e)).any (·.1)=false) :
  PE X (.Call (.Name x p) (e::es) [] N) (tE X.K (iI a0 fs)):=
 (wf G A o P K y .nil sB j h z a).imp' λJ H Q B=>by obtain⟨F,m,L,S,d,g,r,l,q,u⟩:=B;obtain⟨k,n,i,q⟩:=ai q;refine⟨F,m,L,S,k,n,r,l,i,λxs b C t s I p=>?_⟩;show sk X.K a0 (xs++[]) t Q E0;rw[eQ];exact⟨b,C,k,n,d,g,I,p,q,λv c D w R M E=>u v c D w (s.trans R) M E⟩
noncomputable def Dd(n:Nat):D->Bool
 | .p _=>true
 | .ref i=>decide (i < n)
def Me(n:Nat):SO->Bool
 | .lst d=>d.all (Dd n)
 | .dct _ d=>d.all (Dd n)
 | .fz _=>true
 | .ins _ _ d=>d.all (Dd n)
 | .dtt _ d=>d.all (Dd n)
def trunc(n:Nat)(S:az):az:=if (S.take n).all (Me n)=true then S.take n else S
@[simp] def cz(g:GF)(a:pP)(L:Lc)(S:az):tyV:=cf (a L S) λs h=>cf (g s h) λd x=>cf (toP 9 d x) λv e=>some (v,trunc h.length e)
end
section
variable{K:FG}{F:Aa}{H:Hp}{m:List Addr}{S:az}
theorem RD.low(h:RD K F H m u v)(l:Dd n u=true):RD K F H (m.take n) u v:=by
 cases u with
 |p w=>exact h
 |ref i=>obtain⟨a,e,x⟩:=h;exact⟨a,e,by rw[iW (bC l)];exact x⟩
theorem dO.low:∀{s:List D}{xs:List V},dO K F H m s xs->s.all (Dd n)=true->dO K F H (m.take n) s xs
 | [],_,h,_=>h
 |d::s,_,h,l=>by obtain⟨x,r,e,a,k⟩:=h;rw[dS,aD]at l;exact⟨x,r,e,a.low l.1,dO.low k l.2⟩
theorem Rel.trunc(r:Rel K F H m S)(l:n≤m.length)(h:(S.take n).all (Me n)=true):Rel K F H (m.take n) (S.take n) where
 len:=by rw[hY,hY,r.len]
 nd:=r.nd.sublist (AQ _ _)
 obj:=λi a o x t=>by
  have q:i < n:=by have:=(bL.mp x).1;rw[hY]at this;lia
  rw[iW q]at x;have lo:=bK.mp h o (aZ t);rw[iW q]at t;have p:=r.obj i a o x t;cases o with
  |lst d=>obtain⟨xs,s,b⟩:=p;exact⟨xs,s,b.low lo⟩
  |dct u d=>obtain⟨k,s,e,b⟩:=p;exact⟨k,s,e,b.low lo⟩
  |fz v=>exact p
  |ins c u d=>obtain⟨C,g,k,j,s,e,b⟩:=p;exact⟨C,g,k,j,s,e,b.low lo⟩
  |dtt u d=>obtain⟨k,s,e,b⟩:=p;exact⟨k,s,e,b.low lo⟩
 sep:=λi a o x t w f=>by
  have q:i < n:=by have:=(bL.mp x).1;rw[hY]at this;lia
  rw[iW q]at x t;exact r.sep i a o x t w f
 trk:=λa h=>r.trk a (nD h)
 ft:=r.ft
theorem Stp.trunc(s:Stp F m H u v H'):Stp F m H u (v.take m.length) H':=by
 obtain⟨n,e⟩:=s.pre;have x:v.take m.length=m:=by rw[e];simp
 rw[x];exact⟨⟨[],by simp⟩,s.oth,s.frz,s.frk,s.tup,s.trk,s.nf,λ_ h=>.inl h⟩
end
section
variable{X:Cx}{e:Expr}{es:Ab}{fs:pP}{N:Pos}
theorem HY(G:FnOk X.p X.w X.K X.g X.b tH u f fd ps (sk X.K a0))(hr:Room u X.A)(Z:Gl X x)(hm:X.g x=some (.ref f))(hk:iA X.K (.ref f)=true)(V:Binds X.K fd ps [])
  (T:PA X (e::es) (yj X.K fs)) (b:(x == ("__debug__":Str))=false) (W:starEach (e::es) X.e=(false,eval e X.e)::starEach es X.e) (w:(backTo N (starEach es X.e)).any (·.1)=false) :
  PE X (.Call (.Name x p) (e::es) [] N) (tV X.K (cz a0 fs)):=
 (wf G hr Z hm hk V .nil sB T b W w).imp' λJ H Q hz=>by
  obtain⟨F,m,L,S,d,S',r,l,q,u⟩:=hz;obtain⟨z,h,I,q⟩:=ai q;obtain⟨E,D,M,q⟩:=ai q;obtain⟨v1,a,R,q⟩:=ai q;cases q;refine⟨F,m,L,S,z,h,r,l,I,λxs B g C A K p1=>?_⟩;show sk X.K a0 (xs++[]) C Q E0;rw[eQ];refine⟨B,g,z,h,E,D,K,p1,M,λv F2 i y s2 r2 p2=>?_⟩;obtain⟨j,s3,P,l3,o⟩:=sg 9 R r2 p2;have st:=s2.trans s3;have s:=K.len;by_cases c:(a.take h.length).all (Me h.length)=true
  .have t:Ev.trunc h.length a=a.take h.length:=aj c;rw[t]at u;have k:g.length≤i.length:=by
    obtain⟨nn,e⟩:=st.pre;rw[e,bg];lia
   have rt:=P.trunc (n:=h.length) (by rw[<- s];exact k) c;refine u v j (i.take g.length) y (A.trans st.trunc) ?_ o;rw[s];exact rt
  .have t:Ev.trunc h.length a=a:=al c;rw[t]at u;exact u v j i y (A.trans st) P o
end
section
variable{X:Cx}{a b c e o i g:Expr}{C z l r k:EV}{h q:EE}{N G:Pos}
def tm (i:Expr):Prop:=∀(o:Expr) (N:Pos) (e:Env) (v:Value),assign (.Subscript o i N) e v=(do
 let h <- holding [v] (eval o e)
 let iv <- holding [v,h] (eval i e)
 standAt N
 holding [v,h,iv] (setItem h iv v)
 release [v,h,iv] [])
def xn(o:EE)(k v:EV):ES:=λL S=>cf (v L S) λy x=>cf (o L x) λd a=>cf (k L a) λz h=>match d8 d h,z with
 |some (i,s),.int n=>match B9 s.length n with
  |some j=>some (.nx,L,h.set i (.lst (s.set j (.p y))))
  |none=>none
 |_,_=>none
theorem dO.setAt{K:FG}{F:Aa}{H:Hp}{m:List Addr}{d:D}{v:V}(h:RD K F H m d v):∀{s:List D}{xs:List V}(j:Nat),dO K F H m s xs->dO K F H m (s.set j d) (xs.set j v)
 | [],_,_,r=>by cases (show _=([]:List V) from r);exact rfl
 |_::_,_,0,r=>by obtain⟨x,a,rfl,p,r⟩:=r;exact⟨v,a,rfl,h,r⟩
 |_::_,_,j+1,r=>by obtain⟨x,a,rfl,p,r⟩:=r;exact⟨x,_,rfl,p,dO.setAt h j r⟩
theorem Nz(ho:PE X o (tE X.K h))(hi:PE X i (tV X.K r))(hv:PE X g (tV X.K k))(hs:swapsWith g (some (.Subscript o i G)) N.line X.e=pure false)(hw:swappedStores [.Subscript o i G] g X.e=pure none)(B:tm i) :
  PS X (.Assign [.Subscript o i G] g N) (nh X.K (xn h r k)):=(Ff hv (LH ho hi ET (B o G X.e)) hs hw).imp' λD J H hz=>by
 obtain⟨F,m,L,S,fl,L',S',e,l,q,s⟩:=hz;obtain⟨y,Q,e1,q⟩:=ai q;obtain⟨d,R,e2,q⟩:=ai q;obtain⟨z,T,e3,q⟩:=ai q;refine⟨F,m,L,S,y,Q,e,l,e1,λv M W H1 p r1 p1=>?_⟩;refine⟨M,W,L,Q,d,R,r1,l.mono p,e2,λx F2 m2 H2 u r2 p2=>?_⟩;refine⟨F2,m2,L,R,z,T,r2,(l.mono p).mono u,e3,λw f c b K I p3=>?_⟩;cases A:d8 d T with
 |none=>rw[A]at q;cases q
 |some t=>
  obtain⟨j,ds⟩:=t;rw[A]at q;cases z with
  |int n=>
   dsimp only at q;cases P:B9 ds.length n with
   |none=>rw[P]at q;cases q
   |some E=>
    rw[P]at q;cases q;obtain⟨rfl,es⟩:=jE A;obtain⟨a,rfl,C⟩:=RD.mono K p2;obtain⟨xs,V,rs⟩:=I.obj j a _ C es;have pv:RD X.K f b c (.p y) v:=RD.mono K (RD.mono u (show RD X.K M H1 W (.p y) v from p1));cases (show w=.int n from p3);have Z:∀zs,b a≠some (.tup zs):=λzs z=>by rw[V]at z;cases z
    have st:Stp f c b f c (cx b a (.lst (xs.set E v))):=gG I C es trivial Z;refine⟨a,xs,n,E,rfl,rfl,V,by rw[<- rs.length];exact P,?_⟩;exact s J f c _ (p.trans (u.trans (K.trans st))) (I.set C es trivial Z ⟨_,aU,dO.mono st (dO.setAt pv E rs)⟩) (((l.mono p).mono u).mono (K.trans st))
  |_=>cases q
def fF(o:EE)(k v:EV):ES:=λL S=>match pR o k v L S with
 |some r=>some r
 |none=>xn o k v L S
theorem NA(j:X.A.units+1 < cLine)(d:PE X o (tE X.K h))(v:PE X i (tV X.K r))(u:PE X g (tV X.K k))(w:swapsWith g (some (.Subscript o i G)) N.line X.e=pure false)(hw:swappedStores [.Subscript o i G] g X.e=pure none)(t:tm i) :
  PS X (.Assign [.Subscript o i G] g N) (nh X.K (fF h r k)):=λB s J H D I x=>by
 obtain⟨F,m,L,S,b,n,f,a,l,q,e⟩:=x;cases c:pR h r k L S with
 |some z=>
  have p:some z=some (b,n,f):=by have:=q;unfold fF at this;rw[c]at this;exact this
  cases p;exact QB j d v u w B s J H D I ⟨F,m,L,S,b,n,f,a,l,c,e⟩
 |none=>
  have p:xn h r k L S=some (b,n,f):=by have:=q;unfold fF at this;rw[c]at this;exact this
  exact Nz d v u w hw t B s J H D I ⟨F,m,L,S,b,n,f,a,l,p,e⟩
@[simp] def oR(g n:P->P->Option P)(a b c:EV)(L:Lc)(S:az):tyV:=cf (a L S) λx e=>cf (b L e) λy h=>match g x y with
 |some (.bl true)=>cf (c L h) λz s=>(n y z).map λv=>(v,s)
 |some (.bl false)=>some (.bl false,h)
 |_=>none
theorem x_{g c:P->P->Option P}{J:L2.St}{H:Hp}{Q:VK}(h:tV X.K (oR g c C z l) J H Q):yM (rP X.K g) (rP X.K c) (tV X.K C) (tV X.K z) (tV X.K l) J H Q:=by
 obtain⟨F,m,L,S,d,S',r,a,q,k⟩:=h;obtain⟨x,o,e1,q⟩:=ai q;obtain⟨y,K,e2,q⟩:=ai q;refine⟨F,m,L,S,x,o,r,a,e1,λv N m1 H1 G r1 p1=>?_⟩;refine⟨N,m1,L,o,y,K,r1,a.mono G,e2,λu R i H2 I B A=>?_⟩;cases b:g x y with
 |none=>rw[b]at q;cases q
 |some e=>
  rw[b]at q;cases e with
  |bl t=>
   refine⟨R,x,y,_,B.ft,RP.mono I p1,A,b,λw f j p p3=>⟨t,p3,?_⟩⟩;have oS:Stp F m H f i j:=G.trans (I.trans p.stp);have D:=B.grow p;cases t with
   |false=>rw[al b7];cases q;exact k _ f i j oS D rfl
   |true=>
    rw[aj rfl];dsimp only at q;obtain⟨e,Z,e3,q⟩:=ai q;refine⟨f,i,L,K,e,Z,D,a.mono oS,e3,λw' T m4 H4 M E p4=>?_⟩;cases s:c y e with
    |none=>rw[s]at q;cases q
    |some z2=>rw[s]at q;cases q;exact⟨T,y,e,_,E.ft,RP.mono M (RP.grow p A),p4,s,λw2 V W n p5=>k w2 V m4 W (oS.trans (M.trans n.stp)) (E.grow n) p5⟩
  |_=>cases q
theorem KZ(n:p6 X (compareOp op) v)(o:p6 X (compareOp u) g')(x:PE X a (tV X.K C))(e:PE X b (tV X.K z))(s:PE X c (tV X.K l))(m:lastMarks [op,u] [b,c]=false) :
  PE X (.Compare a [op,u] [b,c] N) (tV X.K (oR v g' C z l)):=(Fv n o x e s m).imp' λ_ _ _ h=>x_ h
theorem KE(y:p6 X (compareOp op) u)(o:p6 X (compareOp op') g')(w:PE X a (tV X.K C))(g:PE X b (tV X.K z))(i:PE X c (tV X.K l))(j:lastMarks [op,op'] [b,c]=false) :
  PT X (.Compare a [op,op'] [b,c] N) (tQ X.K (bV (oR u g' C z l))):=(Fc y o w g i j).imp' λJ H Q h=>by
 refine x_ ?_;obtain⟨F,m,L,S,d,A,r,e,q,k⟩:=h;obtain⟨x,B,t,q⟩:=ai q;cases x with
 |bl b=>cases q;exact⟨F,m,L,S,_,_,r,e,t,λv n K f s P p=>⟨_,p,k n K f s P⟩⟩
 |_=>cases q
def yK:P->Option Bool
 | .non=>some false
 | .bl b=>some b
 | .int i=>some (i != 0)
 | .str x=>if jt x.length=true then some ((x.length:Int) != 0) else none
 | .tup xs=>some (!xs.isEmpty)
 | .lst xs=>some (!xs.isEmpty)
 | .ro xs=>some (!xs.isEmpty)
 | .dct k _=>some (!k.isEmpty)
def Ii:D->az->Option Bool
 | .p v,_=>yK v
 | .ref i,S=>match S[i]? with
  |some (.lst d)=>some (!d.isEmpty)
  |some (.dct k _)=>some (!k.isEmpty)
  |some (.fz v)=>yK v
  |_=>none
@[simp] def bT(f:EE)(L:Lc)(S:az):M':=cf (f L S) λd h=>(Ii d h).map λb=>(b,h)
theorem jH{xs:List d}{y:List L}(h:xs.length=y.length):xs.isEmpty=y.isEmpty:=by cases xs<;>cases y<;>first|rfl|simp at h
theorem BC(p:RP X.K F H w v)(h:yK w=some u):M5 X.K v H u:=by
 cases w with
 |non=>cases (show v=.non from p);cases h;rfl
 |bl b=>cases (show v=.bl b from p);cases h;rfl
 |int b=>cases (show v=.int b from p);cases h;rfl
 |str x=>
  cases (show v=.str x from p);simp only[yK]at h;split at h
  .rename_i c;cases h;exact⟨jK c,rfl⟩
  .cases h
 |tup d=>obtain⟨a,xs,rfl,t,r⟩:=p;cases h;exact .inr (.inl ⟨xs,t.sq,by rw[jH r.length]⟩)
 |lst d=>obtain⟨a,xs,rfl,t,r⟩:=p;cases h;exact .inl ⟨xs,t.sq,by rw[jH r.length]⟩
 |ro d=>obtain⟨a,xs,rfl,t,r⟩:=p;cases h;exact .inl ⟨xs,t.sq,by rw[jH r.length]⟩
 |dct n d=>obtain⟨a,k,rfl,_,s,e,r⟩:=p;cases h;exact .inr (.inr ⟨k,s,by rw[<- e];cases k<;>rfl⟩)
theorem yT(h:PE X e (tE X.K q))(D:∀o,isTrue e X.e o=(do let v <- o;standAt e.pos;holding [v] (truthy v))):PT X e (tQ X.K (bT q)):=
 (Fb h D).imp' λJ H Q E=>by
  obtain⟨F,m,L,S,d,M,r,l,s,k⟩:=E;obtain⟨x,P,B,s⟩:=ai s;cases n:Ii x P with
  |none=>rw[n]at s;cases s
  |some t=>
   rw[n]at s;cases s;refine⟨F,m,L,S,x,_,r,l,B,λv z G K I c i=>⟨_,?_,k z G K I c⟩⟩;cases x with
   |p w=>exact BC i n
   |ref j=>
    obtain⟨a,rfl,g⟩:=i;simp only[Ii]at n;split at n
    .rename_i A f;cases n;obtain⟨xs,u,y⟩:=c.obj j a _ g f;exact .inl ⟨xs,gY.of u,by rw[jH y.length]⟩
    .rename_i N A f;cases n;obtain⟨b,u,C,y⟩:=c.obj j a _ g f;exact .inr (.inr ⟨b,u,by rw[<- C];cases b<;>rfl⟩)
    .rename_i w f;exact BC (c.obj j a _ g f) n
    .cases n
@[simp] def xm(g:kY)(f:EV)(L:Lc)(S:az):BB:=cf (f L S) λv x=>match g v L with
 |some h=>some (.nx,h,x)
 |none=>none
theorem QA(p:PE X e (tV X.K C))(d:PG X tg (gT X.K u))(w:swapsWithSole [tg] e N.line X.e=pure false)(hw:swappedStores [tg] e X.e=pure none)(t:(assignEach [tg] X.e).map (·.2)=[assign tg X.e]) :
  PS X (.Assign [tg] e N) (nh X.K (xm u C)):=(Ff p d w hw t).imp' λD J H z=>by
 obtain⟨F,m,L,S,P,o,K,r,l,q,k⟩:=z;obtain⟨v,b,c,q⟩:=ai q;refine⟨F,m,L,S,v,b,r,l,c,λx h a n s y j=>?_⟩;cases g:u v L with
 |none=>rw[g]at q;cases q
 |some L2=>rw[g]at q;cases q;exact⟨h,a,L,v,_,l.mono s,j,g,λf i=>k f h a n s y i⟩
def lE:P->P->Option P
 | .tup [],.tup s=>some (.tup s)
 |x,y=>wP x y
theorem MX{M:Program}{w:World}{A:Around}{E:VP}{s:Shared}{t b:Addr}{a:LV}{Q:VP}(n:IsTup s.heap t #[])(e:IsTup s.heap b a.toArray)(h:Q (.ref b) s):wpAny (model M w) A (binaryOp .Add (.ref t) (.ref b)) Q E s:=by obtain⟨o,g,k,m,l⟩:=id n;obtain⟨p,x,f,r,c⟩:=id e;cases o;cases p;cases k;cases l;cases f;cases c;exact yq ⟨_,g,rfl⟩ ⟨_,x,rfl⟩ yz yt u5 u6 (u9 _ _) (tuple_addW0 t b #[] a.toArray m r _ _ _ _ rfl) ⟨g,x,h⟩
theorem L4:p6 X (binaryOp .Add) lE:=by
 intro B s J H x y v u Q I r m h;obtain⟨F,e,n,d,t,c,p,q,k⟩:=h;have o:wP e n=some d->wx X (binaryOp .Add v u) (EP X B J Q) X.xe s:=λq=>OS B s J H x y v u Q I r m ⟨F,e,n,d,t,c,p,q,k⟩
 cases e with
 |tup f=>
  cases n with
  |tup es=>
   cases f with
   |nil=>cases q;obtain⟨a,xs,rfl,S,z⟩:=c;obtain⟨b,C,rfl,K,A⟩:=id p;cases (show xs=[] from z);cases r;cases m;obtain⟨w,l,g,_⟩:=I.tuple S.sq;obtain⟨i,P,j,_⟩:=I.tuple K.sq;cases l;exact MX g j ⟨.ref b,H,I,rfl,k _ F H .refl p⟩
   |cons _ _=>exact o q
  |_=>cases f<;>exact o q
 |_=>exact o q
def zC(K:FG)(m:SV)(x:Str)(v:P):Prop:=∃u w,m x=some u/\RelV w u/\∀F H,RP K F H v w
theorem NM(g:Gl X x)(h:zC X.K X.g x v)(hd:(x == ("__debug__":Str))=false):PE X (.Name x N) (tV X.K (vC v)):=by obtain⟨u,w,m,r,p⟩:=h;exact xC (IV g m r hd) p
end
section
variable{X:Cx}{a:Expr}{C:EE}{p N:Pos}
end
noncomputable def jG(f:Str):LS->List D->Option D
 |k::h,d::s=>if k=f then some d else jG f h s
 |_,_=>none
noncomputable def putK(f:Str):LS->LS
 | []=>[f]
 |k::s=>if k=f then k::s else k::putK f s
noncomputable def tL(f:Str)(y:D):LS->List D->List D
 | [],_=>[y]
 |k::h,d::s=>if k=f then y::s else d::tL f y h s
 |_::_,[]=>[]
def kf(K:FG)(c:Str)(C:Addr):Prop:=nG K mainGlobals c=some (some (.ref C))
variable{K:FG}
theorem kf.inj(h:kf K c v)(x:kf K c u):v=u:=by have:=h.symm.trans x;cases this;rfl
def Qz(K:FG)(A:Str->Str->Bool):Prop:=∀c f,A c f=true->∃C,kf K c C/\Cls K C/\ng K C f
section
variable{K:FG}{F:Aa}{H:Hp}{m:List Addr}
theorem B2:∀{a:List (Str×V)}{s:List D}{d:D},dO K F H m s (a.map (·.2))->jG f (a.map (·.1)) s=some d->∃v,a.lookup f=some v/\RD K F H m d v
 | [],s,d,_,h=>by cases s<;>cases h
 |(k,x)::r,s,d,q,h=>by
  cases s with
  |nil=>cases h
  |cons w s=>
   obtain⟨y,u,e,t,p⟩:=q;simp only[aE,jx]at e;obtain⟨rfl,rfl⟩:=e;simp only[aE,jG]at h;split at h
   .rename_i n;cases h;subst n;exact⟨x,by simp[gB],t⟩
   .rename_i n;obtain⟨v,b,c⟩:=B2 p h;exact⟨v,by rw[qH,show(f == k)=false by simpa using λz=>n z.symm];exact b,c⟩
theorem B1:∀{v:List (Str×V)},(v.map (·.1)).contains f=false->v.lookup f=none
 | [],_=>rfl
 |(k,x)::r,h=>by simp only[aE,List.contains_cons,Ak]at h;rw[qH,h.1];exact B1 h.2
theorem E_(h:RD K F H m u v):∀{s:List (Str×V)}{d:List D},dO K F H m d (s.map (·.2))->(jO f v s).map (·.1)=putK f (s.map (·.1))/\dO K F H m (tL f u (s.map (·.1)) d) ((jO f v s).map (·.2))
 | [],d,n=>⟨rfl,v,[],rfl,h,rfl⟩
 |(k,x)::r,d,n=>by
  cases d with
  |nil=>cases (show _=([]:List V) from n)
  |cons p d=>
   obtain⟨z,q,e,c,a⟩:=n;simp only[aE,jx]at e;obtain⟨rfl,rfl⟩:=e;by_cases b:k=f
   .simp only[jO,b,mP,aE,putK,tL];first|exact⟨rfl,v,_,rfl,h,a⟩|exact⟨trivial,v,_,rfl,h,a⟩
   .obtain⟨i,t⟩:=E_ h a;simp only[jO,b,rV,aE,putK,tL];exact⟨by rw[i],x,_,rfl,c,t⟩
end
section
variable{X:Cx}{o e g:Expr}{f:Str}{N G j:Pos}{h k:EE}{A:Str->Str->Bool}{es:Ab}{fs:pP}
@[simp] def fh(A:Str->Str->Bool)(o:EE)(f:Str)(L:Lc)(S:az):xg:=cf (o L S) λd h=>match d with
 | .ref i=>match h[i]? with
  |some (.ins c k s)=>if A c f=true then (jG f k s).map λz=>(z,h) else none
  |_=>none
 |_=>none
theorem QX(D:Qz X.K A)(V:PE X o (tE X.K h))(I:attributeBase o f X.e (eval o X.e)=eval o X.e):PE X (.Attribute o f N) (tE X.K (fh A h f)):=(LO V I).imp' λJ H Q Z=>by
 obtain⟨F,m,L,S,d,S',r,l,q,k⟩:=Z;obtain⟨x,g,K,q⟩:=ai q;refine⟨F,m,L,S,x,g,r,l,K,λv t m1 u s1 b p1=>?_⟩;cases x with
 |p w=>cases q
 |ref i=>
  obtain⟨a,rfl,R⟩:=p1;dsimp only at q;split at q
  .rename_i c ks j W;split at q
   .rename_i G;cases s:jG f ks j with
    |none=>rw[s]at q;cases q
    |some z=>rw[s]at q;cases q;obtain⟨C,y,n,B,E,rfl,rs⟩:=b.obj i a _ R W;obtain⟨C',e,M,T⟩:=D c f G;cases kf.inj B e;obtain⟨v,P,p3⟩:=B2 rs s;exact⟨a,C,y,n,v,rfl,E,M,T,P,k v t m1 u s1 b p3⟩
   .cases q
  .cases q
@[simp] def pu(A:Str->Str->Bool)(o:EE)(f:Str)(v:EE)(L:Lc)(S:az):BB:=cf (v L S) λy x=>cf (o L x) λd h=>match d with
 | .ref i=>match h[i]? with
  |some (.ins c k s)=>if (A c f && decide (k.length < 900))=true then some (.nx,L,h.set i (.ins c (putK f k) (tL f y k s))) else none
  |_=>none
 |_=>none
theorem NB(hA:Qz X.K A)(ho:PE X o (tE X.K h))(hv:PE X g (tE X.K k))(n:swapsWith g (some (.Attribute o f G)) N.line X.e=pure false):PS X (.Assign [.Attribute o f G] g N) (nh X.K (pu A h f k)):=(LA ho hv n).imp' λD J H hz=>by
 obtain⟨F,m,L,S,fl,L',S',r,l,q,e⟩:=hz;obtain⟨y,Q,e1,q⟩:=ai q;obtain⟨d,S2,e2,q⟩:=ai q;refine⟨F,m,L,S,y,Q,r,l,e1,λv Z m1 H1 I r1 p1=>?_⟩;refine⟨Z,m1,L,Q,d,S2,r1,l.mono I,e2,λx b B t M E p2=>?_⟩;cases d with
 |p w=>cases q
 |ref i=>
  obtain⟨a,rfl,P⟩:=p2;dsimp only at q;split at q
  .rename_i c ks ds n;split at q
   .rename_i K;rw[aD]at K;cases q;obtain⟨C,u,s,R,T,rfl,rs⟩:=E.obj i a _ P n;obtain⟨C',j,hc,hn⟩:=hA c f K.1;cases kf.inj R j;have hl:s.length < 1000:=by have:=bC K.2;rw[aR]at this;lia
    have V:∀W,t a≠some (.tup W):=λW z=>by rw[T]at z;cases z
    have st:Stp b B t b B (cx t a (.ins C u (jO f v s))):=gG E P n trivial V;obtain⟨i1,i2⟩:=E_ (f:=f) (RD.mono st (RD.mono M p1)) (dO.mono st rs);exact⟨a,C,u,s,rfl,T,hc,hn,hl,e J b B _ (I.trans (M.trans st)) (E.set P n trivial V ⟨C,u,_,R,aU,i1,i2⟩) ((l.mono I).mono (M.trans st))⟩
   .cases q
  .cases q
@[simp] def fg(M:Str->Str->Option GF)(o:EE)(y:Str)(a:pP)(L:Lc)(S:az):xg:=cf (o L S) λd h=>match d with
 | .ref i=>match h[i]? with
  |some (.ins c k _)=>match M c y with
   |some g=>if k.contains y=true then none else cf (a L h) λT x=>g (.ref i::T) x
   |none=>none
  |_=>none
 |_=>none
def Qw(X:Cx)(M:Str->Str->Option GF):Prop:=∀c y g,M c y=some g->∃C k f d p,kf X.K c C/\Cls X.K C/\Meth X.K C y f/\FnOk X.p X.w X.K X.g X.b tH k f d p (sk X.K g)/\Room k X.A/\Binds X.K d p []
variable{M:Str->Str->Option GF}{y:Str}
theorem ur(hM:Qw X M){t:TE}{ta:TA}(b:∀C k f u j g,Cls X.K C->Meth X.K C y f->FnOk X.p X.w X.K X.g X.b tH k f u j (sk X.K g)->Room k X.A->Binds X.K u j []->PE X e (EK C y (sk X.K g) [] E0 (tE X.K h) (yj X.K fs))):PE X e (tE X.K (fg M h y fs)):=by
 intro B s J H Q I n;obtain⟨F,m,L,S,d,S',r,l,q,k⟩:=n;obtain⟨x,P,e1,q⟩:=ai q;cases x with
 |p w=>cases q
 |ref i=>
  dsimp only at q;split at q
  .rename_i c ks ds hs;split at q
   .rename_i g hg;split at q
    .cases q
    .rename_i hk;obtain⟨T,A,e2,q⟩:=ai q;obtain⟨C,kk,f,u,j,ec,hc,hm,hF,hr,hb⟩:=hM c y g hg;refine b C kk f u j g hc hm hF hr hb B s J H Q I ⟨F,m,L,S,.ref i,P,r,l,e1,λv R m1 H1 G E D=>?_⟩;obtain⟨a,rfl,o⟩:=id D;obtain⟨C',dx,K,z,hH,rfl,rs⟩:=E.obj i a _ o hs;cases kf.inj ec z;refine⟨a,dx,K,rfl,hH,B1 (by simpa using hk),R,m1,L,P,T,A,E,l.mono G,e2,λxs W m2 H2 N r2 p2=>?_⟩;show sk X.K g (V.ref a::(xs++[])) H2 Q E0;rw[eQ];exact⟨W,m2,.ref i::T,A,d,S',r2,⟨_,_,rfl,RD.mono N D,p2⟩,q,λv Z m3 H3 s3 r3 p3=>k v Z m3 H3 (G.trans (N.trans s3)) r3 p3⟩
   .cases q
  .cases q
theorem NJ(x:Qw X M)(n:PE X o (tE X.K h))(a:PA X (e::es) (yj X.K fs))(s:starEach (e::es) X.e=(false,eval e X.e)::starEach es X.e)(p:(backTo N (starEach es X.e)).any (·.1)=false)
  (q:eval (.Call (.Attribute o y j) (e::es) [] N) X.e=(do
   let v <- eval o X.e
   standAt j.atName
   let (f,first) <- holding [v] (getMethod v y u)
   callWith N f first (backTo N (starEach (e::es) X.e)) (backToKw N (keywordEach [] X.e)))) :
  PE X (.Call (.Attribute o y j) (e::es) [] N) (tE X.K (fg M h y fs)):=
 ur (t:=tE X.K h) (ta:=yj X.K fs) x λC k f d w g c m F r b=>IU n c m F r b .nil sB a s p q
theorem KP(z:Qw X M)(D:PE X o (tE X.K h))
  (G:eval (.Call (.Attribute o y j) [] [] N) X.e=(do
   let u <- eval o X.e
   standAt j.atName
   let (f,first) <- holding [u] (getMethod u y pl)
   callWith N f first (backTo N (starEach [] X.e)) (backToKw N (keywordEach [] X.e)))) :
  PE X (.Call (.Attribute o y j) [] [] N) (tE X.K (fg M h y j3)):=
 ur (t:=tE X.K h) (ta:=yj X.K j3) z λC k f fd ps g P B w E K=>(Fm D P B w E K .nil sB G).imp' λJ H Q x=>by obtain⟨F,m,L,S,d,b,r,l,q,k⟩:=x;refine⟨F,m,L,S,d,b,r,l,q,λv s R e s' Z V=>?_⟩;obtain⟨a,p,fs,rfl,i,A,n,T,L2,S2,ds,c,r2,l2,W,I⟩:=k v s R e s' Z V;cases W;exact⟨a,p,fs,rfl,i,A,I [] n T e .refl r2 rfl⟩
@[simp] def uE(g:GF)(c:Str)(a:pP)(L:Lc)(S:az):xg:=cf (a L S) λT h=>match g (.ref h.length::T) (h++[.ins c [] []]) with
 |some (.p .non,x)=>some (.ref h.length,x)
 |_=>none
theorem NK{C f:Addr}{o:FuncData}{K:LS}{k:Nat}{x:Str}{p:Pos}{g:GF}(M:Mk X.K C f)(G:FnOk X.p X.w X.K X.g X.b tH k f o K (sk X.K g))(hr:Room (k+1) X.A)(hg:Gl X x)(hm:X.g x=some (.ref C))(Z:kf X.K x C)(hb:Binds X.K o K [])
  (ha:PA X (e::es) (yj X.K fs)) (i:(x == ("__debug__":Str))=false) (he:starEach (e::es) X.e=(false,eval e X.e)::starEach es X.e) (z:(backTo N (starEach es X.e)).any (·.1)=false) :
  PE X (.Call (.Name x p) (e::es) [] N) (tE X.K (uE g x fs)):=
 (BQ M G hr hg hm hb .nil sB ha i he z).imp' λJ H Q hz=>by
  obtain⟨F,m,L,S,d,S',r,l,q,k⟩:=hz;obtain⟨T,t,R,q⟩:=ai q;refine⟨F,m,L,S,T,t,r,l,R,λxs s a b s1 P p1=>λy h hy w j=>?_⟩;split at q
  .rename_i _ S2 V;cases q;have A:Stp s a b s a (cx b h (.own y)):=jC w;have r2:Rel X.K s (cx b h (.own y)) a t:=P.new w;have u:cx b h (.own y) y=none:=by rw[aw (aQ j)];exact hy
   have B:Stp s a (cx b h (.own y)) s (a++[y]) (cx (cx b h (.own y)) y (.ins C h [])):=fu u;have r3:Rel X.K s (cx (cx b h (.own y)) y (.ins C h [])) (a++[y]) (t++[.ins x [] []]):=r2.own u ⟨C,h,[],Z,aU,rfl,rfl⟩;rw[eQ];have c:(a++[y])[t.length]? = some y:=by rw[<- P.len,ce (ah _)];simp
   refine⟨s,a++[y],.ref t.length::T,_,.p .non,_,r3,⟨_,_,rfl,⟨y,rfl,c⟩,dO.mono B (dO.mono A p1)⟩,V,λv E m4 I D r4 p4=>⟨p4,?_⟩⟩;refine k (.ref y) E m4 I (s1.trans (A.trans (B.trans D))) r4 ⟨y,rfl,?_⟩;obtain⟨n,W⟩:=D.pre;rw[W,bA (bL.mp c).1];exact c
  .cases q
end
theorem Mc(h:attributeBase o y v (eval o v)=eval o v)(e:methodCallForm (u.length+([]:List Keyword).length) (backTo N (starEach u v)) (backToKw N (keywordEach [] v))=true)(l:(j.endLine == N.line)=true) :
  eval (.Call (.Attribute o y j) u [] N) v=(do
   let ov <- eval o v
   standAt j.atName
   let (f,first) <- holding [ov] (getMethod ov y (do return (<- importBound o v).getD true))
   callWith N f first (backTo N (starEach u v)) (backToKw N (keywordEach [] v))):=by
 have x:methodCallPos true o v j N=pure N:=by unfold methodCallPos;rw[l];rfl
 have a:∀ov,methodCall o y j N v ov (u.length+([]:List Keyword).length) (backTo N (starEach u v)) (backToKw N (keywordEach [] v))=(do
   let (f,first) <- holding [ov] (getMethod ov y (do return (<- importBound o v).getD true))
   callWith N f first (backTo N (starEach u v)) (backToKw N (keywordEach [] v))):=λov=>by
  unfold methodCall;rw[e,x];rfl
 have s:eval (.Call (.Attribute o y j) u [] N) v=(do
  let ov <- attributeBase o y v (eval o v)
  standAt j.atName
  methodCall o y j N v ov (u.length+([]:List Keyword).length) (backTo N (starEach u v)) (backToKw N (keywordEach [] v))):=by rfl
 rw[s,h];simp only[a]
open PySem.W (KasT kas_sort kas_ask kas_item kat_run kat_snds kat_lt kat_kind KatTups KatLex kat_nil kat_cons kat_yes kat_no kat_one)
noncomputable def Ju{d:Type}(lt:Nat->Nat->Option Bool):KasT d->Option d
 | .ret a=>some a
 | .ask i j k=>match lt i j with
  |some b=>Ju lt (k b)
  |none=>none
theorem Gp{d:Type}{lt:Nat->Nat->Option Bool}{c:Nat->Nat->(Bool->Shared->Prop)->Shared->Prop}{Q:d->Shared->Prop}{s:Shared}(x:∀i j b C,lt i j=some b->C b s->c i j C s){a:d}(q:Q a s) :
  ∀(t:KasT d),Ju lt t=some a->t.kasWp c Q s
 | .ret _,h=>by cases h;exact q
 | .ask i j k,h=>by
  simp only[Ju]at h;split at h
  .rename_i b e;exact x i j b _ e (Gp x q (k b) h)
  .cases h
section
variable{I:Program}{w:World}{A:Around}{E:VP}{s:Shared}{D:Addr}{T:LV}
theorem xW(few:T.length < 2):((arrOf (SortSt.mk' general' (T.toArray.zip T.toArray) #[] 7 none)).map (·.2))=T.toArray:=by
 have same:(T.toArray.zip T.toArray).map (·.2)=T.toArray:=by
  rcases T with _|⟨v,_|⟨u,r⟩⟩
  .simp
  .simp
  .exact absurd few (by simp)
 exact same
theorem Go(few:T.length < 2)(a:s.heap.get? D=some (seqObj "list" T.toArray v))
  (g:∀x c,(∀b o,b≠D->s.heap.get? b=some o->x.get? b=some o)->x.get? D=some (seqObj "list" T.toArray c)->u (.done (.ret .none)) { s with heap:=x }) :
  wpAny (model I w) A (Builtin.«list.sort» ⟨[.ref D],[]⟩) u E s:=by
 have m:T.length+1≤sizeLine:=by rw[oJ];lia
 have cond:T.toArray.size < 2:=by simpa using few
 have h:=Ap a λ_=>(#[]:Array Value);rw[list_sort_plain];refine ac <|listItems_at a rfl <|ac <|Al a rfl (ac <|seqEpoch_at h rfl <|ac <|yw (ac <|DY (iB ?_) (cT _)) (by simpa using vA m)) (by simpa using vA m) (cT _);simp only[cond,mP];have k:∀b o,(s.heap.update D (kh λ_=>(#[]:Array Value))).get? b=some o->((((s.heap.update D (kh λ_=>(#[]:Array Value))).push { cls:=.type "tuple",data:=.seq T.toArray }).push { cls:=.type "list",data:=.seq ([]:LV).toArray })).get? b=some o:=
  λ_ _ q=>bD _ (bD _ q)
 have t:=k D _ h;refine ac <|aA <|ac <|aA ?_;refine ac <|seqEpoch_at t rfl <|ac <|Al t rfl ?_ (cT _) (by rw[xW few];simpa using Bf (vA m));rw[xW few];have Hc:=Ap t λ_=>T.toArray;simp only[bne_self_eq_false,Bool.false_eq_true,rV,failedOf];refine aA (g _ _ (λb o n e=>?_) Hc);exact((ni _ D _).2 b n).trans (k b o (((ni s.heap D _).2 b n).trans e))
theorem yg(q:∀a u,Q a u->v a u):∀(t:KasT d)(u:Shared),t.kasWp (kas_ask I w A κ T) Q u->t.kasWp (kas_ask I w A κ T) v u
 | .ret a,u,h=>q a u h
 | .ask _ _ k,_,h=>di h (λb u e=>yg q (k b) u e) λ_ _ x=>x
theorem Iv{f:Heap}{L l:Addr}{m:SV}{d:PN}{a:String}{o:Obj}{n:Nat}{G:VP}(F:Fr f L s.heap m)(N:News f L s.heap d)(hT:a="list"\/a="tuple")(ho:s.heap.get? l=some o)(hc:o.cls=.type a)(hd:o.data=.seq T.toArray n)(C:T.length < 64)
  (h1:T.length < 2->∀D g c,s.heap.get? D=none->Fr f L g m->News f L g ((D,seqObj "list" T.toArray c)::d)->G (.ref D) { s with heap:=g })
  (h2:2≤T.length->∀D e g,s.heap.get? D=none->(∀q ∈ d,q.1≠D)->Fr f L g m->News f L g ((D,seqObj "list" #[] e)::d) ->
   wpAny (model I w) A.in1.in1 (keyKind' T.toArray) (λV u=>(kas_sort T.length).kasWp (kas_ask I w A.in1.in1 V T) (λp u=>Bk f L m D e (p.toList.map λi=>T.getD i Value.none) (λu=>G (.ref D) u) u) u) (λ_ _=>False) { s with heap:=g }) :
  wpAny (model I w) A (call (.builtin "sorted") [.ref l]) G E s:=by
 have y:T.length≤sizeLine:=by rw[oJ];lia
 refine Calls.call_function_entry (b:=Builtin.«sorted») kind_sorted plain_sorted entry_sorted (args_sorted1 (.ref l)) (ac (m:=checkCount "sorted" 1 1 1) <|aA <|ac <|wpAny_collect_seq l hT ho hc hd (λh k=>ac <|DY ?_ y) y);have t:∀b,b=h.objs.size->s.heap.get? b=none:=λb hb=>by
  cases q:s.heap.get? b with
  |none=>rfl
  |some u=>exact absurd (aO (k b u q)) (by rw[hb];exact jA _)
 have R:∀b u,s.heap.get? b=some u->(h.push { cls:=.type "list",data:=.seq T.toArray }).get? b=some u:=λb u e=>bD _ (k b u e);have H:(h.push { cls:=.type "list",data:=.seq T.toArray }).get? h.objs.size=some (seqObj "list" T.toArray 0):=db _ rfl;have S:h.objs.size≠L:=λz=>by obtain⟨u,_,_,e,_⟩:=F.ns;rw[t L z.symm]at e;cases e
 have K:f.get? h.objs.size=none:=by
  rcases q:f.get? h.objs.size with _|u
  .rfl
  .have:=F.keep _ _ q;rw[t _ rfl]at this;cases this
 have neN:∀q ∈ d,q.1≠h.objs.size:=λq hq z=>by have:=(N q hq).1;rw[t _ z]at this;cases this
 have P:=F.keeps R;have B:=N.keeps R;refine ac (iB (oK (b:=Builtin.«list.sort») slot_list_sort ⟨_,H,rfl⟩ entry_list_sort ?_ (args_list_sort _)));by_cases few:T.length < 2
 .refine Go (s:={ s with heap:=h.push { cls:=.type "list",data:=.seq T.toArray } }) few H λg c Q e=>⟨_,rfl,aA ⟨_,rfl,h1 few _ g c (t _ rfl) ⟨?_,λb u q=>?_,F.above⟩ λq j=>?_⟩⟩
  .obtain⟨u,es,ep,Z,r⟩:=P.ns;exact⟨u,es,ep,Q L u S.symm Z,r⟩
  .exact Q b u (λz=>by rw[z,K]at q;cases q) (P.keep b u q)
  .rcases aW.mp j with rfl|j
   .exact⟨e,S,K⟩
   .exact⟨Q _ _ (neN q j) (B q j).1,(B q j).2⟩
 .refine PySem.W.kat_list_sort (s:={ s with heap:=h.push { cls:=.type "list",data:=.seq T.toArray } }) P B H S K neN (by lia) C λe g W X=>?_;refine di (h2 (by lia) _ e g (t _ rfl) neN W X) (λV u hu=>?_) λ_ _ x=>x;exact yg (λp v M=>M.mono λv M=>⟨_,rfl,aA ⟨_,rfl,M⟩⟩) _ _ hu
end
noncomputable def Rz:P->P->Option Bool
 | .tup [.str a,.int i],.tup [.str b,.int j]=>some (if a=b then decide (i < j) else decide (a.cps.toList < b.cps.toList))
 |_,_=>none
noncomputable def Jm:P->Bool
 | .tup [.str _,.int _]=>true
 |_=>false
theorem Jl(h:Jm v=true):∃a i,v=.tup [.str a,.int i]:=by
 unfold Jm at h;split at h
 .exact⟨_,_,rfl⟩
 .cases h
def nS(d:List P)(i j:Nat):Option Bool:=match d[i]?,d[j]? with
 |some x,some y=>Rz x y
 |_,_=>none
def pq(d:List P):Option (List P):=if d.length < 2 then some d else if d.length < 64 then (Ju (nS d) (kas_sort d.length)).bind λp=>if p.size < 64 then some (p.toList.map λi=>d.getD i .non) else none else none
def sortable(d:List P):Bool:=d.all Jm
def oq(d:List P):Option P:=if sortable d=true then (pq d).map .lst else none
def KV(h:Heap)(d:P)(v:Value):Prop:=∃x i a o n t u,d=.tup [.str x,.int i]/\v=.ref a/\h.get? a=some o/\o.cls=.type "tuple"/\o.data=.seq #[.str x t,.int i u] n
variable{L:Type}
theorem kA:∀{xs:List d}{s:List L}{i:Nat}{x:d},Paired R xs s->xs[i]? = some x->∃y,s[i]? = some y/\R x y
 |_,_,_,_,.nil,h=>by simp at h
 |_,_,0,x,.cons (b:=b) r _,h=>⟨b,rfl,by simp at h;subst h;exact r⟩
 |_,_,i+1,x,.cons _ a,h=>by obtain⟨y,e,r⟩:=kA (i:=i) a (by simpa using h);exact⟨y,by simpa using e,r⟩
theorem jj{d L:Type}{R:d->L->Prop}:∀{xs:List d}{y:List L},Paired R xs y->xs.length=y.length
 |_,_,.nil=>rfl
 |_,_,.cons _ r=>by rw[aV,aV,jj r]
section
variable{I:Program}{w:World}{A:Around}{E:VP}{s:Shared}
theorem JL{d:List P}{T:LV}{i j:Nat}{b:Bool}{C:Bool->Shared->Prop}(r:Paired (KV s.heap) d T)(h:nS d i j=some b)(c:C b s):kas_ask I w A (tuples' true) T i j C s:=by
 unfold nS at h;split at h
 .rename_i x y m t;obtain⟨_,u,l,p,o,D,K,G,M,rfl,rfl,g,S,n⟩:=kA r m;obtain⟨_,v,z,q,H,E,B,L,N,rfl,rfl,f,F,k⟩:=kA r t;cases h;unfold kas_ask;rw[ie,ie,u,v];refine kat_lt g n f k (kat_cons (D4 ?_));by_cases e:l=z
  .rw [aj e]at c;rw[jT e];refine kat_yes (kat_cons (D3 ?_));by_cases a:(p == q)=true
   .rw [a];rw[cG (by rw[eq_of_beq a];exact zO _)]at c;exact kat_yes (kat_nil c)
   .rw [Bool.not_eq_true]at a;rw[a];exact kat_no (kat_one _ _ (As (show PySem.W.BoolBack C (.bool _) s from c)))
  .rw [al e]at c;rw[cG e];exact kat_no (oneLt_str c)
 .cases h
theorem xK:∀{s:List P}{T:LV},Paired (KV a0) s T->∃fs,KatTups a0 T fs/\fs.length=s.length/\∀v ∈ fs,∃x t,v=Value.str x t
 |_,_,.nil=>⟨[],.nil,rfl,λ_ z=>nomatch z⟩
 |d::s,_,.cons k r=>by
  obtain⟨fs,f,h,e⟩:=xK r;obtain⟨x,i,a,o,n,t,u,rfl,rfl,b,c,hd⟩:=k;refine⟨.str x t::fs,.cons (xs:=#[.str x t,.int i u]) b c hd rfl f,by rw[aV,aV,h],λv m=>?_⟩;rcases aW.mp m with rfl|m
  .exact⟨x,t,rfl⟩
  .exact e v m
theorem Jg{d:List P}{T:LV}(r:Paired (KV s.heap) d T)(m:2≤T.length) :
  wpAny (model I w) A (keyKind' T.toArray) (λk h=>h=s/\∀i j b C,nS d i j=some b->C b h->kas_ask I w A k T i j C h) (λ_ _=>False) s:=by
 obtain⟨fs,f,x,a⟩:=xK r;refine kat_kind (T:=.type "str") f (by rw[x,jj r];lia) (λv n=>?_) rfl ⟨rfl,λi j b C e c=>JL r e c⟩;obtain⟨i,t,rfl⟩:=a v n;exact PySem.W.Looks.of_peek (K:=[]) (λ_ _ z=>nomatch z) rfl
end
section
variable{X:Cx}
theorem FU{B:PN}{J:L2.St}{H:Hp}{s:Shared}(I:Inv X B J H s){F:Aa}:∀{e:List P}{xs:List V}{k:LV},dg X.K F H e xs->bc xs k->sortable e=true->Paired (KV s.heap) e k
 | [],_,_,h,r,_=>by cases (show _=([]:List V) from h);cases r;exact .nil
 |d::e,_,_,h,r,q=>by
  obtain⟨x,C,rfl,v,w⟩:=h;obtain⟨g,l⟩:=Bool.and_eq_true_iff.mp (show(Jm d && sortable e)=true from q);cases r with
  |cons z S=>refine .cons ?_ (FU I w S l);obtain⟨y,i,rfl⟩:=Jl g;obtain⟨a,D,rfl,A,_,_,rfl,f,_,_,rfl,b,c⟩:=v;cases z;cases f;cases b;cases c;obtain⟨j,K,⟨o,p,m,n,hd⟩,_⟩:=I.tuple A.sq;obtain⟨_,_,rfl,⟨t,rfl⟩,u,rfl⟩:=vals2 K;exact⟨y,i,a,o,n,t,u,rfl,rfl,p,m,hd⟩
theorem NW(r:bc xs v)(i:Nat):RelV (xs.getD i .non) (v.getD i Value.none):=by
 rw[ie,ie];cases e:xs[i]? with
 |none=>
  have l:=jj r;have:v[i]? = none:=by rw[A4]at e ⊢;lia
  rw[this];rfl
 |some x=>obtain⟨y,h,a⟩:=kA r e;rw[h];exact a
theorem By{xs:List V}{t:LV}(r:bc xs t):∀p:List Nat,bc (p.map λi=>xs.getD i .non) (p.map λi=>t.getD i Value.none)
 | []=>.nil
 |i::p=>.cons (NW r i) (By r p)
theorem E5{K:FG}{F:Aa}{H:Hp}{s:List P}{xs:List V}(r:dg K F H s xs):∀p:List Nat,dg K F H (p.map λi=>s.getD i .non) (p.map λi=>xs.getD i .non)
 | []=>rfl
 |i::p=>by
  refine⟨_,_,rfl,?_,E5 r p⟩;show RP K F H (s.getD i P.non) (xs.getD i V.non);rw[ie,ie];cases e:s[i]? with
  |none=>
   have l:=r.length;have:xs[i]? = none:=by rw[A4]at e ⊢;lia
   rw[this];rfl
  |some d=>obtain⟨x,h,a⟩:=r.get e;rw[h];exact a
theorem uB{B:PN}{J:L2.St}{H:Hp}{s:Shared}{r:Heap}{A:Nat}{m:SV}(I:Inv X B J H s)(y:s.heap.Ns X.e.locals m)(a:r.Ns X.e.locals m)(k:∀b o,b≠X.e.locals->s.heap.get? b=some o->r.get? b=some o):Inv X B J H { s with heap:=r,toks:=A }:=by
 have L:∀b u,H b=some u->b≠X.e.locals:=λb u e z=>by rw[z,I.free]at e;cases e
 refine I.step (g':=s.gens) (d':=s.drawn) (ch:=[]) (λ_ z=>nomatch z) (λb o h _ _ e _=>k b o h e) (λb o h _ _ e _=>⟨o.slots,k b o h e⟩) (λ_ _ _ _ n=>n) (λb o _ e=>?_) (λ_ _ e=>e) (λ_ _ _ e=>e) (λb G e=>⟨#[],by rw[e];simp⟩) (λK l=>?_) (λb u e=>?_) I.bare
 .by_cases h:b=X.e.locals
  .subst h;obtain⟨P,_,_,w,_⟩:=a;exact⟨P,w⟩
  .exact⟨o,k b o h e⟩
 .obtain⟨o,es,C,S,hd,D,t⟩:=y;obtain⟨E,i,g,f,d,F,p⟩:=l;rw[S]at f;cases f;rw[hd]at d;cases d;have:m=K:=funext λx=>(t x).symm.trans (p x);rw[<- this];exact a
 .refine (I.h b u e).stay (λc v j q=>k c v ?_ q) (λ_ q=>q) λ_ _ q=>q;rcases j with z|z
  .rw [z];exact L b u e
  .exact L c _ z
theorem xJ{g h x:Heap}{L:Addr}{m:SV}(k:∀b o,g.get? b=some o->h.get? b=some o)(F:Fr g L x m)(N:News g L x (oE g h L)):∀b o,b≠L->h.get? b=some o->x.get? b=some o:=λb o a e=>by
 cases q:g.get? b with
 |some u=>have:=k b u q;rw[e]at this;cases this;exact F.keep b _ q
 |none=>exact(N (b,o) (xI a q e)).1
theorem L9{P:Program}{w:World}{H:Hp}{h:Heap}{a:Addr}{o:HO}(x:eB P w H h a o):∃u,h.get? a=some u:=by
 cases o with
 |lst xs=>obtain⟨_,_,_,_,e⟩:=x;exact⟨_,e⟩
 |tup xs=>obtain⟨_,_,_,_,e,_⟩:=x;exact⟨_,e⟩
 |dK k=>obtain⟨_,_,_,_,_,_,_,e,_⟩:=x;exact⟨_,e⟩
 |dT k=>obtain⟨_,_,_,_,_,_,_,e,_⟩:=x;exact⟨_,e⟩
 |set S n=>obtain⟨_,_,_,_,e,_⟩:=x;exact⟨_,e⟩
 |ins C d fs=>obtain⟨_,_,_,e,_⟩:=x;exact⟨_,e⟩
 |own y=>exact x
 |xd fs=>obtain⟨_,⟨_,_,_,e,_⟩,_⟩:=x;exact⟨_,e⟩
 |rng lo i=>obtain⟨_,_,_,e⟩:=x;exact⟨_,e⟩
 |frz b u=>exact⟨_,x.1⟩
 |tbl p=>exact⟨_,(show h.get? a=some _ from x)⟩
 |met f y=>exact⟨_,(show h.get? a=some _ from x)⟩
 |ext s=>exact x.2.1
theorem F_{B:PN}{J:L2.St}{H:Hp}{s:Shared}{D:Addr}(I:Inv X B J H s)(h:s.heap.get? D=none):H D=none:=by
 cases q:H D with
 |none=>rfl
 |some v=>obtain⟨u,e⟩:=L9 (I.h D v q);rw[h]at e;cases e
theorem Dj{B:PN}{J:L2.St}{H:Hp}{s:Shared}{t:Heap}{S:Nat}{m:SV}{D:Addr}{u:HO}(I:Inv X B J H s)(y:s.heap.Ns X.e.locals m)(h:t.Ns X.e.locals m)(k:∀b o,b≠X.e.locals->s.heap.get? b=some o->t.get? b=some o)(j:s.heap.get? D=none)(i:eB X.p X.w (cx H D u) t D u):Inv X B J (cx H D u) { s with heap:=t,toks:=S }:=by
 have f:=F_ I j;have M:∀b o,s.heap.get? b=some o->b≠D:=λb o e z=>by rw[z,j]at e;cases e
 have r:∀b v,H b=some v->b≠D:=λb v e z=>by rw[z,f]at e;cases e
 have F:=uB (A:=S) I y h k;refine I.step (g':=s.gens) (d':=s.drawn) (ch:=[]) (λ_ z=>nomatch z) (λb o L _ _ e _=>k b o L e) (λb o L _ _ e _=>⟨o.slots,k b o L e⟩) (λb o _ e n=>(aw (M b o e)).trans n) (λb o _ e=>?_) (λb xs e=>(aw (r b _ e)).trans e) (λb o v e=>(aw (r b _ e)).trans e) (λb V e=>⟨#[],by rw[aw (r b _ e),e];simp⟩) (λG A=>?_) (λb v e=>?_) I.bare
 .by_cases L:b=X.e.locals
  .subst L;obtain⟨N,_,_,g,_⟩:=h;exact⟨N,g⟩
  .exact⟨o,k b o L e⟩
 .obtain⟨o,es,Q,C,hd,R,p⟩:=y;obtain⟨T,P,K,a,d,E,w⟩:=A;rw[C]at a;cases a;rw[hd]at d;cases d;have:m=G:=funext λx=>(p x).symm.trans (w x);rw[<- this];exact h
 .by_cases l:b=D
  .subst l;rw[aU]at e;cases e;exact i
  .rw [aw l]at e;exact(F.h b v e).stay (λ_ _ _ q=>q) (λc q=>(aw (r c _ q)).trans q) λc xs q=>(aw (r c _ q)).trans q
theorem wT:fH X (.builtin "sorted") (λxs H Q=>∃F a P S b,xs=[.ref a]/\(gY X.K H a P\/oF X.K H a P)/\dg X.K F H S P/\sortable S=true/\pq S=some b/\∀l z,H l=none->dg X.K F H b z->Q (.ref l) (cx H l (.lst z))):=by
 intro B s J H xs us Q I r h;obtain⟨F,a,P,S,b,rfl,G,L,hs,k,q⟩:=h;obtain⟨u,rfl,rx⟩:=vals1 r;cases rx;obtain⟨m,R⟩:=I.fr;have w:∀(T:String)(hT:T="list"\/T="tuple")(t:LV)(o:Obj)(n:Nat),bc P t->s.heap.get? a=some o->o.cls=.type T->o.data=.seq t.toArray n->wx X (call (.builtin "sorted") [.ref a]) (EP X B J Q) X.xe s:=by
  intro T hT t o n M E C hd;have hl1:=L.length;have hl2:=jj M;have y:S.length < 64:=by
   unfold pq at k;split at k
   .lia
   .split at k
    .lia
    .cases k
  have A:∀(z:List V)(j:LV)(D:Addr)(f:Heap)(c:Nat),bc z j->dg X.K F H b z->j.length≤64->s.heap.get? D=none->Fr X.b X.e.locals f m->News X.b X.e.locals f ((D,seqObj "list" j.toArray c)::oE X.b s.heap X.e.locals)->EP X B J Q (.ref D) { s with heap:=f }:=
   λz j D f c vz rz hz K d N=>⟨.ref D,_,Dj (S:=s.toks) I R.ns d.ns (xJ I.bk d λp hp=>N p (.tail _ hp)) K (show eB X.p X.w _ f _ (.lst z) from ⟨by rw[jj vz,oJ];lia,j,c,vz,(N _ (.head _)).1⟩),rfl,q _ z (F_ I K) rz⟩
  refine Iv R (FF (g:=X.b)) hT E C hd (by lia) (λfew D f c K d N=>?_) λtwo D e f K ne d N=>?_
  .unfold pq at k;rw[aj (by lia)]at k;cases k;exact A P t D f c M L (by lia) K d N
  .unfold pq at k;rw[al (by lia),aj y]at k;obtain⟨p,ep,k⟩:=nr.mp k;split at k;case isFalse=>cases k
   rename_i ps;cases k;have I1:Inv X B J H { s with heap:=f }:=uB (A:=s.toks) I R.ns d.ns (xJ I.bk d λp hp=>N p (.tail _ hp));have Z:Ju (nS S) (kas_sort t.length)=some p:=by rw[<- hl2,<- hl1];exact ep
   refine di (Jg (s:={ s with heap:=f }) (FU I1 L M hs) two) (λκ v hv=>?_) λ_ _ x=>x;obtain⟨rfl,W⟩:=hv;exact Gp (a:=p) (Q:=λp u=>Bk X.b X.e.locals m D e (p.toList.map λi=>t.getD i Value.none) (λu=>EP X B J Q (.ref D) u) u) W (PySem.W.KasFin.intro d N (.head ne) λh2 c F2 N2=>A _ _ D h2 c (By M p.toList) (E5 L p.toList) (by rw[aR,np];lia) K F2 N2) _ Z
 rcases G with G|G
 .obtain⟨t,r',pl,hz⟩:=I.list G;obtain⟨o,E,C,n,hd⟩:=pl.isList;exact w "list" (.inl rfl) t o n r' E C hd
 .obtain⟨t,r',⟨o,E,C,n,hd⟩,hz⟩:=I.tuple G;exact w "tuple" (.inr rfl) t o n r' E C hd
noncomputable def JZ:List D->Option (List P)
 | []=>some []
 | .p v::r=>(JZ r).map (v::·)
 | .ref _::_=>none
theorem Ew:∀{d:List D}{T:List P},JZ d=some T->d=T.map .p
 | [],T,h=>by cases h;rfl
 | .p v::r,T,h=>by
  cases e:JZ r with
  |none=>simp only[JZ,e]at h;cases h
  |some w=>simp only[JZ,e]at h;cases h;rw[Ew e];rfl
 | .ref _::_,T,h=>by cases h
theorem J_:∀{T:List P}{xs:List V},dO K F H m (T.map .p) xs->dg K F H T xs
 | [],_,h=>h
 |_::_,_,h=>by obtain⟨x,r,e,a,s⟩:=h;exact⟨x,r,e,a,J_ s⟩
noncomputable def EU:P->Option (List P)
 | .lst xs=>some xs
 | .ro xs=>some xs
 | .tup xs=>some xs
 |_=>none
def CY:D->az->Option (List P)
 | .p v,_=>EU v
 | .ref i,S=>match S[i]? with
  |some (.lst d)=>JZ d
  |some (.fz v)=>EU v
  |_=>none
@[simp] def ug(r:EE)(L:Lc)(S:az):tyV:=cf (r L S) λd h=>match CY d h with
 |some xs=>(oq xs).map λv=>(v,h)
 |none=>none
theorem BH(p:RP K F H w v)(h:EU w=some xs):∃a y,v=.ref a/\(gY K H a y\/oF K H a y)/\dg K F H xs y:=by
 cases w with
 |tup d=>obtain⟨a,y,rfl,t,r⟩:=p;cases h;exact⟨a,y,rfl,.inr t.sq,r⟩
 |lst d=>obtain⟨a,y,rfl,t,r⟩:=p;cases h;exact⟨a,y,rfl,.inl t.sq,r⟩
 |ro d=>obtain⟨a,y,rfl,t,r⟩:=p;cases h;exact⟨a,y,rfl,.inl t.sq,r⟩
 |_=>cases h
theorem Ix(r:Rel K F H m S)(p:RD K F H m u v)(h:CY u S=some xs):∃a y,v=.ref a/\(gY K H a y\/oF K H a y)/\dg K F H xs y:=by
 cases u with
 |p w=>exact BH p h
 |ref i=>
  obtain⟨a,rfl,x⟩:=p;simp only[CY]at h;split at h
  .rename_i d es;obtain⟨y,e,s⟩:=r.obj i a _ x es;rw[Ew h]at s;exact⟨a,y,rfl,.inl (gY.of e),J_ s⟩
  .rename_i w es;exact BH (r.obj i a _ x es) h
  .cases h
theorem Eo(i:Gl X "sorted")(j:X.g "sorted"=none)(g:PE X e (tE X.K q))(n:starEach [e] X.e=[(false,eval e X.e)]:=by rfl):PE X (.Call (.Name "sorted" p) [e] [] N) (tV X.K (ug q)):=
 (nM wT i j HQ (fS g jk (by rw[n];rfl)) (by decide) (by decide) (by rw[n];rfl) rfl).imp' λJ H Q s=>by
  obtain⟨F,m,L,S,d,G,r,l,h,k⟩:=s;obtain⟨x,c,t,h⟩:=ai h;refine⟨F,m,L,S,x,c,r,l,t,λv b K E C f P=>?_⟩;split at h
  .rename_i xs w;unfold oq at h;split at h
   .rename_i n;cases o:pq xs with
    |none=>rw[o]at h;cases h
    |some u=>rw[o]at h;cases h;obtain⟨a,D,rfl,y,A⟩:=Ix f P w;exact⟨b,a,D,xs,u,rfl,y,A,n,o,λz I s B=>k _ _ K _ (C.trans (cM s).stp) (f.grow (cM s)) (.newLst s B)⟩
   .cases h
  .cases h
end
noncomputable def Qe(K:FG)(e:Bool)(a:Addr):It:=if e=true then JR K a else PU K a
inductive tIOI(K:FG)(en:Bool)(fe:EE)(J:L2.St)(H:Hp)(R:It->Hp->Prop):Prop
 |mk (F:Aa) (m:List Addr) (L:Lc) (S:az) (j:Nat) (S':az) (ds:List D) (h0_:Rel K F H m S) (h1_:RL K F H m J L) (h2_:fe L S=some (.ref j,S')) (h3_:S'[j]? = some (.lst ds)) (h4_:∀a F' m' H',Stp F m H F' m' H'->Rel K F' H' m' S'->m'[j]? = some a->R (Qe K en a) H'):tIOI K en fe J H R
noncomputable def Ti(K:FG)(e:Bool)(q:EE):TI:=λJ H R=>tIOI K e q J H R
theorem Mq{K:FG}{F:Aa}{H:Hp}{e:Bool}{a:Addr}{xs:List V}{x:V}{i:Nat}{v:P}(q:gY K H a xs)(s:xs[i]? = some x)(p:RP K F H v x) :
  (Qe K e a).go i H/\∀y h,(Qe K e a).yld i H y h->∃n,Grow F H n h/\RP K n h (if e=true then .tup [.int (i:Int),v] else v) y:=by
 cases e with
 |true=>
  refine⟨⟨xs,x,q,s⟩,λz h y=>?_⟩;obtain⟨b,y,rfl,k,rfl,f⟩:=y;have:y=x:=by have:=f xs q;rw[s]at this;cases this;rfl
  subst this;exact⟨F,cw k,RP.newTup k ⟨_,_,rfl,rfl,_,_,rfl,p,rfl⟩⟩
 |false=>
  refine⟨⟨xs,x,q,s⟩,λy h z=>?_⟩;obtain⟨rfl,z⟩:=z;have:=z xs q
  rw[s]at this;cases this;exact⟨F,.refl,p⟩
variable{H:Hp}{xs:List V}
theorem F0(q:gY K H a xs)(h:xs.length≤i):(Qe K v a).stop i H:=by
 cases v with
 |true=>exact⟨xs,q,h⟩
 |false=>exact⟨xs,q,h⟩
section
variable{X:Cx}{N:Pos}
theorem iO(h:PE X iter (tE X.K q)):PI X tg iter (Ti X.K false q):=(IR h).imp' λJ H R z=>by obtain⟨F,m,L,S,j,d,w,r,l,b,es,k⟩:=z;refine⟨F,m,L,S,_,_,r,l,b,λx n t f v s p=>?_⟩;obtain⟨a,rfl,e⟩:=p;obtain⟨xs,c,u⟩:=s.obj j a _ e es;exact⟨a,rfl,⟨xs,gY.of c⟩,k a n t f v s e⟩
theorem zw:fH X (.type "range") (λxs H Q=>∃j:Int,xs=[.int j]/\∀r,H r=none->Q (.ref r) (cx H r (.rng 0 j))):=by intro B s J H xs a Q I r h;obtain⟨j,rfl,q⟩:=h;obtain⟨u,rfl,x⟩:=vals1 r;obtain⟨t,rfl⟩:=x;refine call_range_1 ?_;exact⟨.ref s.heap.objs.size,_,I.laid (o:=.rng 0 j) (λb o e=>bD _ e) (ah _) ⟨_,_,_,db _ rfl⟩,rfl,q _ (I.h.fresh (ah _))⟩
theorem uo:∀{xs:List d}{s:List L},xs.length=s.length->(∀(i:Nat) x y,xs[i]? = some x->s[i]? = some y->R x y)->Paired R xs s
 | [],[],_,_=>.nil
 | [],_::_,h,_=>by simp at h
 |_::_,[],h,_=>by simp at h
 |x::xs,y::s,h,k=>.cons (k 0 x y rfl rfl) (uo (by simpa using h) λi a b e n=>k (i+1) a b (by simpa using e) (by simpa using n))
theorem y8(h:ItemsOf (λi v=>∃t,v=Value.int (0+i * 1) t) u n):bc ((List.range n).map λ(i:Nat)=>V.int (i:Int)) u.toList:=by
 obtain⟨z,f⟩:=h;refine uo (by simp[z]) λi x y a c=>?_;rw[dW]at a;cases e:(List.range n)[i]? with
 |none=>rw[e]at a;cases a
 |some k=>
  rw[e]at a;cases a;have b:k=i:=by have:=bL.mp e;obtain⟨m,s⟩:=this;simpa using s.symm
  subst b;obtain⟨t,rfl⟩:=f k y (by simpa using c);exact⟨t,by simp⟩
theorem yd(a:X.c=true):fH X (.type "list") (λxs H Q=>∃r j,xs=[.ref r]/\H r=some (.rng 0 j)/\j.natAbs < 1000000/\∀l,H l=none->Q (.ref l) (cx H l (.lst ((List.range j.toNat).map λ(i:Nat)=>V.int (i:Int))))):=by
 intro B s J H xs y Q I r h;obtain⟨p,j,rfl,m,g,q⟩:=h;obtain⟨u,rfl,d⟩:=vals1 r;cases d;obtain⟨t,u,v,o⟩:=I.h p _ m;refine call_list_range (n:=j.toNat) (I.o.hd a) o (small_one (by lia) (by lia) (by lia) (by lia)) (by rw[DX];split<;>lia) (by lia) λk w x c b e f=>?_
 exact⟨.ref s.heap.objs.size,_,I.laid (t':=w) b (ah _) (show eB X.p X.w _ k _ (.lst _) from ⟨by rw[aR,AO];exact aF (by lia:j.toNat≤1000000) (by decide),x.toList,c,y8 f,by simpa using e⟩),rfl,q _ (I.h.fresh (ah _))⟩
@[simp] def N0(a:EV)(L:Lc)(S:az):tyV:=cf (a L S) λv h=>match v with
 | .int j=>if decide (j.natAbs < 1000000)=true then some (.lst (intsFrom 0 j.toNat),h) else none
 |_=>none
theorem xo:∀s:List Nat,dg K F H (s.map λ(i:Nat)=>P.int (0+(i:Int))) (s.map λ(i:Nat)=>V.int (i:Int))
 | []=>rfl
 |i::s=>⟨_,_,rfl,by show V.int _=V.int _;rw[dq],xo s⟩
theorem HX{a:Expr}{C:EV}{p G i y:Pos}(h:X.c=true)(A:Gl X "list")(D:X.g "list"=none)(g:Gl X "range")(s:X.g "range"=none)(K:PE X a (tV X.K C))(t:starEach [a] X.e=[(false,eval a X.e)])
  : PE X (.Call (.Name "list" p) [.Call (.Name "range" G) [a] [] y] [] i) (tV X.K (N0 C)):=
 (l0 (yd h) A D qw (fS (l0 zw g s boot_range (fS K jk (by rw[t];rfl)) (by decide) (by decide) (by rw[t];rfl) rfl) jk rfl) (by decide) (by decide) rfl rfl).imp' λJ H Q e=>by
  obtain⟨F,m,L,S,d,N,r,l,q,k⟩:=e;obtain⟨x,u,o,q⟩:=ai q;refine⟨F,m,L,S,x,u,r,l,o,λv f E b M I p=>?_⟩;cases x with
  |int j=>
   dsimp only at q;split at q
   .rename_i P;have B:j.natAbs < 1000000:=bC P;cases q;cases (show v=.int j from p);refine⟨j,rfl,λw n=>⟨w,j,rfl,aU,B,λz e=>?_⟩⟩;have c:Grow f b f (cx b w (.rng 0 j)):=cw n;exact k _ _ E _ (M.trans (c.stp.trans (cM e).stp)) ((I.grow c).grow (cM e)) (.newLst e (xo _))
   .cases q
  |_=>cases q
end
section
variable{X:Cx}{N:Pos}
theorem CT{I:Program}{w:World}{A:Around}{E:VP}{s:Shared}{t l:Addr}{i:Array Value}{v u:Value}{lo x:Option Int}{Q:VP}(h:IsTup s.heap t i)(a:s.heap.IsSliceOf l v u .none)(p:IsPart v lo)(b:IsPart u x)
  (k:HT.fK i.size 0 lo=0) (f:HT.fK i.size i.size x=i.size) (q:Q (.ref t) s):wpAny (model I w) A (getItem (.ref t) (.ref l)) Q E s:=by
 have T:s.TypeIs (.ref l) "slice":=by obtain⟨o,e,n,_⟩:=a;exact⟨o,e,n⟩
 unfold getItem;try with_reducible refine iB ?_
 first|refine ac (aA ?_)|skip
 refine ac (D9 h.typeIs (by decide) ?_);refine ac (rT (name:=Str.ofString "__getitem__") h.typeIs ki (oK ki h.typeIs Ar ?_ (Aq _ _)));show wpAny _ _ (zL (.ref t) >>= _) _ _ s;refine ac (Am h (ac (rM T ?_)));rw[aj (by decide)];refine ac (HT.jU a p b ?_);rw[k,f];have y:((((0:Nat):Int) == 0 && (1:Int) == 1 && (i.size-0) == i.size)=true):=by simp
 show wpAny _ _ (if ((((0:Nat):Int) == 0 && (1:Int) == 1 && (i.size-0) == i.size)=true) then _ else _) _ _ s;rw[aj y];refine ac (ac (rM h.typeIs ?_));refine aA ?_;rw[aj (by rfl)];first
  |exact ac (aA (aA ⟨_,rfl,aA q⟩))
  |exact ac (uW (aA ⟨_,rfl,aA q⟩))
  |exact aA ⟨_,rfl,aA q⟩
theorem ER:Kv X (λx lo e H Q=>∃a xs,x=.ref a/\oF X.K H a xs/\HT.fK xs.length 0 lo=0/\HT.fK xs.length xs.length e=xs.length/\Q (.ref a) H):=by
 intro B s J H x v d w lo e m Q I c f p u h;obtain⟨a,xs,rfl,b,n,k,q⟩:=h;cases c;obtain⟨i,r,t,_⟩:=I.tuple b;have l:i.toArray.size=xs.length:=by rw[be];exact r.length.symm
 exact⟨"tuple",_,ki.lookup,t.typeIs,CT t f p u (by rw[l];exact n) (by rw[l];exact k) ⟨.ref a,H,I,rfl,q⟩⟩
def MQ:P->Option Int->Option Int->Option P
 | .tup xs,lo,h=>some (.tup (cut xs lo h))
 |x,lo,h=>TU x lo h
@[simp] def i5(a:EV)(lo n:EO)(L:Lc)(S:az):tyV:=cf (a L S) λx h=>cf (lo L h) λi e=>cf (n L e) λj s=>(MQ x i j).map λv=>(v,s)
theorem QO{e:Expr}{lo K:Option Expr}{C:EV}{o z:EO}{N p2:Pos}(V:PE X e (tV X.K C))(Z:PO X lo (tO X.K o))(W:PO X K (tO X.K z)):PE X (.Subscript e (.Slice lo K none p2) N) (tV X.K (i5 C o z)):=
 (xu (BG.or (Lj.or ER)) V Z W).imp' λJ H Q hz=>by
  obtain⟨F,m,L,S,d,S',r,l,q,k⟩:=hz;obtain⟨x,g,I,q⟩:=ai q;obtain⟨i,y,M,q⟩:=ai q;obtain⟨j,G,R,q⟩:=ai q;refine⟨F,m,L,S,x,g,r,l,I,λv A m1 H1 w r1 p1=>?_⟩;refine⟨A,m1,L,g,i,y,r1,l.mono w,M,λB m2 H2 u r2=>?_⟩;refine⟨B,m2,L,y,j,G,r2,(l.mono w).mono u,R,λD n E P f=>?_⟩;have c:=RP.mono P (RP.mono u p1);have b:=w.trans (u.trans P);cases x with
  |lst s=>cases q;obtain⟨a,xs,rfl,t,h⟩:=c;exact .inl ⟨a,xs,rfl,t.sq,λp hp=>k _ _ n _ (b.trans (cM hp).stp) (f.grow (cM hp)) (.newLst hp (h.cut i j))⟩
  |ro s=>cases q;obtain⟨a,xs,rfl,t,h⟩:=c;exact .inl ⟨a,xs,rfl,t.sq,λp hp=>k _ _ n _ (b.trans (cM hp).stp) (f.grow (cM hp)) (.newLst hp (h.cut i j))⟩
  |tup s=>
   obtain⟨a,xs,rfl,t,h⟩:=c;cases q;by_cases hw:HT.fK xs.length 0 i=0/\HT.fK xs.length xs.length j=xs.length
   .have T:cut s i j=s:=by
     unfold cut;rw[h.length,hw.1,hw.2,nw,vw,<- h.length,nA]
    rw[T]at k;exact .inr (.inr ⟨a,xs,rfl,t.sq,hw.1,hw.2,k _ D n E b f ⟨a,xs,rfl,t,h⟩⟩)
   .exact .inr (.inl ⟨a,xs,rfl,t.sq,hw,λp hp=>k _ _ n _ (b.trans (cw hp).stp) (f.grow (cw hp)) (.newTup hp (h.cut i j))⟩)
  |_=>cases q
abbrev dC:List P->Option P:=lF
variable{e:Expr}{es:Ab}{fs:lh}{p:Pos}
theorem KL(g:Gl X "int")(m:X.g "int"=none)(a:PA X (e::es) (tD X.K fs))(x:starEach (e::es) X.e=(false,eval e X.e)::starEach es X.e)(h:(backTo N (starEach es X.e)).any (·.1)=false) :
  PE X (.Call (.Name "int" p) (e::es) [] N) (tV X.K (bS dC fs)):=yG JF g m HN a (by decide) (by decide) x h
inductive PEs(X:Cx):Ab->List EV->Prop
 |nil:PEs X [] []
 |cons {e es f fs}:PE X e (tV X.K f)->PEs X es fs->PEs X (e::es) (f::fs)
@[simp] def Es(a b c:EV)(L:Lc)(S:az):tyV:=cf (a L S) λd h=>cf (b L h) λy x=>cf (c L x) λz e=>match d with
 | .dct s T=>match cZ y with
  |some k=>some ((bx k s T).getD z,e)
  |none=>none
 |_=>none
theorem uf:∀{k:List (bG×V)}{d:List P},dg K F H d (k.map (·.2))->bx u (k.map (·.1)) d=none->iq k u=none
 | [],d,r,h=>rfl
 |(s,v)::k,[],r,h=>by have:=r.length;simp at this
 |(s,v)::k,b::d,r,h=>by
  obtain⟨x,m,e,p,n⟩:=r;rw[aE]at e;injection e with c f;simp only[aE,bx]at h;by_cases a:s=u
  .rw [aj a]at h;cases h
  .rw [al a]at h;rw[<- f]at n;rw[ip (p:=(s,v)) a];exact uf n h
theorem KN{o a b:Expr}{h C z:EV}{E G:Pos}(hu:X.A.units+1 < cLine)(ho:PE X o (tV X.K h))(ha:PE X a (tV X.K C))(hb:PE X b (tV X.K z))(m:M2 X o "get" E a b G):PE X (.Call (.Attribute o "get" E) [a,b] [] G) (tV X.K (Es h C z)):=
 (Ft hu ho ha hb m).imp' λJ H Q hz=>by
  obtain⟨F,m,L,S,d,S',r,l,q,k⟩:=hz;obtain⟨x,B,e1,q⟩:=ai q;obtain⟨y,D,e2,q⟩:=ai q;obtain⟨e,W,e3,q⟩:=ai q;refine⟨F,m,L,S,x,B,r,l,e1,λv T m1 H1 P r1 p1=>?_⟩;cases x with
  |dct ks Z=>
   obtain⟨a,s,rfl,j,I,ek,ra⟩:=id p1;refine⟨a,rfl,.inl ⟨s,.inl I⟩,?_⟩;refine⟨T,m1,L,B,y,D,r1,l.mono P,e2,λvy V m2 H2 t r2 p2=>?_⟩;refine⟨V,m2,L,D,e,W,r2,(l.mono P).mono t,e3,λvz A M u p N p3=>?_⟩;have n:u a=some (.dK s):=(t.trans p).frk _ _ j I;have f:=dg.mono p (dg.mono t ra);have py:=RP.mono p p2;dsimp only at q;split at q
   .rename_i K g;cases q;have i:=jo g py;subst i ek;have R:=P.trans (t.trans p);cases c:bx K (s.map (·.1)) Z with
    |none=>have hm:=uf f c;refine⟨none,by rw[<- hm];exact kZ.k n,?_⟩;rw[c]at k;exact k vz A M u R N p3
    |some w=>obtain⟨v,h1,h2⟩:=oP f c;refine⟨some v,by rw[<- h1];exact kZ.k n,?_⟩;rw[c]at k;exact k v A M u R N h2
   .cases q
  |_=>cases q
def PY(w:World):List DictEntry->List (Str×P)->Prop
 | [],[]=>True
 |e::es,(k,p)::r=>(∃t,e.key=.str k t)/\e.hash=hashStr w k/\(∃v,RelV v e.val/\∀K F H,RP K F H p v)/\PY w es r
 |_,_=>False
def Sf(w:World)(K:FG)(m:SV)(x:Str)(k:List (Str×P)):Prop:=
 ∃a o es e,m x=some (.ref a)/\K.lookup a=some o/\o.ExactDict/\o.data=.dict es e/\PY w es.toList k/\(k.map (·.1)).Nodup
end
noncomputable def N6:List bG->List P->Option (List (Str×P))
 | [],[]=>some []
 | .inr k::s,v::T=>(N6 s T).map λr=>(k,v)::r
 |_,_=>none
noncomputable def F7:P->Bool
 | .dct _ _=>true
 |_=>false
def oH(w:World)(K:FG)(m:SV)(x:Str)(v:P):Prop:=(F7 v=false->zC K m x v)/\∀s T,v=.dct s T->∃k,N6 s T=some k/\Sf w K m x k
variable{x:Str}
theorem oH.plain(h:zC K u x v)(a:F7 v=false):oH w K u x v:=⟨λ_=>h,λk T e=>by subst e;cases a⟩
end Ev
namespace Ev
open PySem PySem.Spec PyProof.Rows L2
theorem xT(f:Nat->β->Sem (ForInStep β))(I:Nat->β->Shared->Prop)(Q:β->Shared->Prop)(k:Nat)
  (turn:∀i b s,i < k->I i b s->wpAny M A (f i b) (λr s'=>match r with | .yield b'=>I (i+1) b' s' | .done b'=>Q b' s') E s)
  (fin:∀b s,I k b s->Q b s) (b:β) (h:I 0 b s):wpAny M A (forIn [0:k] b f) Q E s:=by
 rw[Std.Legacy.Range.forIn_eq_forIn_range'];refine wpAny_forIn_list f (λrest b s=>∃i,rest=AF i (k-i)/\i≤k/\I i b s) Q (λx rest b s ⟨i,e,hi,hI⟩=>?_) (λb s ⟨i,e,hi,hI⟩=>?_) _ b ⟨0,by simp[Std.Legacy.Range.size],cT _,h⟩
 .obtain⟨m,hm⟩:∃m,k-i=m+1:=by
   cases q:k-i with
   |zero=>rw[q]at e;simp at e
   |succ m=>exact⟨m,rfl⟩
  rw[hm,vk]at e;injection e with e1 e2;subst e1;refine di (turn x b s (by lia) hI) (λr s' hr=>?_) λ_ _ z=>z;cases r with
  |done b'=>exact hr
  |yield b'=>exact⟨x+1,by rw[e2];congr 1;lia,by lia,hr⟩
 .have:k-i=0:=by
   cases q:k-i with
   |zero=>rfl
   |succ m=>rw[q,vk]at e;cases e
  have:i=k:=by lia
  subst this;exact fin b s hI
section
open PySem.SeqAt PySem.MeetsSeq
open PySem.AutoSeq1 (wpAny_loadPart')
theorem CU(l:Addr)(items:Array Value)(n:Nat)(dd:Option Addr)(sl:Array (OV))(x:Value)(e:Value->Bool)(j:Nat)(hj:j < items.size)
  (hit:e items[j]=true) (hno:∀m (hm:m < items.size),m < j->e items[m]=false) :
  Meets (Builtin.«tuple.index» ⟨[.ref l,x],[]⟩)
   (λA R s=>s.heap.get? l=some { cls:=.type "tuple",dict:=dd,data:=.seq items n,slots:=sl }/\(∀y,y ∈ items->EqAt A.in1 s y x (e y))/\R (.ok (.ret (.int j s.toks))) { s with toks:=s.toks+1 }):=
 .of_wp λprog w A R s h=>by
  obtain⟨hp,g,d,tk,os⟩:=s;obtain⟨hl,he,h⟩:=h
  wp_walk using mN hl,xT _ (λi b s'=>i≤j/\b.1=none/\s'=⟨hp,g,d,tk,os⟩) _
  case turn=>
   rintro i b s' hi ⟨hij,hb,rfl⟩;have hi':i < items.size:=by lia
   rw[Az hi'];refine ac (he _ (Array.getElem_mem hi') prog w _ _ ?_);by_cases hc:i=j
   .subst hc;rw[hit]
    wp_walk
    exact⟨_,rfl,h⟩
   .rw [hno i hi' (by lia)]
    wp_walk
    exact⟨by lia,rfl,rfl⟩
  case fin=>rintro b s' ⟨hij,_,_⟩;exact absurd hij (by lia)
  case h=>exact⟨cT _,rfl,rfl⟩
end
def jP(ps:List P)(y:P):Option Nat:=if (ps.all (cK 19) && cK 19 y)=true then (jW ps).findIdx? λz=>bz z (pd y) else none
@[simp] def oQ(fa fb:EV)(L:Lc)(S:az):tyV:=cf (fa L S) λv x=>match v with
 | .lst ps=>cf (fb L x) λy h=>(jP ps y).map λ(i:Nat)=>(.int (i:Int),h)
 | .tup ps=>cf (fb L x) λy h=>(jP ps y).map λ(i:Nat)=>(.int (i:Int),h)
 |_=>none
section
variable{X:Cx}{pins:PN}{J:L2.St}{H:Hp}{s:Shared}{F:Aa}{ps:List P}{y:P}{vy:V}{u:Value}{i:Nat}{Q:VK}{a:Addr}
theorem wg:∀qs:List P,(jW qs).length=qs.length
 | []=>rfl
 |q::qs=>by simp[jW,wg qs]
theorem Gc(o:X.A.units+64 < cLine)(I:Inv X pins J H s)(d:RP X.K F H y vy)(g:RelV vy u)(e:jP ps y=some i){v:Array Value}{f:List Addr}(k:ReadsAll s.heap v.toList (jW ps) f) :
  ∃t:i < v.size,bz (nj s.heap v[i]) (pd y)=true/\(∀m (x:m < v.size),m < i->bz (nj s.heap v[m]) (pd y)=false)/\v.size=ps.length /\
   ∀z,z ∈ v->SeqAt.EqAt X.A.in1 s z u (bz (nj s.heap z) (pd y)):=by
 unfold jP at e;split at e;case isFalse=>cases e
 rename_i c;rw[aD]at c;obtain⟨j,w⟩:=jV I 19 d g c.2;have l:=FC c.1;have q:=fU 19 _ c.2;obtain⟨t,b,r⟩:=qQ.mp e;have n:=SeqAt.readsAll_map _ _ _ l.1 k;have h:v.size=(jW ps).length:=by rw[<- n];simp
 have a:∀(m:Nat)(x:m < v.size),nj s.heap v[m]=(jW ps)[m]'(h ▸ x):=λm x=>by
  have:(v.toList.map (nj s.heap))[m]? = (jW ps)[m]?:=by rw[n]
  rw[dW,Array.getElem?_toList,Az x,bj (h ▸ x)]at this;simpa using this
 refine⟨by lia,?_,λm x p=>?_,by rw[h,wg],SeqAt.items_eqAt k w l.1 q.1 (by lia)⟩
 .rw [a];exact b
 .rw [a];simpa using r m p
theorem Gb(e:jP ps y=some i):ps.all (cK 19)=true:=by
 unfold jP at e;split at e
 .rename_i h;rw[aD]at h;exact h.1
 .cases e
theorem zu(P:X.A.units+64 < cLine)(I:Inv X pins J H s)(p:RP X.K F H (.lst ps) (.ref a))(D:RP X.K F H y vy)(G:RelV vy u)(e:jP ps y=some i)(q:Q (.int i) H) :
  wx X (call (.builtin "list.index") [.ref a,u]) (EP X pins J Q) X.xe s:=by
 have S:=Gb e;obtain⟨N,b⟩:=jV I 20 p (show RelV (.ref a) (.ref a) from rfl) (by simpa[cK] using S);rw[pd]at b;cases b with
 | @list l o L n _ c x k f w=>
  obtain⟨j,t,v,V,d⟩:=Gc P I D G e w;obtain⟨oc,B,C,h⟩:=o;dsimp only at k f;subst k f;have T:ps.length≤sizeLine:=by obtain⟨M,xs,m,K,E⟩:=p;cases m;obtain⟨z,A,Z,r,R,_⟩:=I.lstM K.2;have W:=E.length;lia
  have g:sizeLine < 2 ^ 63:=by decide
  exact je Ac ⟨_,x,rfl⟩ PySem.F.entry_list_index (PySem.F.args_list_index_2 _ _) (SeqAt.list_indexAt a L n B h u _ i j (by lia) t v) ⟨x,d,⟨.int i,H,I.tok _,⟨_,rfl⟩,q⟩⟩
theorem yb(hu:X.A.units+64 < cLine)(I:Inv X pins J H s)(px:RP X.K F H (.tup ps) (.ref a))(py:RP X.K F H y vy)(ru:RelV vy u)(e:jP ps y=some i)(q:Q (.int i) H) :
  wx X (call (.builtin "tuple.index") [.ref a,u]) (EP X pins J Q) X.xe s:=by
 have ho:=Gb e;obtain⟨as,ra⟩:=jV I 20 px (show RelV (.ref a) (.ref a) from rfl) (by simpa[cK] using ho);rw[pd]at ra;cases ra with
 | @tuple l o vs n _ as' h1 h2 h3 h4=>obtain⟨hi,e1,e2,hz,eq⟩:=Gc hu I py ru e h4;obtain⟨oc,od,odt,osl⟩:=o;dsimp only at h2 h3;subst h2 h3;exact je Af ⟨_,h1,rfl⟩ PySem.F.entry_tuple_index (PySem.F.args_tuple_index_2 _ _) (CU a vs n od osl u _ i hi e1 e2) ⟨h1,eq,⟨.int i,H,I.tok _,⟨_,rfl⟩,q⟩⟩
theorem KR(hu:X.A.units+64 < cLine)(ho:PE X o (tV X.K fo))(he:PE X e (tV X.K fe))(hs:starEach [e] X.e=[(false,eval e X.e)])
  (w:attributeBase o "index" X.e (eval o X.e)=eval o X.e) (j:(M.endLine == g.line)=true):PE X (.Call (.Attribute o "index" M) [e] [] g) (tV X.K (oQ fo fe)):=by
 intro pins s J H Q I ⟨F,m,L,S,d,S',r,l,q,k⟩;obtain⟨x,T,e1,q⟩:=ai q;refine Ec w (by rw[hs];rfl) j rfl (dL (ho pins s J H (λv c=>∃f K,Stp F m H f K c/\Rel X.K f c K T/\RP X.K f c x v) I ⟨F,m,L,S,x,T,r,l,e1,λv f K c W r1 B=>⟨f,K,W,r1,B⟩⟩) λu W hz=>?_);obtain⟨v,c,Z,ru,f,K,tF,r1,B⟩:=hz;have t:∀(id:String)(ps:List P),cf (fe L T) (λy S2=>(jP ps y).map λ(i:Nat)=>((.int (i:Int):P),S2))=some (d,S') ->
   (∀(s:Shared)(h:Hp)(n:Aa)(y:P)(vy:V)(C:Value)(i:Nat),Inv X pins J h s->(∀p,RP X.K f c p v->RP X.K n h p v)->RP X.K n h y vy->RelV vy C->jP ps y=some i->Q (.int i) h->wx X (call (.builtin id) [u,C]) (EP X pins J Q) X.xe s) ->
   wx X (callWith g (.builtin id) [u] (backTo g (starEach [e] X.e)) []) (EP X pins J Q) X.xe W:=by
  intro id ps q hc;obtain⟨y,S2,e2,q⟩:=ai q;obtain⟨i,E,q⟩:=fO.mp q;cases q;rw[hs];refine lP rfl (nq (fN (dL (he pins W J c (λvy h=>∃n A,Stp f K c n A h/\Rel X.K n h A S'/\RP X.K n h y vy) Z ⟨f,K,L,T,y,S',r1,l.mono tF,e2,λv n A h s2 r2 G=>⟨n,A,s2,r2,G⟩⟩) λC s2 ⟨vy,h,D,ruy,n,A,R,r2,G⟩=>jy ?_)));exact hc s2 h n y vy C i D (λp hp=>RP.mono R hp) G ruy E (k _ n A h (tF.trans R) r2 rfl)
 cases x with
 |lst ps=>obtain⟨a,xs,rfl,hq,rp⟩:=id B;cases (show u=Value.ref a from ru);obtain⟨z,its,n',rr,hl,N⟩:=Z.lstM hq.2;exact⟨"list","list.index",qj,Ac,PySem.F.type_list_index,⟨_,N,rfl⟩,λb eb=>by cases eb;exact⟨_,N,rfl⟩,t _ ps q λs h n y vy C i D hp py ry E q=>zu hu D (hp _ B) py ry E q⟩
 |tup ps=>obtain⟨a,xs,rfl,hq,rp⟩:=id B;cases (show u=Value.ref a from ru);obtain⟨its,rr,o,N,⟨ec,n',ed⟩,en⟩:=Z.tupleN hq.sq;exact⟨"tuple","tuple.index",PySem.F.plainAttrs_tuple,Af,PySem.F.type_tuple_index,⟨_,N,ec⟩,λb eb=>by cases eb;exact⟨_,N,en⟩,t _ ps q λs h n y vy C i D hp py ry E q=>yb hu D (hp _ B) py ry E q⟩
 |_=>cases q
end
variable{L:Type}
noncomputable def dn[DecidableEq L](k:L):List L->List D->Option D
 |h::s,v::x=>if h=k then some v else dn k s x
 |_,_=>none
noncomputable def eD[DecidableEq L](k:L)(v:D):List L->List D->List L×List D
 |h::s,w::x=>if h=k then (h::s,v::x) else (h::(eD k v s x).1,w::(eD k v s x).2)
 |_,_=>([k],[v])
def eJ:List P->Option (List bG)
 | []=>some []
 |p::r=>(cZ p).bind λk=>(eJ r).map λs=>k::s
noncomputable def mW(d:D)(S:az):Option (Nat×List (List bG)×List D):=match d with
 | .ref i=>match S[i]? with
  |some (.dtt k v)=>some (i,k,v)
  |_=>none
 |_=>none
theorem rc(h:mW d S=some (i,k,n)):d=.ref i/\S[i]? = some (.dtt k n):=by
 unfold mW at h;split at h
 .split at h
  .rename_i e;cases h;exact⟨rfl,e⟩
  .cases h
 .cases h
section
variable{K:FG}{F:Aa}{H:Hp}{m:List Addr}
theorem jX:∀{ps:List P}{s:List bG}{a:List V},eJ ps=some s->dg K F H ps a->a=s.map kV
 | [],s,a,h,r=>by cases h;exact r
 |p::ps,s,a,h,r=>by
  obtain⟨x,m,rfl,b,c⟩:=r;unfold eJ at h;cases e:cZ p with
  |none=>rw[e]at h;cases h
  |some k=>
   rw[e]at h;cases n:eJ ps with
   |none=>rw[n]at h;cases h
   |some f=>rw[n]at h;cases h;rw[aE,jo e b,jX n c]
theorem kx[DecidableEq L]:∀{C:List (L×V)}{s:List D},dO K F H m s (C.map (·.2)) ->
  match dn k (C.map (·.1)) s with|some d=>∃v,iq C k=some v/\RD K F H m d v|none=>iq C k=none
 | [],s,r=>by have:s=[]:=iX r.length;subst this;rfl
 |(a,v)::C,[],r=>by have:=r.length;simp at this
 |(a,v)::C,d::s,r=>by
  obtain⟨x,c,e,p,n⟩:=r;rw[aE]at e;injection e with f b;rw[<- b]at n;simp only[aE,dn];by_cases h:a=k
  .rw [aj h];exact⟨v,jg (p:=(a,v)) h,by rw[show v=x from f];exact p⟩
  .rw [al h,ip (p:=(a,v)) h];exact kx n
theorem oU[DecidableEq L](b:RD K F H m y u):∀{C:List (L×V)}{s:List D},(C.map (·.1)).Nodup->dO K F H m s (C.map (·.2)) ->
  (L2.putK C k u).map (·.1)=(eD k y (C.map (·.1)) s).1/\dO K F H m (eD k y (C.map (·.1)) s).2 ((L2.putK C k u).map (·.2))
 | [],s,_,r=>by have:s=[]:=iX r.length;subst this;exact⟨rfl,u,[],rfl,b,rfl⟩
 |(h,w)::C,[],_,r=>by have:=r.length;simp at this
 |(h,w)::C,d::s,g,r=>by
  obtain⟨x,E,e,B,G⟩:=r;rw[aE]at e g;injection e with i j;subst i;subst j;obtain⟨t,p⟩:=b_.mp g;simp only[aE,eD];by_cases a:h=k
  .subst a;rw[aj rfl];have same:∀l:List (L×V),h ∉ l.map (·.1)->l.map (λv=>if v.1=h then (v.1,u) else v)=l:=by
    intro l;induction l with
    |nil=>intro _;rfl
    |cons q l A=>
     intro f;rw[aE]at f;have o:¬q.1=h:=λz=>f (by rw[<- z];exact ar)
     rw[aE,al o,A λz=>f (ao _ z)]
   have n:L2.putK ((h,w)::C) h u=(h,u)::C:=by unfold L2.putK;rw[aj (by simp),aE,aj rfl,same C t]
   rw[n];exact⟨rfl,u,_,rfl,b,G⟩
  .rw [al a];obtain⟨S,P⟩:=oU (k:=k) b p G;have n:L2.putK ((h,w)::C) k u=(h,w)::L2.putK C k u:=by
    unfold L2.putK;rw[fP,cG (show ¬(h,w).1=k from a),qo];by_cases c:(C.any λv=>decide (v.1=k))=true
    .rw [aj c,aj c,aE,al (show ¬(h,w).1=k from a)]
    .rw [al c,al c];rfl
   rw[n,aE,aE,S];exact⟨rfl,w,_,rfl,B,P⟩
end
section
variable{X:Cx}{pos G:Pos}{o T:Expr}{c:Ab}{fo:EE}{fs:lh}{fv:EV}
@[simp] def zj(_L:Lc)(S:az):xg:=some (.ref S.length,S++[.dtt [] []])
theorem KU:PE X (.Dict [] [] pos) (tE X.K zj):=Fq.imp' λJ H Q h=>by obtain⟨F,m,L,S,d,x,r,l,q,k⟩:=h;cases q;intro p hp;refine k (.ref p) F (m++[p]) _ (fu hp) (r.own hp ⟨[],aU,rfl,rfl⟩) ⟨p,rfl,?_⟩;rw[<- r.len,ce (ah _)];simp
@[simp] def x2(o:EE)(k:lh)(L:Lc)(S:az):xg:=cf (o L S) λd x=>cf (k L x) λps h=>match mW d h,eJ ps with
 |some (_,s,v),some B=>if few ps=true then (dn B s v).map λz=>(z,h) else none
 |_,_=>none
theorem Jh(c:X.A.units+1 < cLine):G8 X (λx y H Q=>∃a v,x=.ref a/\kZ H a y (some v)/\(∃C,H a=some (.dT C))/\Q v H):=by intro T l pins s J H x y v u Q I m t h b;obtain⟨a,w,rfl,g,⟨C,f⟩,q⟩:=h;cases m;obtain⟨_,_,_,_,o,_,_,e,k,_⟩:=I.h a _ f;exact qv ⟨o,e,k.1⟩ D6.lookup (uI c I g t λd p n r=>⟨w,H,n,r,q⟩) b
theorem QU {N} (hu:X.A.units+1 < cLine) (ho:PE X o (tE X.K fo)) (hk:PA X c (tD X.K fs)) (hs:oG (.Tuple c N G)):PE X (.Subscript o (.Tuple c N G) pos) (tE X.K (x2 fo fs)):=
 (Fo (Jh hu) ho (we hk) hs).imp' λJ H Q hz=>by
  obtain⟨F,m,L,S,d,S',r,l,q,k⟩:=hz;obtain⟨x,K,W,q⟩:=ai q;obtain⟨ps,P,Z,q⟩:=ai q;refine⟨F,m,L,S,x,K,r,l,W,λv T m1 H1 I r1 p1=>?_⟩;refine⟨T,m1,L,K,ps,P,r1,l.mono I,Z,λR y m2 V M E G=>?_⟩;cases s:mW x P with
  |none=>rw[s]at q;cases q
  |some t=>
   obtain⟨j,ks,vs⟩:=t;rw[s]at q;cases h:eJ ps with
   |none=>rw[h]at q;cases q
   |some B=>
    rw[h]at q;dsimp only at q;split at q
    .rename_i hf;obtain⟨z,eg,q⟩:=fO.mp q;cases q;obtain⟨rfl,n⟩:=rc s;obtain⟨a,rfl,hm⟩:=RD.mono M p1;obtain⟨C,f,u,rs⟩:=E.obj j a _ hm n;subst u;have A:=kx (k:=B) rs;rw[eg]at A;obtain⟨w,ev,i⟩:=A;refine⟨by rw[<- G.length];exact lC hf,λb D=>?_⟩;have p:a≠b:=λz=>by rw[z,D]at f;cases f
     have e:cx V b (.tup R) a=some (.dT C):=by rw[aw p];exact f
     have g:=cw (F:=y) (o:=.tup R) D;rw[jX h G]at e g ⊢;refine⟨a,w,rfl,by rw[<- ev];exact kZ.t e aU,⟨C,e⟩,?_⟩;exact k w y m2 _ (I.trans (M.trans g.stp)) (E.grow g) (RD.mono g.stp i)
    .cases q
@[simp] def uF(o:EE)(k:lh)(L:Lc)(S:az):xg:=cf (o L S) λd h=>match mW d h with
 |none=>none
 |some _=>cf (k L h) λps x=>match mW d x,eJ ps with
  |some (_,s,v),some B=>if few ps=true then some ((dn B s v).getD (.p .non),x) else none
  |_,_=>none
theorem NN {N} (hu:X.A.units+1 < cLine) (ho:PE X o (tE X.K fo)) (hk:PA X c (tD X.K fs)) (I:M1 X o "get" ap (.Tuple c N G) cp) :
  PE X (.Call (.Attribute o "get" ap) [.Tuple c N G] [] cp) (tE X.K (uF fo fs)):=
 (Fu hu ho (we hk) I).imp' λJ H Q hz=>by
  obtain⟨F,m,L,S,d,S',r,l,q,k⟩:=hz;obtain⟨x,p,e1,q⟩:=ai q;refine⟨F,m,L,S,x,p,r,l,e1,λv F1 m1 H1 V r1 p1=>?_⟩;cases e:mW x p with
  |none=>rw[e]at q;cases q
  |some t1=>
   obtain⟨j,ks1,vs1⟩:=t1;rw[e]at q;dsimp only at q;obtain⟨ps,Z,e2,q⟩:=ai q;obtain⟨rfl,y⟩:=rc e;obtain⟨a,rfl,hm⟩:=id p1;obtain⟨s,A,_,_⟩:=r1.obj j a _ hm y;refine⟨a,rfl,.inr ⟨s,.inl A⟩,?_⟩;refine⟨F1,m1,L,p,ps,Z,r1,l.mono V,e2,λus f m2 H2 W R G=>?_⟩;cases i:mW (.ref j) Z with
   |none=>rw[i]at q;cases q
   |some t=>
    obtain⟨j2,ks,vs⟩:=t;rw[i]at q;cases u:eJ ps with
    |none=>rw[u]at q;cases q
    |some B=>
     rw[u]at q;dsimp only at q;split at q
     .rename_i hf;cases q;obtain⟨h,K⟩:=rc i;cases h;obtain⟨a',e4,M⟩:=RD.mono W p1;cases e4;obtain⟨C,P,E,rs⟩:=R.obj j a _ M K;subst E;have n:=kx (k:=B) rs;refine⟨by rw[<- G.length];exact lC hf,λb hb=>?_⟩;have D:a≠b:=λz=>by rw[z,hb]at P;cases P
      have h:cx H2 b (.tup us) a=some (.dT C):=by rw[aw D];exact P
      have g:=cw (F:=f) (o:=.tup us) hb;rw[jX u G]at h g ⊢;refine⟨iq C B,kZ.t h aU,?_⟩;cases eg:dn B (C.map (·.1)) vs with
      |none=>rw[eg]at n k;rw[show iq C B=none from n];exact k .non f m2 _ (V.trans (W.trans g.stp)) (R.grow g) rfl
      |some z=>rw[eg]at n k;obtain⟨w,ev,T⟩:=n;rw[ev];exact k w f m2 _ (V.trans (W.trans g.stp)) (R.grow g) (RD.mono g.stp T)
     .cases q
@[simp] def E3(o:EE)(k:lh)(v:EV)(L:Lc)(S:az):BB:=cf (v L S) λy a=>cf (o L a) λd e=>cf (k L e) λps h=>match mW d h,eJ ps with
 |some (i,s,x),some B=>if (s.Nodup/\few s=true/\few ps=true) then some (.nx,L,h.set i (.dtt (eD B (.p y) s x).1 (eD B (.p y) s x).2)) else none
 |_,_=>none
theorem Ny {N} (hu:X.A.units+1 < cLine) (ho:PE X o (tE X.K fo)) (g:PA X c (tD X.K fs)) (hv:PE X T (tV X.K fv)) (hs:swapsWith T (some (.Subscript o (.Tuple c N G) h)) pos.line X.e=pure false) :
  PS X (.Assign [.Subscript o (.Tuple c N G) h] T pos) (nh X.K (E3 fo fs fv)):=(BM hu ho (we g) hv hs).imp' λD J H hz=>by
 obtain⟨F,m,L,S,fl,L',S',r,l,q,k⟩:=hz;obtain⟨y,E,e1,q⟩:=ai q;obtain⟨d,I,e2,q⟩:=ai q;obtain⟨ps,M,e3,q⟩:=ai q;refine⟨F,m,L,S,y,E,r,l,e1,λv P W H1 s r1 p1=>?_⟩;refine⟨P,W,L,E,d,I,r1,l.mono s,e2,λx F2 m2 H2 e r2 G=>?_⟩;refine⟨F2,m2,L,I,ps,M,r2,(l.mono s).mono e,e3,λus A Z H3 n r3 p3=>?_⟩;cases w:mW d M with
 |none=>rw[w]at q;cases q
 |some t=>
  obtain⟨j,ks,vs⟩:=t;rw[w]at q;cases p:eJ ps with
  |none=>rw[p]at q;cases q
  |some B=>
   rw[p]at q;dsimp only at q;split at q
   .rename_i u;cases q;obtain⟨rfl,c⟩:=rc w;refine⟨by rw[<- p3.length];exact lC u.2.2,λb hb=>?_⟩;have Q:=cw (F:=A) (o:=.tup us) hb;have K:=r3.grow Q;have f:=Q.stp (m:=Z);obtain⟨a,rfl,i⟩:=RD.mono f (RD.mono n G);obtain⟨C,V,g,rs⟩:=K.obj j a _ i c;subst g;have pv:=RD.mono f (RD.mono n (RD.mono e (show RD X.K P H1 W (.p y) v from p1)));obtain⟨h1,h2⟩:=oU (k:=B) pv u.1 rs;have nt:∀zs,cx H3 b (.tup us) a≠some (.tup zs):=λzs z=>by rw[V]at z;cases z
    have st:=gG (o:=.dT (L2.putK C B v)) K i c trivial nt;have hl:C.length < sizeLine:=by have R:(C.map (·.1)).length≤1000000:=bC u.2.1;rw[aR]at R;exact lX R (by decide)
    refine⟨a,_,rfl,yi.t (k:=B) V ?_ hl,?_⟩
    .rw [jX p p3];exact aU
    .exact k J A Z _ (s.trans (e.trans (n.trans (f.trans st)))) (K.set i c trivial nt ⟨_,aU,h1,dO.mono st h2⟩) ((((l.mono s).mono e).mono n).mono (f.trans st))
   .cases q
end
section
variable{X:Cx}{pins:PN}{J:L2.St}{H:Hp}{s:Shared}{a:Addr}{C:List (bG×V)}{B:bG}{u r:Value}{x:V}{A:Around}{E:VP}
theorem GA(I:Inv X pins J H s)(e:H a=some (.dK C))(K:C.length < sizeLine)(S:RelV (kV B) u)(o:RelV x r)
  (t:∀v w n,iq C B=some v->RelV v w->Inv X pins J H n->Q w n) (p:iq C B=none->∀n,Inv X pins J (cx H a (.dK (L2.putK C B x))) n->Q r n) :
  wpAny (model X.p X.w) A (call (.builtin "dict.setdefault") [.ref a,u,r]) Q E s:=by
 obtain⟨z,hd,F,l,k⟩:=Kq I.h e;have h:=l.val B;refine rL Ag k.typeIs PySem.F.entry_dict_setdefault (PySem.F.args_dict_setdefault_3 _ _ _) (kt_meets_setdefault (cJ X.p X.w) a (pD S) hd r)
  ⟨F,k,by rw[<- l.length];exact z,λv f=>?_,λc m d j=>?_⟩
 .cases q:iq C B with
  |none=>rw[q,f]at h;cases h
  |some b=>rw[q,f]at h;exact t b v _ q h (I.tok _)
 .have q:iq C B=none:=by
   cases q:iq C B with
   |none=>rfl
   |some b=>rw[q,c]at h;cases h
  refine p q _ ?_;have g:∃q,m.get? a=some q:=let ⟨q,_,_,i,_⟩:=d;⟨q,i⟩
  have y:(L2.putK C B x).length≤sizeLine:=by have:=lz C B x;lia
  exact wN I (by rw[e];exact True.intro) j g (Gw y hd (l.put B o) d)
end
section
variable{X:Cx}{o e f:Expr}{ap cp:Pos}{fo fd:EE}{fk:EV}
@[simp] def oh(o:EE)(k:EV)(d:EE)(L:Lc)(S:az):xg:=cf (o L S) λx a=>match lw x a with
 |none=>none
 |some _=>cf (k L a) λz e=>cf (d L e) λy h=>match lw x h,cZ z with
  |some (i,s,v),some B=>if (s.Nodup/\few s=true) then match dn B s v with
    |some w=>some (w,h)
    |none=>some (y,h.set i (.dct (eD B y s v).1 (eD B y s v).2))
   else none
  |_,_=>none
theorem HZ(ho:PE X o (tE X.K fo))(he:PE X e (tV X.K fk))(hf:PE X f (tE X.K fd))(n:M2 X o "setdefault" ap e f cp):PE X (.Call (.Attribute o "setdefault" ap) [e,f] [] cp) (tE X.K (oh fo fk fd)):=by
 intro pins s J H Q I ⟨F,m,L,S,d,S',r,l,q,k⟩;obtain⟨x,S1,e1,q⟩:=ai q;refine yB n.base n.few n.line u7 Ag PySem.F.type_dict_setdefault
  (dL (ho pins s J H (λv P=>∃b i,Stp F m H b i P/\Rel X.K b P i S1/\RD X.K b P i x v) I ⟨F,m,L,S,x,S1,r,l,e1,λv b i P s1 r1 p1=>⟨b,i,s1,r1,p1⟩⟩) λu s1 ⟨v,P,I1,ru,b,i,tF,r1,p1⟩=>?_)
 cases D:lw x S1 with
 |none=>rw[D]at q;cases q
 |some t1=>
  obtain⟨j,ks1,vs1⟩:=t1;rw [D] at q;dsimp only at q;obtain⟨z,S2,e2,q⟩:=ai q;obtain⟨y,S3,e3,q⟩:=ai q;obtain⟨rfl,es1⟩:=wj D;obtain⟨a,rfl,hm⟩:=id p1;obtain⟨kvs1,hH1,_,_⟩:=r1.obj j a _ hm es1;cases (show u=Value.ref a from ru);obtain⟨t1,t2,_⟩:=y' I1 (.inl ⟨kvs1,.inl hH1⟩);refine⟨t1,t2,?_⟩;rw [n.trees];refine lP rfl (nq (fN (dL (he pins s1 J P (fun vz A=>∃c N,Stp b i P c N A/\Rel X.K c A N S2/\RP X.K c A z vz) I1 ⟨b,i,L,S1,z,S2,r1,l.mono tF,e2,fun v c N A s2 r2 G=>⟨c,N,s2,r2,G⟩⟩) fun uz s2 ⟨vz,A,I2,rz,c,N,R,r2,G⟩=>
   fN (dL (hf pins s2 J A (λvy g=>∃p K,Stp c N A p K g/\Rel X.K p g K S3/\RD X.K p g K y vy) I2 ⟨c,N,L,S2,y,S3,r2,(l.mono tF).mono R,e3,λv p K g s3 V p3=>⟨p,K,s3,V,p3⟩⟩) λuy s3 ⟨vy,g,I3,ry,p,K,oS,V,p3⟩=>jy ?_))))
  cases eo:lw (.ref j) S3 with
  |none=>rw[eo]at q;cases q
  |some t=>
   obtain⟨j2,ks,vs⟩:=t;rw[eo]at q;cases ek:cZ z with
   |none=>rw[ek]at q;cases q
   |some B=>
    rw[ek]at q;dsimp only at q;split at q
    .rename_i hc;obtain⟨e4,E⟩:=wj eo;cases e4;obtain⟨a',e5,M⟩:=RD.mono (R.trans oS) p1;cases e5;obtain⟨C,hH,hk,rs⟩:=V.obj j a _ M E;subst hk;have T:=kx (k:=B) rs;have pz:=RP.mono oS G;have ez:=jo ek pz;subst ez;have hl:C.length < sizeLine:=by
      have h9:(C.map (·.1)).length≤1000000:=bC hc.2;rw[aR]at h9;exact lX h9 (by decide)
     have stA:=tF.trans (R.trans oS);refine GA I3 hH hl rz ry (λv w s' Z rv I'=>?_) λZ s' I'=>?_
     .cases W:dn B (C.map (·.1)) vs with
      |none=>rw[W]at T;rw[show iq C B=none from T]at Z;cases Z
      |some w'=>rw[W]at T q;dsimp only at q;cases q;obtain⟨v',h,rd⟩:=T;rw[Z]at h;cases h;exact⟨v,g,I',rv,k v p K g stA V rd⟩
     .cases W:dn B (C.map (·.1)) vs with
      |some w'=>rw[W]at T;obtain⟨v',h,_⟩:=T;rw[Z]at h;cases h
      |none=>
       rw[W]at q;dsimp only at q;cases q;obtain⟨h1,h2⟩:=oU (k:=B) p3 hc.1 rs;have nt:∀zs,g a≠some (.tup zs):=λzs z=>by rw[hH]at z;cases z
       have st:=gG (o:=.dK (L2.putK C B vy)) V M E trivial nt;exact⟨vy,_,I',ry,k vy p K _ (stA.trans st) (V.set M E trivial nt ⟨_,aU,h1,dO.mono st h2⟩) (RD.mono st p3)⟩
    .cases q
end
end Ev
set_option tactic.hygienic false
namespace PySem
open PySem PyProof.Rows
section
variable{prog:Program}{w:World}{A:Around}{E:VP}{s:Shared}
theorem r_(t:s.heap.IsTupleIter k h i)(f:s.heap.IsTuple h n)(b:n[i]? = some x)
  (e:∀a,a.IsTupleIter k h (i+1)->gx k s.heap a->Q x { s with heap:=a }):wpAny (model prog w) A (gA (.ref k)) Q E s:=by
 have T:=t.typeIs;obtain⟨⟨q,v,m,r⟩,o,c,hd⟩:=id t;obtain⟨u,l,_,p,d⟩:=f;dsimp only at c hd;subst c hd;unfold gA;apply ac;apply rT (name:=Str.ofString "__next__") T qk;refine oK qk T zZ ?_ (z3 _);repeat first|with_reducible refine ac (eI o rfl (x:=.ref h) rfl ?_)|wp_step
 rw[d];apply aA;simp only[qe,b];apply ac;apply DZ o rfl (by simp);refine aA ⟨x,rfl,aA (e _ ⟨_,yn _ o rfl,rfl,?_⟩ (ni ..))⟩;simp[zJ,rawInt]
theorem nI(m:A.handled=none)(t:s.heap.IsTupleIter k h i)(p:s.heap.IsTuple h n)(q:n[i]? = none)
  (b:∀a e,ym k s.heap a->(∃o,a.get? e=some o/\o.cls=.type "StopIteration")->E (.ref e) { s with heap:=a }):wpAny (model prog w) A (gA (.ref k)) Q E s:=by
 have T:=t.typeIs;obtain⟨⟨j,y,v,u⟩,r,c,hd⟩:=id t;obtain⟨z,l,_,g,d⟩:=p;dsimp only at c hd;subst c hd;unfold gA;apply ac;apply rT (name:=Str.ofString "__next__") T qk;refine oK qk T zZ ?_ (z3 _);repeat first|with_reducible refine ac (eI r rfl (x:=.ref h) rfl ?_)|wp_step
 rw[d];apply aA;simp only[qe,q];have f:A.in1.handled=none:=m;repeat first|assumption|wp_step
 unfold raiseNew;apply ac;apply wpAny_handled;rw[f];apply wpAny_throw;exact b _ _ (((ni ..).extBut.push _).push _) ⟨_,db _ rfl,rfl⟩
def DP(t:Bool)(h:Heap)(i l:Addr)(k:Nat):Prop:=if t=true then h.IsTupleIter i l k else h.IsListIter i l k
def JP(t:Bool)(h:Heap)(l:Addr)(y:Array Value):Prop:=if t=true then h.IsTuple l y else h.IsList l y
theorem DP.extBut(x:DP n h a l i)(s:ym b h k)(e:a≠b):DP n k a l i:=by
 cases n
 .exact Heap.IsListIter.extBut x s e
 .exact Heap.IsTupleIter.extBut x s e
theorem JP.extBut(x:JP n h a q)(s:ym b h k)(e:a≠b):JP n k a q:=by
 cases n
 .exact Heap.IsList.extBut x s e
 .exact Heap.IsTuple.extBut x s e
theorem DP.obj(x:DP k h a l i):∃o,h.get? a=some o/\(∃v,o.data=.fields v)/\∀s,s.get? a=some o->DP k s a l i:=by
 cases k
 .obtain⟨o,e,c,d⟩:=x;exact⟨o,e,⟨_,d⟩,λs n=>⟨o,n,c,d⟩⟩
 .obtain⟨o,e,c,d⟩:=x;exact⟨o,e,⟨_,d⟩,λs n=>⟨o,n,c,d⟩⟩
theorem F4(t:DP q s.heap k h i)(f:JP q s.heap h n)(b:n[i]? = some x)
  (e:∀a,DP q a k h (i+1)->gx k s.heap a->Q x { s with heap:=a }):wpAny (model prog w) A (gA (.ref k)) Q E s:=by
 cases q
 .exact yD t f b e
 .exact r_ t f b e
def gU(h:Heap)(z TI TO:Addr)(f x:Value):Prop:=h.get? z=some { cls:=.type "zip",data:=.fields #[f,x,.bool false,.ref TI,.ref TO] }
def eA(h:Heap)(T:Addr)(a b:Value):Prop:=h.get? T=some { cls:=.type "tuple",data:=.seq #[a,b] }
theorem Eh (l j:Addr) (xs ys:Array Value):Meets (Builtin.«zip.__new__» ⟨[.type "zip",.ref l,.ref j],[]⟩) (fun _ R s=>s.heap.IsList l xs/\s.heap.IsTuple j ys /\
  ∀v H S TI TO z,(∀b o,s.heap.get? b=some o->v.get? b=some o)->s.heap.objs.size≤H->H < S->S < TI->TI < TO->TO < z->v.IsListIter H l 0->v.IsTupleIter S j 0->eA v TI (.ref H) (.ref S)->eA v TO .none .none ->
   gU v z TI TO .none (.bool false)->R (.ok (.ret (.ref z))) { s with heap:=v }):=
 .of_wp λprog w A R s h=>by
  obtain⟨hp,g,d,X,os⟩:=s;obtain⟨P,B,h⟩:=h;have W:=sub_zip;have L:Heap.IsList (Shared.heap ⟨hp,g,d,X,os⟩) l xs:=P;have K:DR (Shared.heap ⟨hp.push { cls:=.type "list_iterator",data:=.fields #[.ref l,.int 0 0] },g,d,X,os⟩) j ys:=B.push _
  wp_walk using yC L,vb K
  have i:∀(u n x a f c:Heap)(r t p q m:Obj),n=u.push r->x=n.push t->a=x.push p->f=a.push q->c=f.push m->r.isFreed=false->t.isFreed=false->p.isFreed=false->q.isFreed=false->m.isFreed=false ->
    (∀b o,u.get? b=some o->c.get? b=some o)/\u.objs.size < n.objs.size/\n.objs.size < x.objs.size/\x.objs.size < a.objs.size/\a.objs.size < f.objs.size /\
    c.get? u.objs.size=some r/\c.get? n.objs.size=some t/\c.get? x.objs.size=some p/\c.get? a.objs.size=some q/\c.get? f.objs.size=some m:=by
   intro u n x a f c r t p q m D E G I M f1 f2 f3 f4 f5;have N:n.get? u.objs.size=some r:=by rw[D];exact db _ f1
   have Q:x.get? n.objs.size=some t:=by rw[E];exact db _ f2
   have T:a.get? x.objs.size=some p:=by rw[G];exact db _ f3
   have V:f.get? a.objs.size=some q:=by rw[I];exact db _ f4
   have g5:c.get? f.objs.size=some m:=by rw[M];exact db _ f5
   have Z:∀b o,n.get? b=some o->x.get? b=some o:=λb o e=>by rw[E];exact bD _ e
   have C:∀b o,x.get? b=some o->a.get? b=some o:=λb o e=>by rw[G];exact bD _ e
   have F:∀b o,a.get? b=some o->f.get? b=some o:=λb o e=>by rw[I];exact bD _ e
   have y:∀b o,f.get? b=some o->c.get? b=some o:=λb o e=>by rw[M];exact bD _ e
   exact⟨λb o e=>y _ _ (F _ _ (C _ _ (Z _ _ (by rw[D];exact bD _ e)))),aO N,aO Q,aO T,aO V,y _ _ (F _ _ (C _ _ (Z _ _ N))),y _ _ (F _ _ (C _ _ Q)),y _ _ (F _ _ T),y _ _ V,g5⟩
  let r:Obj:={ cls:=.type "list_iterator",data:=.fields #[.ref l,.int 0 0] }
  let n:=hp.push r
  let t:Obj:={ cls:=.type "tuple_iterator",data:=.fields #[.ref j,.int 0 0] }
  let x:=n.push t
  let p:Obj:={ cls:=.type "tuple",data:=.seq #[.ref hp.objs.size,.ref n.objs.size] }
  let a:=x.push p
  let q:Obj:={ cls:=.type "tuple",data:=.seq #[.none,.none] }
  let f:=a.push q
  let m:Obj:={ cls:=.type "zip",data:=.fields #[.none,.bool false,.bool false,.ref x.objs.size,.ref a.objs.size] }
  obtain⟨k,s1,s2,s3,s4,a1,a2,a3,a4,a5⟩:=i hp n x a f (f.push m) r t p q m rfl rfl rfl rfl rfl rfl rfl rfl rfl rfl;exact⟨_,rfl,h (f.push m) hp.objs.size n.objs.size x.objs.size a.objs.size f.objs.size k (ah _) s1 s2 s3 s4 ⟨_,a1,rfl,rfl⟩ ⟨_,a2,rfl,rfl⟩ a3 a4 a5⟩
end
section
variable{prog:Program}{w:World}{A:Around}{E:VP}{s:Shared}
theorem DI(h:Q (s.heap.get? a) s):wpAny M A (loadIfAlive a) Q E s:=λx p _=>by unfold loadIfAlive;rw[Sem.wp_loadIfAlive];exact(Sem.wp_pure ..).mpr h
theorem sP{z TI TO T:Addr}{f:Bool}{o:Obj}{Q:Bool->Shared->Prop}(a:gU s.heap z TI TO (rawInt T) (.bool f))(n:s.heap.get? T=some o)
  (h:∀e,gU e z TI TO (rawInt T) (.bool true)->gx z s.heap e->Q false { s with heap:=e }):wpAny (model prog w) A (p7 (.ref z)) Q E s:=by
 unfold p7;apply ac;refine eI (show s.heap.get? z=some _ from a) rfl (x:=rawInt T) rfl ?_;unfold rawInt;dsimp only;apply ac;refine DI ?_;rw[qe,n];rw[al (by simp)];apply ac;refine eI (show s.heap.get? z=some _ from a) rfl (x:=.bool f) rfl ?_;cases f with
 |true=>rw[al (by decide)];exact aA (h s.heap a ⟨rfl,λ_ _=>rfl⟩)
 |false=>rw[aj (by decide)];apply ac;refine DZ (show s.heap.get? z=some _ from a) rfl (by simp) (aA (h _ ?_ (ni ..)));unfold gU;rw[yn _ (show s.heap.get? z=some _ from a) rfl];simp[zJ]
theorem CM{z TI TO i a l r T:Addr}{P:Bool}{k:Nat}{S F:Array Value}{x y:Value}{oT:Obj}{Q:VP}(d:gU s.heap z TI TO (rawInt T) (.bool P))(I:eA s.heap TI (.ref i) (.ref a))(G:s.heap.get? T=some oT)
  (B:s.heap.IsListIter i l k) (C:s.heap.IsTupleIter a r k) (p:s.heap.IsList l S) (q:s.heap.IsTuple r F) (M:S[k]? = some x) (R:F[k]? = some y)
  (g:i≠z) (j:a≠z) (X:l≠z) (Z:r≠z) (H:a≠i) (n6:r≠i) (n7:l≠a) (n8:l≠i) (n9:r≠a)
  (D:∀m:Heap,gU m z TI TO (rawInt T) (.bool true)->m.IsListIter i l (k+1)->m.IsTupleIter a r (k+1)->(∀c o,c≠z->c≠i->c≠a->s.heap.get? c=some o->m.get? c=some o) ->
   Q (.ref m.objs.size) { s with heap:=m.push { cls:=.type "tuple",data:=.seq #[x,y] } }) :
  wpAny (model prog w) A (Builtin.«zip.__next__» ⟨[.ref z],[]⟩) (λt s'=>∃h,t=.done (.ret h)/\Q h s') E s:=by
 unfold Builtin.«zip.__next__»;apply ac;apply aA;apply ac;refine eI (show s.heap.get? z=some _ from d) rfl (x:=.bool false) rfl ?_;apply ac;refine eI (show s.heap.get? z=some _ from d) rfl (x:=.ref TI) rfl ?_;apply ac;refine lm (show s.heap.get? TI=some _ from I) rfl ?_;dsimp only;rw[al (by simp)];apply ac;refine sP d G λh0 u b=>?_
 rw[al (by simp)];apply ac;rw[<- Ay];show wpAny _ _ (forIn [Value.ref i,Value.ref a] _ _) _ _ _;rw[kn];apply ac;apply ac;apply iB;show wpAny _ _ (gA (.ref i) >>= _) _ _ _;apply ac;refine yD (B.extBut b.extBut g) (p.extBut b.extBut X) M λha V n=>aA ?_;dsimp only;apply aA;dsimp only;rw[kn];apply ac;apply ac;apply iB;show wpAny _ _ (gA (.ref a) >>= _) _ _ _;apply ac;refine r_ ((C.extBut b.extBut j).extBut n.extBut H) ((q.extBut b.extBut Z).extBut n.extBut n6) R λL W f=>aA ?_;dsimp only;apply aA;dsimp only;rw[AH];apply aA;dsimp only;apply ac;refine yw (hsz:=by show 2≤sizeLine;decide) (aA ⟨_,rfl,D L ?_ ?_ W ?_⟩)
 .exact f.extBut _ _ (aQ j) (n.extBut _ _ (aQ g) u)
 .exact V.extBut f.extBut (aQ H)
 .exact λc o N v K e=>f.extBut _ _ K (n.extBut _ _ v (b.extBut _ _ N e))
theorem Ei{z TI TO i f n T:Addr}{t:Bool}{k:Nat}{m:Array Value}{S:Obj}{Q:Fin->Shared->Prop}(u:A.handled=none)(a:gU s.heap z TI TO (rawInt T) (.bool t))(I:eA s.heap TI (.ref i) (.ref f))(d:s.heap.get? T=some S)
  (p:s.heap.IsListIter i n k) (l:s.heap.IsList n m) (g:m[k]? = none) (y:i≠z) (H:n≠z)
  (q:∀h e,(∀c o,c≠z->c≠i->s.heap.get? c=some o->h.get? c=some o)->(∃o,h.get? e=some o/\o.cls=.type "StopIteration")->E (.ref e) { s with heap:=h }) :
  wpAny (model prog w) A (Builtin.«zip.__next__» ⟨[.ref z],[]⟩) Q E s:=by
 unfold Builtin.«zip.__next__»;apply ac;apply aA;apply ac;refine eI (show s.heap.get? z=some _ from a) rfl (x:=.bool false) rfl ?_;apply ac;refine eI (show s.heap.get? z=some _ from a) rfl (x:=.ref TI) rfl ?_;apply ac;refine lm (show s.heap.get? TI=some _ from I) rfl ?_;dsimp only;rw[al (by simp)];apply ac;refine sP a d λF j b=>?_
 rw[al (by simp)];apply ac;rw[<- Ay];show wpAny _ _ (forIn [Value.ref i,Value.ref f] _ _) _ _ _;rw[kn];apply ac;apply ac;apply iB;show wpAny _ _ (gA (.ref i) >>= _) _ _ _;apply ac;exact Ea u (p.extBut b.extBut y) (l.extBut b.extBut H) g λh e x o=>q h e (λc K N v r=>x _ _ v (b.extBut _ _ N r)) o
end
section
variable{prog:Program}{w:World}{A:Around}{E:VP}{s:Shared}
theorem ud{tp:Bool}{k:Nat}{z TI TO i d D l:Addr}{xs ys:Array Value}{x y p q:Value}{Q:VP}(H:gU s.heap z TI TO .none (.bool false))(L:eA s.heap TI (.ref i) (.ref d))(M:eA s.heap TO p q)
  (h1:s.heap.IsListIter i D k) (h2:DP tp s.heap d l k) (R:s.heap.IsList D xs) (V:JP tp s.heap l ys) (hx:xs[k]? = some x) (hy:ys[k]? = some y)
  (n1:i≠z) (n2:d≠z) (n3:D≠z) (n4:l≠z) (n5:d≠i) (n6:l≠i) (G:TO≠z) (n8:TO≠i) (n9:TO≠d) (n10:l≠TO)
  (hQ:∀(g:Heap) (T:Addr),gU g z TI TO (rawInt T) (.bool false)->g.IsListIter i D (k+1)->DP tp g d l (k+1)->eA g TO x y->eA g T x y->T=s.heap.objs.size->(∀c o,c≠z->c≠i->c≠d->c≠TO->s.heap.get? c=some o->g.get? c=some o) ->
   Q (.ref T) { s with heap:=g }) :
  wpAny (model prog w) A (Builtin.«zip.__next__» ⟨[.ref z],[]⟩) (λI s'=>∃h,I=.done (.ret h)/\Q h s') E s:=by
 unfold Builtin.«zip.__next__»;apply ac;apply aA;apply ac;refine eI (show s.heap.get? z=some _ from H) rfl (x:=.bool false) rfl ?_;apply ac;refine eI (show s.heap.get? z=some _ from H) rfl (x:=.ref TI) rfl ?_;apply ac;refine lm (show s.heap.get? TI=some _ from L) rfl ?_;dsimp only;rw[al (by simp)];apply ac;unfold p7;apply ac;refine eI (show s.heap.get? z=some _ from H) rfl (x:=.none) rfl (aA ?_);rw[aj rfl];apply ac;apply uW;apply ac;refine eI (show s.heap.get? z=some _ from H) rfl (x:=.ref TO) rfl ?_;dsimp only;apply ac;refine rR (show s.heap.get? z=some _ from H) (by simp) λh0 W b=>?_
 apply ac;show wpAny _ _ (forIn [(Value.ref i,0),(Value.ref d,1)] _ _) _ _ _;rw[kn];apply ac;apply ac;apply yu;show wpAny _ _ (gA (.ref i) >>= _) _ _ _;apply ac;refine yD (h1.extBut b.extBut n1) (R.extBut b.extBut n3) hx λha ia n=>aA ?_;dsimp only;have P:ha.get? TO=some { cls:=.type "tuple",data:=.seq #[p,q] }:=n.extBut _ _ n8 (b.extBut _ _ G M);apply ac;refine lm P rfl ?_;dsimp only;apply ac;refine D_ (s:={ s with heap:=ha }) P λhb j f=>?_;replace j:hb.get? TO=some { cls:=.type "tuple",data:=.seq #[x,q] }:=j;apply ac;apply wpAny_letGo;apply aA;dsimp only;rw[kn];apply ac;apply ac;apply yu;show wpAny _ _ (gA (.ref d) >>= _) _ _ _;apply ac;refine F4 (((h2.extBut b.extBut n2).extBut n.extBut n5).extBut f.extBut (aQ n9)) (((V.extBut b.extBut n4).extBut n.extBut n6).extBut f.extBut n10) hy λhc ic m=>aA ?_;dsimp only;have B:hc.get? TO=some { cls:=.type "tuple",data:=.seq #[x,q] }:=m.extBut _ _ n9 j;apply ac;refine lm B rfl ?_;dsimp only;apply ac;refine D_ (s:={ s with heap:=hc }) B λhd u t=>?_;replace u:hd.get? TO=some { cls:=.type "tuple",data:=.seq #[x,y] }:=u;apply ac;apply wpAny_letGo;apply aA;dsimp only;rw[AH];apply aA;dsimp only;apply ac;refine lm u rfl ?_;dsimp only;apply ac;refine yw (hsz:=by show 2≤sizeLine;decide) ?_;have S:hd.get? z=some { cls:=.type "zip",data:=.fields #[.ellipsis,.bool false,.bool false,.ref TI,.ref TO] }:=t.extBut _ _ (aQ G) (m.extBut _ _ (aQ n2) (f.extBut _ _ (aQ G) (n.extBut _ _ (aQ n1) W)));have C:=aO S;have X:(hd.push { cls:=.type "tuple",data:=.seq #[x,y] }).get? z=some { cls:=.type "zip",data:=.fields #[.ellipsis,.bool false,.bool false,.ref TI,.ref TO] }:=bD _ S;apply ac;unfold Hj;dsimp only;apply ac;refine rR X (by simp) λhe Z F=>?_;refine rR Z (by simp) λhf hz7 K=>?_;have a:∀c o,c≠z->hd.get? c=some o->hf.get? c=some o:=λc o N e=>K.extBut _ _ N (F.extBut _ _ N (bD _ e));refine aA ⟨_,rfl,hQ hf hd.objs.size hz7 ?_ ?_ (a _ _ G u) ?_ ?_ ?_⟩
 .exact (((ia.extBut f.extBut (aQ n8)).extBut m.extBut (aQ n5)).extBut t.extBut (aQ n8)).at λo e=>a _ o n1 e
 .obtain⟨o,e,_,r⟩:=(ic.extBut t.extBut (aQ n9)).obj;exact r _ (a _ o n2 e)
 .exact K.extBut _ _ (cm C) (F.extBut _ _ (cm C) (db _ rfl))
 .show hd.objs.size=s.heap.objs.size;rw[t.1,m.1,f.1,n.1,b.1]
 .exact λc o N v c3 c4 e=>a c o N (t.extBut _ _ c4 (m.extBut _ _ c3 (f.extBut _ _ c4 (n.extBut _ _ v (b.extBut _ _ N e)))))
theorem w8(H:A.handled=none)(a:gU s.heap z TI TO .none (.bool false))(T:eA s.heap TI (.ref d) (.ref I))
  (i:s.heap.IsListIter d g k) (l:s.heap.IsList g M) (S:M[k]? = none) (t:d≠z) (K:g≠z)
  (y:∀h e,(∀c o,c≠z->c≠d->s.heap.get? c=some o->h.get? c=some o)->(∃o,h.get? e=some o/\o.cls=.type "StopIteration")->E (.ref e) { s with heap:=h }) :
  wpAny (model prog w) A (Builtin.«zip.__next__» ⟨[.ref z],[]⟩) Q E s:=by
 unfold Builtin.«zip.__next__»;apply ac;apply aA;apply ac;refine eI (show s.heap.get? z=some _ from a) rfl (x:=.bool false) rfl ?_;apply ac;refine eI (show s.heap.get? z=some _ from a) rfl (x:=.ref TI) rfl ?_;apply ac;refine lm (show s.heap.get? TI=some _ from T) rfl ?_;dsimp only;rw[al (by simp)];apply ac;unfold p7;apply ac;refine eI (show s.heap.get? z=some _ from a) rfl (x:=.none) rfl (aA ?_);rw[aj rfl];apply ac;apply uW;apply ac;refine eI (show s.heap.get? z=some _ from a) rfl (x:=.ref TO) rfl ?_;dsimp only;apply ac;refine rR (show s.heap.get? z=some _ from a) (by simp) λB r b=>?_
 apply ac;show wpAny _ _ (forIn [(Value.ref d,0),(Value.ref I,1)] _ _) _ _ _;rw[kn];apply ac;apply ac;apply yu;show wpAny _ _ (gA (.ref d) >>= _) _ _ _;apply ac;refine Ea H (i.extBut b.extBut t) (l.extBut b.extBut K) S λh e x o=>?_;have n:=x _ _ (aQ t) r;refine rR (s:={ s with heap:=h }) n (by simp) λj F f=>y j e (λc p N v u=>f.extBut _ _ N (x _ _ v (b.extBut _ _ N u))) ?_;obtain⟨p,m,c⟩:=o;have P:e≠z:=λq=>by rw[q,n]at m;cases m;exact absurd (show Value.type "zip"=Value.type "StopIteration" from c) (by decide)
 exact⟨p,f.extBut _ _ P m,c⟩
end
theorem w4:typeLookup (.type "zip") "keys"=pure none:=by rw[D1,D'];kernel_rfl
theorem rW:typeLookup (.type "zip") "__getattr__"=pure none:=by rw[D1,D'];kernel_rfl
theorem oN:entryFor table "zip.__getattribute__"=some Builtin.«object.__getattribute__»:=
 entryFor_alias (id':="object.__getattribute__") (by kernel_rfl) (by decide +kernel) (by decide +kernel) (by kernel_rfl)
section
variable{prog:Program}{w:World}{A:Around}{E:VP}{s:Shared}
theorem Eg(z TI TO:Addr)(f0 f1:Value)(u:Tok):Meets (Builtin.«object.__getattribute__» ⟨[.ref z,.str "keys" u],[]⟩) (λA R s=>gU s.heap z TI TO f0 f1/\raisesAttr (.ref z) "keys" A R s):=
 .of_wp λprog w A R s hs=>by
  obtain⟨hp,g,d,tk,os⟩:=s;obtain⟨hx,hs⟩:=hs;unfold gU at hx;have hT:(⟨hp,g,d,tk,os⟩:Shared).TypeIs (.ref z) "zip":=⟨_,hx,rfl⟩;have nk:=w4;unfold Builtin.«object.__getattribute__»;repeat any_goals first|assumption|wp_step
  exact wpAny_raiseAttrError hs.1 hs.2 (attrMsg_fits (by decide +kernel) (by size_fits))
theorem CL(p:gU s.heap z TI TO l j)(v:A.handled=none)
  (h:∀x q,(∀b o,s.heap.get? b=some o->x.get? b=some o)->Q none { s with heap:=x,toks:=q }):wpAny (model prog w) A (getAttr? (.ref z) "keys") Q E s:=by
 obtain⟨hp,g,d,q,os⟩:=s;have T:∀t,(⟨hp,g,d,t,os⟩:Shared).TypeIs (.ref z) "zip":=λ_=>⟨_,p,rfl⟩;have j:=sub_AttributeError;have i:=u4.lookup;have y:=u4.bind (.ref z);have H:=rW;have step:∀(n:Nat)(u:Tok)(m:VP)(f:VP),(∀x c e,Heap.NewAttrErr hp x e (.ref z) "keys"->f (.ref e) ⟨x,g,d,c,os⟩) ->
   wpAny (model prog w) A (call (Value.builtin "zip.__getattribute__") ([Value.ref z]++[Value.str "keys" u]) []) m f ⟨hp,g,d,n,os⟩:=λn u m f k=>
  je u4 (T _) oN (F.args_zip_getattribute_2 _ _) (Eg z TI TO _ _ u) ⟨p,v,k⟩
 unfold getAttr?;unfold getAttrBy?;unfold getAttrBy;repeat any_goals first|assumption|exact T _|(with_reducible refine step _ _ _ _ λx t e a=>?_)|wp_step
 have r:=a.there;obtain⟨S,K,r⟩:=r;repeat any_goals first|assumption|wp_step
 exact h _ _ a.keeps
end
section
variable{prog:Program}{w:World}{A:Around}{E:VP}{s:Shared}
theorem vM(n:s.TypeIs (.ref z) "zip")
  (h:wpAny (model prog w) A.in1 (Builtin.«zip.__next__» ⟨[.ref z],[]⟩) (λf x=>∃v,f=.done (.ret v)/\Q (some v) x) (λe x=>∃a o,e=.ref a/\x.heap.get? a=some o/\o.cls=.type "StopIteration"/\Q none x) s) :
  wpAny (model prog w) A (pyNext (.ref z)) Q E s:=by
 unfold pyNext;apply ac;apply wpAny_attempt;refine rT (name:=Str.ofString "__next__") n zR (oK zR n F.entry_zip_next (di h (λf x ⟨v,e,q⟩=>⟨v,e,aA q⟩) λe x ⟨a,o,k,c,m,q⟩=>?_) (F.args_zip_next_1 _));subst k;apply ac;exact wpAny_isInstance (T:="StopIteration") (b:=true) ⟨_,c,m⟩ isSubtype_stop (aA q)
def JN(d:Addr)(h:Heap)(z TI TO i x l a:Addr)(k:Nat):Prop:=eA h TI (.ref i) (.ref x)/\h.IsListIter i l k/\h.IsTupleIter x a k /\
 ((k=0/\gU h z TI TO .none (.bool false)/\eA h TO .none .none)\/∃(T:Addr)(o:Obj)(f:Bool),gU h z TI TO (rawInt T) (.bool f)/\h.get? T=some o/\T≠z/\T≠i/\T≠x/\T≠d)
structure ZAp(d z TI TO i1 i2 l1 l2:Addr):Prop where
 nd:[d,z,TI,TO,i1,i2].Nodup
 l1n:l1 ∉ [d,z,TI,TO,i1,i2]
 l2n:l2 ∉ [d,z,TI,TO,i1,i2]
theorem JN.typeIs(x:JN d s.heap z TI TO n q l g k):s.TypeIs (.ref z) "zip":=by
 obtain⟨_,_,_,⟨_,h,_⟩|⟨T,o,f,h,_⟩⟩:=x
 .exact⟨_,h,rfl⟩
 .exact⟨_,h,rfl⟩
theorem JN.but(x:JN d h z TI TO q g l j k)(p:ZAp d z TI TO q g l j)(s:gx d h I):JN d I z TI TO q g l j k:=by
 have n:=p.nd;simp only[b_,aW,de,gy,kr]at n;obtain⟨b,c,m,r⟩:=x;refine⟨s.extBut _ _ (aQ n.1.2.1) b,c.extBut s.extBut (aQ n.1.2.2.2.1),m.extBut s.extBut (aQ n.1.2.2.2.2),?_⟩;rcases r with ⟨e,a,t⟩|⟨T,o,v,a,t,w,u,i,f⟩
 .exact .inl ⟨e,s.extBut _ _ (aQ n.1.1) a,s.extBut _ _ (aQ n.1.2.2.1) t⟩
 .exact .inr ⟨T,o,v,s.extBut _ _ (aQ n.1.1) a,s.extBut _ _ f t,w,u,i,f⟩
theorem Ek(p:ZAp d z TI TO I M l1 l2)(a:JN d s.heap z TI TO I M l1 l2 k)(hd:s.heap.get? d=some od)(l:s.heap.IsList l1 xs)(b:s.heap.IsTuple l2 ys)(B:xs[k]? = some x)(C:ys[k]? = some y)
  (P:∀h T,JN d h z TI TO I M l1 l2 (k+1)->eA h T x y->T≠d->(∀c o,c ∉ [z,TO,I,M]->s.heap.get? c=some o->h.get? c=some o)->Q (some (.ref T)) { s with heap:=h }) :
  wpAny (model prog w) A (pyNext (.ref z)) Q E s:=by
 have X:=p.nd;have V:=p.l1n;have W:=p.l2n;simp only[b_,aW,de,gy,kr]at X V W;refine vM a.typeIs ?_;obtain⟨m,g,i,R⟩:=a;rcases R with ⟨e,v,t⟩|⟨T,Z,f1,v,t,G,L,N,t4⟩
 .subst e;refine ud (tp:=true) v m t g i l b B C (by grind) (by grind) (by grind) (by grind) (by grind) (by grind) (by grind) (by grind) (by grind) (by grind) λh T S F K _ D q5 q=>?_
  have fresh:∀c o,s.heap.get? c=some o->T≠c:=λc o f z=>absurd (aO f) (by rw[<- z,q5];exact jA _);obtain⟨oi1,j,_⟩:=g;obtain⟨oi2,H,_⟩:=i;exact P h T ⟨q _ _ (by grind) (by grind) (by grind) (by grind) m,F,K,.inr ⟨T,_,false,S,D,fresh _ _ v,fresh _ _ j,fresh _ _ H,fresh _ _ hd⟩⟩ D (fresh _ _ hd) λc o n f=>q c o (λz=>n (by simp[z])) (λz=>n (by simp[z])) (λz=>n (by simp[z])) (λz=>n (by simp[z])) f
 .refine CM v m t g i l b B C (by grind) (by grind) (by grind) (by grind) (by grind) (by grind) (by grind) (by grind) (by grind) λh S F K q=>?_;have dl:d < h.objs.size:=aO (q _ _ (by grind) (by grind) (by grind) hd);have u:∀c o,h.get? c=some o->(h.push { cls:=.type "tuple",data:=.seq #[x,y] }).get? c=some o:=λc o e=>bD _ e;refine P _ _ ⟨u _ _ (q _ _ (by grind) (by grind) (by grind) m),?_,?_,.inr ⟨T,Z,true,u _ _ S,u _ _ (q _ _ G L N t),G,L,N,t4⟩⟩ (db _ rfl) (cm dl) λc o n f=>u _ _ (q c o (λz=>n (by simp[z])) (λz=>n (by simp[z])) (λz=>n (by simp[z])) f)
  .obtain⟨o,e,r⟩:=F;exact⟨o,u _ _ e,r⟩
  .obtain⟨o,e,r⟩:=K;exact⟨o,u _ _ e,r⟩
theorem HU(u:A.handled=none)(p:ZAp d z TI TO j I M l2)(a:JN d s.heap z TI TO j I M l2 k)(l:s.heap.IsList M xs)(i:xs[k]? = none)
  (v:∀h,(∀c o,c ∉ [z,TO,j,I]->s.heap.get? c=some o->h.get? c=some o)->Q none { s with heap:=h }):wpAny (model prog w) A (pyNext (.ref z)) Q E s:=by
 have S:=p.nd;have H:=p.l1n;simp only[b_,aW,de,gy,kr]at S H;refine vM a.typeIs ?_;obtain⟨r,t,F,y⟩:=a;rcases y with ⟨e,n,g⟩|⟨T,P,K,n,g,B,C,D,G⟩
 .subst e;exact w8 u n r t l i (by grind) (by grind) λh e q n=>by obtain⟨o,b,m⟩:=n;exact⟨e,o,rfl,b,m,v h λc o x f=>q c o (λz=>x (by simp[z])) (λz=>x (by simp[z])) f⟩
 .exact Ei u n r g t l i (by grind) (by grind) λh e q ⟨o,b,m⟩=>⟨e,o,rfl,b,m,v h λc o x f=>q c o (λz=>x (by simp[z])) (λz=>x (by simp[z])) f⟩
end
section
variable{prog:Program}{w:World}{K:Type}[DecidableEq K]{t:KeyKind prog w K}{A:Around}{E:VP}{R:Result->Shared->Prop}
inductive ZipsAt(knd:KeyKind prog w K):LV->LV->List (K×Value)->Prop
 |nil {vs:LV}:ZipsAt knd [] vs []
 |cons {key v:Value}{k:K}{us vs:LV}{kvs:List (K×Value)}:knd.is k key=true->ZipsAt knd us vs kvs->ZipsAt knd (key::us) (v::vs) ((k,v)::kvs)
set_option tactic.hygienic true in
theorem zl(hh:A.handled=none){u:Heap}(p:ZAp d z TI TO i1 i2 l1 l2)(fr:∀a ∈ [d,z,TI,TO,i1,i2],u.get? a=none)(L:u.IsList l1 j)(hl2:u.IsTuple l2 ys) :
  ∀(n:List (K×Value))(i:Nat)(f:List (K×Value))(s:Shared),(∀b o,u.get? b=some o->s.heap.get? b=some o)->JN d s.heap z TI TO i1 i2 l1 l2 i->s.heap.DictOf t d f->ZipsAt t (j.toList.drop i) (ys.toList.drop i) n ->
   ((f++n).map (·.1)).Nodup->(f++n).length≤sizeLine->i+n.length=j.size ->
   (∀l t',(∀b o,u.get? b=some o->l.get? b=some o)->l.DictOf t d (f++n)->R (.ok (.ret .none)) { s with heap:=l,toks:=t' }) ->
   codeAny (model prog w) A (.builtin "dict.update.loop" ⟨[.ref d,.ref z,rawInt i,.none],[]⟩) R s:=by
 have nd:=p.nd;simp only[b_,aW,de,gy,kr]at nd;have P:∀b o,u.get? b=some o->b ∉ [d,z,TI,TO,i1,i2]:=λb o e m=>by rw[fr b m]at e;cases e
 have dz:d ∉ [z,TO,i1,i2]:=by simp only[aW,de,gy,kr];grind
 intro n;induction n with
 |nil=>
  intro i f s C y hd hp N X hi h;have I:j[i]? = none:=by simp at hi ⊢;lia
  have H:s.heap.IsList l1 j:=by obtain⟨o,S,r⟩:=L;exact⟨o,C _ _ S,r⟩
  refine D0 F.entry_dict_update_loop ?_;rw[Ah F.plain_dict_update_loop _];unfold Builtin.«dict.update.loop»;show wpAny _ A.in1 (pyNext (.ref z) >>= _) _ _ s;refine ac (HU hh p y H I λl D=>?_);show wpAny _ A.in1 (Hg d [] >>= _) _ _ _;rw[eQ]at h;apply ac;apply aA;apply aA;refine h l s.toks (λb o e=>D b o (λm=>P b o e (by simp only[aW,de,gy]at m ⊢;grind)) (C b o e)) ?_;obtain⟨o,c,ep,S,r⟩:=hd;exact⟨o,c,ep,D _ _ dz S,r⟩
 |cons kv n ih=>
  intro i f s C y hd hp N X hi h;have H:s.heap.IsList l1 j:=by obtain⟨o,S,r⟩:=L;exact⟨o,C _ _ S,r⟩
  have M:s.heap.IsTuple l2 ys:=by obtain⟨o,S,r⟩:=hl2;exact⟨o,C _ _ S,r⟩
  generalize er:j.toList.drop i=us at hp;generalize c:ys.toList.drop i=vs at hp;cases hp with
  |cons hk hps=>
   rename_i B v k us' vs';have hx:j[i]? = some B:=by have:=gZ (·[0]?) er;simpa using this
   have hy:ys[i]? = some v:=by have:=gZ (·[0]?) c;simpa using this
   have er':j.toList.drop (i+1)=us':=by rw[<- AG,er];rfl
   have es':ys.toList.drop (i+1)=vs':=by rw[<- AG,c];rfl
   obtain⟨od,Z,ed2,Q,hdr⟩:=id hd;refine D0 F.entry_dict_update_loop ?_;rw[Ah F.plain_dict_update_loop _];unfold Builtin.«dict.update.loop»;show wpAny _ A.in1 (pyNext (.ref z) >>= _) _ _ s;refine ac (Ek p y Q H M hx hy λW T za g hTd D=>?_);have kp1:∀b o,u.get? b=some o->W.get? b=some o:=λb o e=>D b o (λm=>P b o e (by simp only[aW,de,gy]at m ⊢;grind)) (C b o e);have hd1:W.DictOf t d f:=⟨od,Z,ed2,D _ _ dz Q,hdr⟩;show wpAny _ A.in1 (holding [Value.ref T] _ >>= _) _ _ _;apply ac;apply iB;apply ac;apply wpAny_tryCatch;unfold Hh;refine ac (rM (T:="tuple") ⟨_,g,rfl⟩ ?_);rw[aj (by decide)];refine ac (lm (show W.get? T=some _ from g) rfl (aA ?_));show wpAny _ A.in1 (holding [B,v] (dictSet d B v)) _ _ _;refine iB ?_;refine wpAny_dictSet_pairs (s:={ s with heap:=W }) hk hd1 (λh2 G V=>?_) (by simp at X;lia);have hnk:k ∉ f.map (·.1):=by intro hm;rw[qC,lT]at N;exact N.2.2 _ hm _ (by simp) rfl
   have est:stored f k v=f++[(k,v)]:=by unfold stored;rw[al];intro E;obtain⟨x,hx1,hx2⟩:=qD.mp E;exact hnk (aM.mpr ⟨x,hx1,bC hx2⟩)
   rw[est]at G;refine aA ⟨DW F.plain_dict_update_loop _,?_⟩;have kp2:∀b o,u.get? b=some o->h2.get? b=some o:=λb o e=>V.extBut _ _ (λq=>P b o e (by simp[q])) (kp1 b o e);have e1:f++(k,v)::n=(f++[(k,v)])++n:=by simp
   rw[e1]at N X h;exact ih (i+1) (f++[(k,v)]) { s with heap:=h2,toks:=s.toks+1 } kp2 (za.but p V) G (er' ▸ es' ▸ hps) N X (by simp at hi;lia) λl t' k1 k2=>h l t' k1 k2
end
section
variable{prog:Program}{w:World}{K:Type}[DecidableEq K]{t:KeyKind prog w K}{A:Around}{E:VP}{s:Shared}
theorem pM(l:s.heap.IsList n I)(e:s.heap.IsTuple q M)
  (h:∀x i a TI TO z,(∀b o,s.heap.get? b=some o->x.get? b=some o)->s.heap.objs.size≤i->i < a->a < TI->TI < TO->TO < z->x.IsListIter i n 0->x.IsTupleIter a q 0->eA x TI (.ref i) (.ref a)->eA x TO .none .none ->
   gU x z TI TO .none (.bool false)->Q (.ref z) { s with heap:=x }):wpAny (model prog w) A (call (.type "zip") [.ref n,.ref q]) Q E s:=by
 refine callType_new F.called_zip (by decide) (F.typeCall_zip_2 _ _) (F.newCall_zip_2 _ _) (λj=>F.args_object_init_3 j _ _) F.entry_zip_new (Eh n q I M) ⟨l,e,λx i a TI TO z k c m r t p v d u g f=>?_⟩;show _/\_;exact⟨⟨_,f,rfl⟩,h x i a TI TO z k c m r t p v d u g f⟩
theorem ua{k:Heap}(hh:A.handled=none)(k0:∀b o,k.get? b=some o->s.heap.get? b=some o)(H:k.IsList l1 xs)(S:k.IsTuple l2 ys)
  (i:k.objs.size≤I) (D:I < M) (G:M < TI) (P:TI < TO) (j:TO < z) (b1:s.heap.IsListIter I l1 0) (b2:s.heap.IsTupleIter M l2 0) (b3:eA s.heap TI (.ref I) (.ref M)) (b4:eA s.heap TO .none .none) (y:gU s.heap z TI TO .none (.bool false))
  (hp:ZipsAt t xs.toList ys.toList C) (hn:(C.map (·.1)).Nodup) (hz:C.length≤sizeLine) (hi:C.length=xs.size)
  (h:∀d X,(∀b o,k.get? b=some o->d.get? b=some o)->d.DictOf t s.heap.objs.size C->Q (.ref s.heap.objs.size) { s with heap:=d,toks:=X }) :
  wpAny (model prog w) A (call (.type "dict") [.ref z]) Q E s:=by
 have fresh:(s.heap.push { cls:=.type "dict",data:=.dict #[] }).DictOf t s.heap.objs.size []:=.new s.heap;have u:∀b o,s.heap.get? b=some o->(s.heap.push { cls:=.type "dict",data:=.dict #[] }).get? b=some o:=λb o=>bD _;have q:z < s.heap.objs.size:=aO y;have K:=kt_code_dict_new (prog:=prog) (w:=w) (A:=A.in1) (E:=E) (s:=s) (Value.ref z) (Q₁:=λx z=>x=.ref s.heap.objs.size/\z={ s with heap:=s.heap.push { cls:=.type "dict",data:=.dict #[] } }) ⟨rfl,rfl⟩;apply callType_codes F.kt_called_dict (F.kt_typeCall_dict_1 (.ref z)) F.entry_dict_init K;rintro _ _ ⟨e,e'⟩;subst e e';generalize s.heap.push { cls:=.type "dict",data:=.dict #[] }=h1 at fresh u;refine⟨fresh.typeIs,F.args_dict_init_2 (.ref s.heap.objs.size) (.ref z),?_⟩;unfold Builtin.«dict.__init__» Hi;apply ac;apply ac;apply wpAny_notOrdered_dict fresh.typeIs;apply aA;show wpAny _ _ (zF "dict.__init__" s.heap.objs.size (.ref z) [] .none) _ _ _;unfold zF;refine ac (rM (T:="zip") ⟨_,u _ _ y,rfl⟩ ?_);rw[aj (by decide)];refine ac (CL (u _ _ y) hh λh2 tk k2=>?_);rw[aj (by rfl)];refine ac (uW ?_);have g:∀b o,s.heap.get? b=some o->h2.get? b=some o:=λb o e=>k2 b o (u b o e);have R:h2.DictOf t s.heap.objs.size []:=by obtain⟨o,c,ep,ho,r⟩:=fresh;exact⟨o,c,ep,k2 _ _ ho,r⟩
 refine ac (yA (z:=z) (TI:=TI) (TO:=TO) (f0:=.none) (g _ _ y) ?_);refine aA ⟨DW F.plain_dict_update_loop _,?_⟩;have V:l1 < k.objs.size:=by obtain⟨o,e,_⟩:=H;exact aO e
 have W:l2 < k.objs.size:=by obtain⟨o,e,_⟩:=S;exact aO e
 have f:∀{a b n:Nat},a < b->b < n->a < n:=λh d=>lW h d;have N:=f D G;have v:=f N P;have L:=f v j;have Z:=f L q;have c5:=f G P;have c6:=f c5 j;have c7:=f c6 q;have c8:=f P j;have c9:=f c8 q;have ca:=f j q;have low:∀{l n:Nat},l < k.objs.size->k.objs.size≤n->l≠n:=λh d=>bB (cq h d);have ge:∀n ∈ [s.heap.objs.size,z,TI,TO,I,M],k.objs.size≤n:=λn B=>by
  simp only[aW,de,gy]at B;rcases B with rfl|rfl|rfl|rfl|rfl|rfl
  .exact aF i (iY Z)
  .exact aF i (iY L)
  .exact aF i (iY N)
  .exact aF i (iY v)
  .exact i
  .exact aF i (iY D)
 have p:ZAp s.heap.objs.size z TI TO I M l1 l2:=by refine⟨?_,λm=>low V (ge _ m) rfl,λm=>low W (ge _ m) rfl⟩;simp only[b_,aW,de,gy,kr,AI,not_false_eq_true,mQ];exact⟨⟨cm q,cm c9,cm ca,cm Z,cm c7⟩,⟨cm c8,cm j,cm L,cm c6⟩,⟨bB P,cm N,cm G⟩,⟨cm v,cm c5⟩,bB D⟩
 refine zl (A:=A.in1) (t:=t) (u:=k) hh p (λn B=>?_) H S C 0 [] _ (λb o e=>g b o (k0 b o e)) ⟨g _ _ b3,?_,?_,.inl ⟨rfl,g _ _ y,g _ _ b4⟩⟩ R (by simpa using hp) (by simpa using hn) (by simpa using hz) (by lia) λd X q1 q2=>?_
 .cases e:k.get? n with
  |none=>rfl
  |some o=>exact absurd rfl (low (aO e) (ge n B))
 .obtain⟨o,e,r⟩:=b1;exact⟨o,g _ _ e,r⟩
 .obtain⟨o,e,r⟩:=b2;exact⟨o,g _ _ e,r⟩
 .exact⟨rfl,h d X q1 q2⟩
end
end PySem
set_option tactic.hygienic true
namespace Ev
open PySem PySem.Spec PyProof.Rows L2
@[simp] def zi(fa fb:EV)(L:Lc)(S:az):xg:=cf (fa L S) λx a=>cf (fb L a) λy h=>match x,y with
 | .lst k,.tup v=>match eJ k with
  |some B=>if (B.Nodup/\few k=true/\B.length≤v.length) then some (.ref h.length,h++[.dct B ((v.take B.length).map .p)]) else none
  |none=>none
 |_,_=>none
theorem Br:∀{B:List bG}{s i:LV}{x:List V},bc (B.map kV) s->bc x i->B.length≤x.length->ZipsAt (cJ g w) s i (B.zip i)/\L2.KV (B.zip x) (B.zip i)
 | [],_,i,x,h,_,_=>by cases h;exact⟨.nil,.nil⟩
 |k::B,_,_,[],h,_,l=>absurd l (by simp)
 |k::B,_,_,y::x,h,e,l=>by
  cases h with
  |cons r t=>
   cases e with
   |cons n f=>obtain⟨a,b⟩:=Br (g:=g) (w:=w) t f (by simpa using l);exact⟨.cons (pD r) a,.cons ⟨rfl,n⟩ b⟩
theorem oM:∀{xs:List L}{ys:List n},xs.length≤ys.length->(xs.zip ys).map (·.1)=xs/\(xs.zip ys).map (·.2)=ys.take xs.length
 | [],ys,_=>by simp
 |x::xs,[],h=>absurd h (by simp)
 |x::xs,y::ys,h=>by obtain⟨a,b⟩:=oM (xs:=xs) (ys:=ys) (by simpa using h);simp[a,b]
section
variable{X:Cx}{a b:Expr}{fa fb:EV}{p G N v:Pos}
theorem KS(hc:X.c=true)(gd:Gl X "dict")(md:X.g "dict"=none)(gz:Gl X "zip")(mz:X.g "zip"=none)(ha:PE X a (tV X.K fa))(hb:PE X b (tV X.K fb))(hs:starEach [a,b] X.e=[(false,eval a X.e),(false,eval b X.e)])(W:starEach [b] X.e=[(false,eval b X.e)])(hz:bootBuiltins "zip"=some (.type "zip")) :
  PE X (.Call (.Name "dict" p) [.Call (.Name "zip" G) [a,b] [] v] [] N) (tE X.K (zi fa fb)):=by
 intro pins s J H Q I ⟨F,m,L,S,d,S',r,l,q,k⟩;obtain⟨x,S1,e1,q⟩:=ai q;obtain⟨y,S2,e2,q⟩:=ai q;have hh:X.A.handled=none:=I.o.hd hc;refine mO (kE I gd md HM ?_ (by decide) (by decide));refine kj (fN ?_) rfl rfl;refine mO (kE I gz mz hz ?_ (by decide) (by decide));refine kj ?_ (by rw [hs,W]) (by rw [W];rfl);rw [hs];refine fN (dL (ha pins s J H (fun h g=>∃n P,Stp F m H n P g/\Rel X.K n g P S1/\RP X.K n g x h) I ⟨F,m,L,S,x,S1,r,l,e1,fun h n P g s1 r1 p1=>⟨n,P,s1,r1,p1⟩⟩) fun u s1 ⟨h,g,I1,ru,n,P,tF,r1,p1⟩=>
  fN (dL (hb pins s1 J g (λh C=>∃f D,Stp n P g f D C/\Rel X.K f C D S2/\RP X.K f C y h) I1 ⟨n,P,L,S1,y,S2,r1,l.mono tF,e2,λh f D C E r2 G=>⟨f,D,E,r2,G⟩⟩) λu2 E ⟨v2,C,M,ru2,f,D,st2,r2,G⟩=>jy ?_))
 cases x with
 |lst ks=>
  cases y with
  |tup vs=>
   dsimp only at q;cases ek:eJ ks with
   |none=>rw[ek]at q;cases q
   |some B=>
    rw[ek]at q;dsimp only at q;split at q
    .rename_i c;cases q;obtain⟨ax,xs,rfl,hq,rp⟩:=RP.mono st2 p1;obtain⟨ay,ys,rfl,ta,rq⟩:=G;cases (show u=Value.ref ax from ru);cases (show u2=Value.ref ay from ru2);obtain⟨z1,Z,n1,rx,V,ex⟩:=M.lstM hq.2;obtain⟨i,ry,ity,hzy⟩:=M.tuple ta.sq;have exs:=jX ek rp;subst exs;have K:B.length≤ys.length:=by rw[<- rq.length];exact c.2.2
     obtain⟨za,zk⟩:=Br (g:=X.p) (w:=X.w) rx ry K;have hl2:B.length≤i.length:=by rw[<- ry.length];exact K
     obtain⟨zf1,zf2⟩:=oM (xs:=B) (ys:=ys) K;obtain⟨A,_⟩:=oM (xs:=B) (ys:=i) hl2;have R:(B.zip i).length=Z.toArray.size:=by have:=gZ nu A;rw[aR]at this;rw[this,be,<- V,aR]
     have hkz:(B.zip i).length≤sizeLine:=by rw[R,be,<- V];exact z1
     have T:E.heap.IsList ax Z.toArray:=⟨_,ex,rfl,n1,rfl⟩;refine pM T ity λe i1 i2 TI TO z k0 a1 a2 a3 a4 a5 b1 b2 b3 b4 b5=>jy ?_;refine ua (t:=cJ X.p X.w) (s:={ E with heap:=e }) (k:=E.heap) hh k0 T ity a1 a2 a3 a4 a5 b1 b2 b3 b4 b5 (by simpa using za) (by rw[A];exact c.1) hkz R λh'' t' k1 dd=>?_;have j:E.heap.objs.size≤e.objs.size:=iY (lX a1 (lW a2 (lW a3 (lW a4 (lW a5 (aO b5))))));have hf:C e.objs.size=none:=M.h.fresh j;have hsm:(e.objs.size == sysModules)=false:=by have:=M.big;simp only[rJ];exact cm (cq this j)
     have hkv:(B.zip ys).length≤sizeLine:=by have e1:=gZ nu zf1;have e2:=gZ nu A;rw[aR]at e1 e2;lia
     have I3:=M.laid (a:=e.objs.size) (o:=.dK (B.zip ys)) (t':=t') k1 j ⟨hkv,hsm,_,zk,dd⟩;refine⟨.ref e.objs.size,_,I3,rfl,k (.ref e.objs.size) f (D++[e.objs.size]) _ (tF.trans (st2.trans (fu hf))) (r2.own hf ⟨_,aU,zf1,?_⟩) ⟨e.objs.size,rfl,?_⟩⟩
     .rw [zf2,vh];exact(dO.mono (fu hf) (dO.ofP rq)).take _
     .rw [<- r2.len,ce (ah _)];simp
    .cases q
  |_=>cases q
 |_=>cases y<;>cases q
end
end Ev
namespace Ev
open PySem PySem.Spec PyProof.Rows L2
def RM(x c:P):Option Bool:=match c with
 | .lst s=>if (s.all (cK 19) && cK 19 x)=true then some (s.any λy=>bz (pd y) (pd x)) else none
 | .tup s=>if (s.all (cK 19) && cK 19 x)=true then some (s.any λy=>bz (pd y) (pd x)) else none
 |_=>none
def Qg(d c:D)(S:az):Option Bool:=(fJ S 9 d).bind λx=>(fJ S 9 c).bind λy=>RM x y
def xS(d c:D)(S:az):Option P:=(mD c S).elim ((Qg d c S).map .bl) λ_=>MD d c S
section
variable{X:Cx}{f:PN}{J:L2.St}{H:Hp}{s:Shared}{F:Aa}{m:List Addr}{S:az}{d e:D}{x y:V}{v u:Value}{b:Bool}{Q:VK}
theorem Mv(A:X.A.units+64 < cLine)(I:Inv X f J H s)(i:RelV x v)(j:RelV y u)(p:Rel X.K F H m S)(w:RD X.K F H m d x)(g:RD X.K F H m e y)(q:Qg d e S=some b) :
  (Q (.bl b) H->wx X (compareOp .In v u) (EP X f J Q) X.xe s)/\(Q (.bl (!b)) H->wx X (compareOp .NotIn v u) (EP X f J Q) X.xe s):=by
 unfold Qg at q;cases c:fJ S 9 d with
 |none=>rw[c]at q;cases q
 |some B=>
  rw[c]at q;cases t:fJ S 9 e with
  |none=>rw[t]at q;cases q
  |some K=>
   rw[t]at q;simp only[kl]at q;cases K with
   |lst P=>
    simp only[RM]at q;split at q
    .rename_i h;rw[aD]at h;cases q;obtain⟨z,r⟩:=e_ I p 9 20 g j t (by simpa[cK] using h.1);obtain⟨o,n⟩:=e_ I p 9 19 w i c h.2;have l:=FC h.1;have a:=fU 19 _ h.2;rw[pd]at r;exact⟨λk=>SeqAt.in_list_reads r n l.1 a.1 (by lia) ⟨.bl _,H,I,rfl,by rw[nN];exact k⟩,λk=>SeqAt.notIn_list_reads r n l.1 a.1 (by lia) ⟨.bl _,H,I,rfl,by rw[nN];exact k⟩⟩
    .cases q
   |tup P=>
    simp only[RM]at q;split at q
    .rename_i h;rw[aD]at h;cases q;obtain⟨z,r⟩:=e_ I p 9 20 g j t (by simpa[cK] using h.1);obtain⟨o,n⟩:=e_ I p 9 19 w i c h.2;have l:=FC h.1;have a:=fU 19 _ h.2;rw[pd]at r;exact⟨λk=>SeqAt.in_tuple_reads r n l.1 a.1 (by lia) ⟨.bl _,H,I,rfl,by rw[nN];exact k⟩,λk=>SeqAt.notIn_tuple_reads r n l.1 a.1 (by lia) ⟨.bl _,H,I,rfl,by rw[nN];exact k⟩⟩
    .cases q
   |_=>cases q
end
section
variable{X:Cx}
theorem OO(n:X.A.units+64 < cLine):ke X (compareOp .In) (rE X.K xS):=by
 intro f s J H x y v u Q I t w h;obtain⟨F,m,S,d,e,r,l,p,c,q,k⟩:=h;unfold xS at q;cases a:mD e S with
 |some i=>rw[a]at q;exact ON n f s J H x y v u Q I t w ⟨F,m,S,d,e,r,l,p,c,q,k⟩
 |none=>rw[a]at q;obtain⟨b,g,rfl⟩:=fO.mp (show(Qg d e S).map P.bl=some r from q);exact(Mv n I t w l p c g).1 (k _ F H .refl rfl)
end
noncomputable def gD(g:GF):GF:=λd S=>g (d++[.p .non]) S
section
variable{X:Cx}{B:Pos}{e:Expr}{M:Ab}{c:pP}
theorem KQ(z:Mk X.K C t)(G:FnOk X.p X.w X.K X.g X.b tH i t fd ps (sk X.K g))(hr:Room (i+1) X.A)(hg:Gl X x)(hm:X.g x=some (.ref C))(hC:kf X.K x C)(hb:Binds X.K fd ps [.none])
  (ha:PA X (e::M) (yj X.K c)) (K:(x == ("__debug__":Str))=false) (he:starEach (e::M) X.e=(false,eval e X.e)::starEach M X.e) (A:(backTo B (starEach M X.e)).any (·.1)=false) :
  PE X (.Call (.Name x p) (e::M) [] B) (tE X.K (uE (gD g) x c)):=
 (BQ z G hr hg hm hb (dvs:=[.non]) (.cons rfl .nil) sB ha K he A).imp' λJ H Q hz=>by
  obtain⟨F,m,L,S,d,E,r,l,q,i⟩:=hz;obtain⟨j,f,e1,q⟩:=ai q;refine⟨F,m,L,S,j,f,r,l,e1,λxs s a k s1 I p1=>λy h hy w P=>?_⟩;split at q
  .rename_i _ S2 eg;cases q;have N:Stp s a k s a (cx k h (.own y)):=jC w;have r2:Rel X.K s (cx k h (.own y)) a f:=I.new w;have u:cx k h (.own y) y=none:=by rw[aw (aQ P)];exact hy
   have R:Stp s a (cx k h (.own y)) s (a++[y]) (cx (cx k h (.own y)) y (.ins C h [])):=fu u;have r3:Rel X.K s (cx (cx k h (.own y)) y (.ins C h [])) (a++[y]) (f++[.ins x [] []]):=r2.own u ⟨C,h,[],hC,aU,rfl,rfl⟩;have b:(a++[y])[f.length]? = some y:=by rw[<- I.len,ce (ah _)];simp
   have p3:=dO.mono R (dO.mono N p1);have o:g (.ref f.length::(j++[.p .non])) (f++[.ins x [] []])=some (.p .non,E):=eg;have D:RD X.K s (cx (cx k h (.own y)) y (.ins C h [])) (a++[y]) (.p .non) .non:=show V.non=V.non from rfl;have pp:dO X.K s (cx (cx k h (.own y)) y (.ins C h [])) (a++[y]) (j++[.p .non]) (xs++[.non]):=dO.append p3 ⟨_,_,rfl,D,rfl⟩;refine⟨s,a++[y],.ref f.length::(j++[.p .non]),_,.p .non,E,r3,⟨_,_,rfl,⟨y,rfl,b⟩,pp⟩,o,λv W m4 Z T r4 p4=>⟨p4,?_⟩⟩;refine i (.ref y) W m4 Z (s1.trans (N.trans (R.trans T))) r4 ⟨y,rfl,?_⟩;obtain⟨n,en⟩:=T.pre;rw[en,bA (bL.mp b).1];exact b
  .cases q
end
section
variable{X:Cx}{f:PN}{J:L2.St}{H:Hp}{s:Shared}{k:List Addr}{j:Heap}
theorem F9(I:Inv X f J H s)(t:∀b ∈ k,tu X f H b)(p:∀b o,b ∉ k->s.heap.get? b=some o->j.get? b=some o)
  (w:j.get? s.heap.objs.size=some { cls:=.type "tuple",data:=.seq #[u,v] }) (B:RelV x u) (C:RelV y v):Inv X f J (cx H s.heap.objs.size (.tup [x,y])) { s with heap:=j }:=by
 have h:H s.heap.objs.size=none:=I.h.fresh (ah _);have d:∀{b:Addr}{o:HO},H b=some o->b ∉ k:=λ{b o} q z=>by rw[(t b z).1]at q;cases q
 refine I.step (g':=s.gens) (d':=s.drawn) (t':=s.toks) (ch:=k) (λb e=>?_) (λb o _ _ a q _=>p b o a q) (λb o _ _ a q _=>⟨o.slots,p b o a q⟩) (λb o _ q n=>?_) (λb o a q=>⟨o,p b o a q⟩)
  (λb g q=>?_) (λb o g q=>?_) (λb E q=>⟨#[],?_⟩) (λm P=>?_) (λb D q=>?_) I.bare
 .obtain⟨_,l,_,S,F,K⟩:=t b e;exact⟨S,l,F,K⟩
 .rw [aw (bB (aO q))];exact n
 .rw [aw (br q h)];exact q
 .rw [aw (br q h)];exact q
 .rw [aw (br q h),q];simp
 .obtain⟨o,M,i,A,r⟩:=P;exact⟨o,M,i,p _ o (λz=>(t _ z).2.1 rfl) A,r⟩
 .by_cases e:b=s.heap.objs.size
  .subst e;rw[aU]at q;cases q;exact⟨by show 2≤sizeLine;decide,[u,v],.cons B (.cons C .nil),⟨_,w,⟨rfl,_,rfl⟩,rfl⟩⟩
  .rw [aw e]at q;refine(I.h b D q).stay (λc v a z=>p c v ?_ z) (λc z=>by rw[aw (br z h)];exact z) λc g z=>by rw[aw (br z h)];exact z
   rcases a with rfl|a
   .exact d q
   .exact d a
theorem Mu(I:Inv X f J H s)(x:∀b ∈ k,tu X f H b)(p:∀b o,b ∉ k->s.heap.get? b=some o->j.get? b=some o):Inv X f J H { s with heap:=j }:=by
 have e:∀{b:Addr}{o:HO},H b=some o->b ∉ k:=λ{b o} q z=>by rw[(x b z).1]at q;cases q
 refine I.step (g':=s.gens) (d':=s.drawn) (t':=s.toks) (ch:=k) (λb g=>?_) (λb o _ _ h q _=>p b o h q) (λb o _ _ h q _=>⟨o.slots,p b o h q⟩) (λ_ _ _ _ n=>n) (λb o h q=>⟨o,p b o h q⟩)
  (λ_ _ q=>q) (λ_ _ _ q=>q) (λb S q=>⟨#[],by rw[q];simp⟩) (λm i=>?_) (λb y q=>?_) I.bare
 .obtain⟨_,t,_,d,w,u⟩:=x b g;exact⟨d,t,w,u⟩
 .obtain⟨o,M,a,l,r⟩:=i;exact⟨o,M,a,p _ o (λz=>(x _ z).2.1 rfl) l,r⟩
 .refine (I.h b y q).stay (λc v h z=>p c v ?_ z) (λc z=>z) λc F z=>z;rcases h with rfl|h
  .exact e q
  .exact e h
def M8(t:Bool)(K:FG)(H:Hp)(a:Addr)(x:List V):Prop:=if t=true then oF K H a x else gY K H a x
theorem Iy(I:Inv X f J H s)(h:M8 t X.K H a q):∃i:LV,bc q i/\JP t s.heap a i.toArray:=by
 cases t
 .obtain⟨i,r,p,_⟩:=I.list h;exact⟨i,r,p.isList⟩
 .obtain⟨i,r,⟨o,e,c,n⟩,_⟩:=I.tuple h;exact⟨i,r,o,e,c,n⟩
theorem Ir(p:JP t r a g)(q:JP t r a i):g=i:=by cases t<;>(obtain⟨o,e,c,n,d⟩:=p;obtain⟨f,x,s,k,h⟩:=q;rw[e]at x;cases x;rw[d]at h;cases h;rfl)
theorem EW(I:Inv X f J H s)(p:M8 t X.K H a g)(q:M8 t X.K H a z):g=z:=by
 obtain⟨i,r,k⟩:=Iy I p;obtain⟨x,n,b⟩:=Iy I q;have e:=Ir k b;have h:i=x:=by simpa using gZ ve e
 subst h;exact bc.inj r n
end
def M9(K:FG)(t:Bool)(a b:Addr):It:=
 ⟨λi H=>∃s h x y,gY K H a s/\M8 t K H b h/\s[i]? = some x/\h[i]? = some y,λi H x e=>∃p u v,x=.ref p/\H p=none/\e=cx H p (.tup [u,v])/\(∀s,gY K H a s->s[i]? = some u)/\∀h,M8 t K H b h->h[i]? = some v,λi H=>∃s,gY K H a s/\s.length≤i⟩
theorem Ey{P:Program}{w:World}{K:FG}{M:Ab}{n:Nat}{B:Pos}(tp:Bool){a b z TI TO t d:Addr}(nd:[z,TI,TO,t,d].Nodup)(na:a ∉ [z,TI,TO,t,d])(nb:b ∉ [z,TI,TO,t,d]) :
  jR P w K (.Tuple M n B) (M9 K tp a b) [z,TI,TO,t,d] z (λi h=>gU h z TI TO .none (.bool false)/\eA h TI (.ref t) (.ref d)/\(∃p q,eA h TO p q)/\h.IsListIter t a i/\DP tp h d b i) where
 mem:=by simp
 obj:=λi h st c m=>by
  obtain⟨r,g,⟨p,q,F⟩,⟨o1,Q,c1,d1⟩,S⟩:=st;obtain⟨o2,C,⟨vs,d2⟩,_⟩:=S.obj;simp only[aW,de,gy]at m;rcases m with rfl|rfl|rfl|rfl|rfl
  .exact⟨_,r,λv x=>by have G:Data.fields _=Data.cell v:=x;cases G⟩
  .exact⟨_,g,λv x=>by have G:Data.seq _ _=Data.cell v:=x;cases G⟩
  .exact⟨_,F,λv x=>by have G:Data.seq _ _=Data.cell v:=x;cases G⟩
  .exact⟨o1,Q,λv x=>by rw[d1]at x;cases x⟩
  .exact⟨o2,C,λv x=>by rw[d2]at x;cases x⟩
 keep:=λi h j st k=>by obtain⟨r,g,⟨p,q,F⟩,A,S⟩:=st;obtain⟨o2,C,_,r2⟩:=S.obj;exact⟨k z (by simp) _ r,k TI (by simp) _ g,⟨p,q,k TO (by simp) _ F⟩,A.at λo e=>k t (by simp) o e,r2 _ (k d (by simp) _ C)⟩
 item:=by
  intro X W hw V m i f s J H E I L st hg;subst W hw V;obtain⟨xs,ys,x,y,N,D,hx,hy⟩:=hg;obtain⟨its,rv,pl,_⟩:=I.list N;obtain⟨u,hu,ru⟩:=rv.get hx;obtain⟨its2,rv2,s2⟩:=Iy I D;obtain⟨v,hv,rv'⟩:=rv2.get hy;obtain⟨r,g,⟨p,q,F⟩,A,S⟩:=st;have lt:∀c ∈ [z,TI,TO,t,d],c < s.heap.objs.size:=λc m=>by
   obtain⟨o1,Q,_⟩:=id A;obtain⟨o2,C,_⟩:=S.obj;simp only[aW,de,gy]at m;rcases m with rfl|rfl|rfl|rfl|rfl
   .exact aO r
   .exact aO g
   .exact aO F
   .exact aO Q
   .exact aO C
  simp only[b_,aW,de,gy,kr]at nd na nb;refine vM ⟨_,r,rfl⟩ (ud r g F A S pl.isList s2 (by simpa using hu) (by simpa using hv) (by grind) (by grind) (by grind) (by grind) (by grind) (by grind) (by grind) (by grind) (by grind) (by grind) λj T q1 q2 q3 q4 q5 q6 q7=>?_);subst q6;refine⟨_,rfl,wpAny_letOwnedTupleGo_zip (s:={ s with heap:=j }) q1 λR z2 l=>?_⟩;replace l:gx z j R:=l;have kp:∀c o,c ∉ [z,TI,TO,t,d]->s.heap.get? c=some o->R.get? c=some o:=λc o m e=>by simp only[aW,de,gy,kr]at m;exact l.extBut _ _ m.1 (q7 c o m.1 m.2.2.2.1 m.2.2.2.2 m.2.2.1 e)
  have zlt:=lt z (by simp);have Z:H s.heap.objs.size=none:=I.h.fresh (ah _);have I2:Inv X f J (cx H s.heap.objs.size (.tup [x,y])) { s with heap:=R }:=F9 I L kp (l.extBut _ _ (cm zlt) q5) ru rv';refine⟨.ref s.heap.objs.size,_,I2,rfl,⟨_,x,y,rfl,Z,rfl,λxs' h=>by rw[I.list_inj h N];exact hx,λys' h=>by rw[EW I h D];exact hy⟩,⟨z2,l.extBut _ _ (by grind) (q7 _ _ (by grind) (by grind) (by grind) (by grind) g),⟨u,v,l.extBut _ _ (by grind) q4⟩,q2.extBut l.extBut (by grind),q3.extBut l.extBut (by grind)⟩,λc m=>?_⟩;rw[aw (bB (lt c m))];exact(L c m).1
 done:=by intro X W hw V m i f s J H E I L st hg;subst W hw V;obtain⟨xs,N,hx⟩:=hg;obtain⟨its,rv,pl,_⟩:=I.list N;obtain⟨r,g,⟨p,q,F⟩,A,S⟩:=st;have hl:=rv.length;simp only[b_,aW,de,gy,kr]at nd na;refine vM ⟨_,r,rfl⟩ (w8 (show X.A.in1.handled=none from I.o.hd m) r g A pl.isList (by simp;lia) (by grind) (by grind) λj e kp hz=>?_);obtain⟨o,eo,co⟩:=hz;refine⟨e,o,rfl,eo,co,rfl,Mu I L λc ob m ec=>kp c ob (λx=>m (by simp[x])) (λx=>m (by simp[x])) ec⟩
 self:=λ_ _ _ _ _ st h=>yA st.1 h
theorem DF(t:Bool)(x:s.heap.IsList r g)(a:JP t s.heap q C)
  (h:∀j i e TI TO z,(∀b o,s.heap.get? b=some o->j.get? b=some o)->s.heap.objs.size≤i->i < e->e < TI->TI < TO->TO < z->j.IsListIter i r 0->DP t j e q 0->eA j TI (.ref i) (.ref e)->eA j TO .none .none ->
   gU j z TI TO .none (.bool false)->Q (.ref z) { s with heap:=j }):wpAny (model l w) A (call (.type "zip") [.ref r,.ref q]) Q E s:=by
 cases t
 .refine call_zip_2 x a λj m T n k f _ c=>?_;exact h j s.heap.objs.size (s.heap.objs.size+1) (s.heap.objs.size+2) (s.heap.objs.size+3) (s.heap.objs.size+4) c (ah _) (i3 _) (i3 _) (i3 _) (i3 _) k f T n m
 .exact pM x a h
noncomputable def rX(x y:List P):List P:=(x.zip y).map λz=>.tup [z.1,z.2]
@[simp] def O0(a b:EV)(L:Lc)(S:az):CQ:=cf (a L S) λv e=>cf (b L e) λw h=>match v,w with
 | .lst x,.lst y=>if x.length≤y.length then some (rX x y,h) else none
 | .lst x,.tup y=>if x.length≤y.length then some (rX x y,h) else none
 |_,_=>none
theorem FX{K:FG}{F:Aa}{m:List Addr}{H:Hp}{A:Bool}{a b:Addr}{d w:List P}{n f:List V}(I:d.length≤w.length)(L:∀k t h,Stp F m H k t h->gY K h a n/\M8 A K h b f)(r:dg K F H d n)(Q:dg K F H w f):Kz K (M9 K A a b) (rX d w) F m H:=by intro k t h st;obtain⟨c,s⟩:=L k t h st;have M:=r.length;refine⟨λi v e=>?_,⟨n,c,by unfold rX;rw[aR,vj,vx I,M];exact ah _⟩⟩;unfold rX at e;rw[dW]at e;obtain⟨⟨T,W⟩,B,rfl⟩:=fO.mp e;obtain⟨C,D⟩:=List.getElem?_zip_eq_some.mp B;obtain⟨x,l,p⟩:=r.get C;obtain⟨y,o,N⟩:=Q.get D;refine⟨⟨n,f,x,y,c,s,l,o⟩,λz R q=>?_⟩;obtain⟨X,u,v,rfl,S,rfl,E,G⟩:=q;have g:=E n c;have j:=G f s;rw[l]at g;rw[o]at j;cases g;cases j;exact⟨k,cw S,RP.newTup S ⟨_,_,rfl,RP.mono st p,_,_,rfl,RP.mono st N,rfl⟩⟩
theorem iZ{X:Cx}{B:Pos}{M:Ab}{n:Nat}{a b:Expr}{h fb:EV}{p G:Pos}(gz:Gl X "zip")(mz:X.g "zip"=none)(ha:PE X a (tV X.K h))(hb:PE X b (tV X.K fb))(hs:starEach [a,b] X.e=[(false,eval a X.e),(false,eval b X.e)])(Q:starEach [b] X.e=[(false,eval b X.e)]) :
  PI X (.Tuple M n B) (.Call (.Name "zip" p) [a,b] [] G) (tI X.K (O0 h fb)):=by
 intro f s J H R I ⟨F,m,L,S,vs,S',r,l,q,k⟩;obtain⟨x,S1,e1,q⟩:=ai q;obtain⟨y,S2,e2,q⟩:=ai q;refine mO (kE I gz mz Av ?_ (by decide) (by decide));refine kj ?_ (by rw [hs,Q]) (by rw [Q];rfl);rw [hs];refine fN (dL (ha f s J H (fun v K=>∃w P,Stp F m H w P K/\Rel X.K w K P S1/\RP X.K w K x v) I ⟨F,m,L,S,x,S1,r,l,e1,fun v w P K T r1 p1=>⟨w,P,T,r1,p1⟩⟩) fun u T ⟨v,K,I1,ru,w,P,tF,r1,p1⟩=>
  fN (dL (hb f T J K (λv t=>∃g A,Stp w P K g A t/\Rel X.K g t A S2/\RP X.K g t y v) I1 ⟨w,P,L,S1,y,S2,r1,l.mono tF,e2,λv g A t C r2 p2=>⟨g,A,C,r2,p2⟩⟩) λu2 C ⟨v2,t,E,ru2,g,A,d,r2,p2⟩=>jy ?_))
 have go:∀(D:Bool){i o:Addr}{xs ys:List V},v=.ref i->v2=.ref o->gY X.K t i xs->M8 D X.K t o ys->R (M9 X.K D i o) t->wx X (call (.type "zip") [u,u2]) (λv T=>wx X (pyIter v) (PM X f J (.Tuple M n B) R) X.xe T) X.xe C:=λD {i o xs ys} ea eb hq hq2 qR=>by
  subst ea eb;cases ru;cases ru2;obtain⟨its,_,pl,_⟩:=E.list hq;obtain⟨its2,_,sq⟩:=Iy E hq2;have la:i < C.heap.objs.size:=by obtain⟨_,e,_⟩:=pl.isList;exact aO e
  have lb:o < C.heap.objs.size:=by cases D<;>(obtain⟨_,e,_⟩:=sq;exact aO e)
  refine DF D pl.isList sq λj i1 i2 TI TO z kp n0 n1 n2 n3 n4 hi1 hi2 hTI hTO hz=>yA hz ?_;refine⟨z,[z,TI,TO,i1,i2],_,_,t,rfl,E.kept (t':=C.toks) kp,Ey D (a:=i) (b:=o) (by simp;grind) (by simp;grind) (by simp;grind),⟨hz,hTI,⟨_,_,hTO⟩,hi1,hi2⟩,λc hc=>?_,qR⟩;have N:C.heap.objs.size≤c:=by simp only[aW,de,gy]at hc;grind
  exact E.fpOk N (E.h.fresh N)
 cases x with
 |lst ds=>
  cases y with
  |lst ds2=>
   dsimp only at q;split at q
   .rename_i hl;cases q;obtain⟨i,xs,rfl,W,ra⟩:=RP.mono d p1;obtain⟨o,ys,rfl,Z,rb⟩:=p2;exact go false rfl rfl W.sq Z.sq (k _ g A t (tF.trans d) r2 (FX (A:=false) hl (λF3 m3 H3 s=>⟨(W.kp s.kp).sq,(Z.kp s.kp).sq⟩) ra rb))
   .cases q
  |tup ds2=>
   dsimp only at q;split at q
   .rename_i hl;cases q;obtain⟨i,xs,rfl,W,ra⟩:=RP.mono d p1;obtain⟨o,ys,rfl,Z,rb⟩:=p2;exact go true rfl rfl W.sq Z.sq (k _ g A t (tF.trans d) r2 (FX (A:=true) hl (λF3 m3 H3 s=>⟨(W.kp s.kp).sq,(Z.kp s.kp).sq⟩) ra rb))
   .cases q
  |_=>cases q
 |_=>cases q
noncomputable def GH:P->Option (List P)
 | .lst x=>some x
 | .tup x=>some x
 |_=>none
@[simp] def Cr(a:EV)(L:Lc)(S:az):xg:=cf (a L S) λv h=>(GH v).map λx=>(.ref h.length,h++[.lst (x.map .p)])
section
variable{X:Cx}
theorem KO{a:Expr}{h:EV}{p B:Pos}(D:Gl X "list")(E:X.g "list"=none)(C:PE X a (tV X.K h))(i:starEach [a] X.e=[(false,eval a X.e)]):PE X (.Call (.Name "list" p) [a] [] B) (tE X.K (Cr h)):=
 (l0 kO D E qw (fS C jk (by rw[i];rfl)) (by decide) (by decide) (by rw[i];rfl) rfl).imp' λJ H Q z=>by
  obtain⟨F,m,L,S,d,G,r,l,q,k⟩:=z;obtain⟨x,K,A,q⟩:=ai q;obtain⟨I,w,q⟩:=fO.mp q;cases q;refine⟨F,m,L,S,x,K,r,l,A,λv e s c o t j=>?_⟩;cases x with
  |lst P=>cases w;obtain⟨a,y,rfl,g,u⟩:=j;refine⟨a,y,rfl,.inl g.sq,λb n=>?_⟩;have f:Stp e s c e (s++[b]) (cx c b (.lst y)):=fu n;refine k (.ref b) e (s++[b]) _ (o.trans f) (t.own n ⟨y,aU,dO.ofP (dg.mono f u)⟩) ⟨b,rfl,?_⟩;rw[<- t.len,ce (ah _)];simp
  |tup P=>cases w;obtain⟨a,y,rfl,g,u⟩:=j;refine⟨a,y,rfl,.inr g.sq,λb n=>?_⟩;have f:Stp e s c e (s++[b]) (cx c b (.lst y)):=fu n;refine k (.ref b) e (s++[b]) _ (o.trans f) (t.own n ⟨y,aU,dO.ofP (dg.mono f u)⟩) ⟨b,rfl,?_⟩;rw[<- t.len,ce (ah _)];simp
  |_=>cases w
end
section
variable{X:Cx}{a:Expr}{h:EE}{p B:Pos}
noncomputable def xM(T:String)(d:D)(S:az):Option Bool:=match d with
 | .p (.bl _)=>if T="bool" then some true else none
 | .ref i=>(match S[i]? with
  |some (.lst _)=>if T="list" then some true else none
  |_=>none)
 |_=>none
@[simp] def k4(T:String)(f:EE)(L:Lc)(S:az):tyV:=cf (f L S) λd h=>(xM T d h).map λb=>(.bl b,h)
theorem DG(M:T="list"\/T="bool"):fH X (.builtin "isinstance") (λg H Q=>∃F m S d b x,g=[x,.ty T]/\Rel X.K F H m S/\RD X.K F H m d x/\xM T d S=some b/\Q (.bl b) H):=by
 intro f s J H g R Q I r ⟨F,m,S,d,b,x,e,E,pd,i,q⟩;subst e;obtain⟨u,G,rfl,l,v⟩:=vals2 r;cases (show G=Value.type T from v);have k:∀y,EP X f J Q (.bool b) { s with toks:=y }:=λy=>⟨.bl b,H,I.tok _,rfl,q⟩
 unfold xM at i;cases d with
 |p w=>
  cases w with
  |bl c=>
   dsimp only at i;split at i
   .rename_i h;subst h;cases i;cases (show x=.bl c from pd);cases (show u=Value.bool c from l);exact Bm PySem.W.kitx_bool I.kIn True.intro rfl (λz=>nomatch z) k
   .cases i
  |_=>cases i
 |ref j=>
  obtain⟨a,rfl,B⟩:=pd;dsimp only at i;cases t:S[j]? with
  |none=>rw[t]at i;cases i
  |some o=>
   rw[t]at i;cases o with
   |lst L=>
    dsimp only at i;split at i
    .rename_i h;subst h;cases i;obtain⟨g,A,N⟩:=E.obj j a _ B t;cases l;obtain⟨C,_,D,_⟩:=I.list (gY.of A);obtain⟨o,n,K,P,_⟩:=D;exact Bm PySem.W.kitx_list I.kIn ⟨o,K,P⟩ rfl (λz=>nomatch z) k
    .cases i
   |_=>cases i
theorem JT(z:T="list"\/T="bool")(P:Gl X "isinstance")(A:X.g "isinstance"=none)(g:Gl X t)(e:X.g t=none)(K:bootBuiltins t=some (.type T))(o:PE X a (tE X.K h))
  (C:t≠"__name__") (hd:(t == ("__debug__":Str))=false) (f:starEach [a,.Name t i] X.e=[(false,eval a X.e),(false,eval (.Name t i) X.e)]):PE X (.Call (.Name "isinstance" p) [a,.Name t i] [] B) (tV X.K (k4 T h)):=
 (nM (DG z) P A HP (fS o (fS (IW (v:=.ty T) g e K rfl C hd) jk rfl) (by rw[f];rfl)) (by decide) (by decide) (by rw[f];rfl) rfl).imp' λJ H Q D=>by obtain⟨F,m,L,S,d,G,r,l,q,k⟩:=D;obtain⟨x,I,j,q⟩:=ai q;obtain⟨b,y,q⟩:=fO.mp q;cases q;exact⟨F,m,L,S,_,_,r,l,j,λv n c u s w E=>⟨n,c,_,x,b,v,rfl,w,E,y,k _ n c u s w rfl⟩⟩
end
noncomputable def Fa:List D->Option (List P)
 | []=>some []
 | .p v::r=>(Fa r).map (v::·)
 | .ref _::_=>none
theorem wb:∀{d:List D}{p:List P},Fa d=some p->d=p.map .p
 | [],_,h=>by cases h;rfl
 | .p v::r,p,h=>by obtain⟨qs,e,rfl⟩:=fO.mp h;rw[aE,<- wb e]
 | .ref _::_,_,h=>by cases h
def BV(d:D)(S:az):Option (Nat×List P):=(d8 d S).bind λz=>(Fa z.2).map λp=>(z.1,p)
def mR(f:EE)(t:List Nat)(n:Nat)(g:kY)(c:EB)(e:EV)(L:Lc)(S:az):tyV:=cf (f L S) λd x=>(BV d x).bind λz=>if few z.2=true then cf (iK (λh=>h[z.1]? = some (.lst (z.2.map .p))) g c e z.2 (li t n L) x) λy h=>some (.lst y,h) else none
theorem MV(T:PE X iter (tE X.K N)):tw X tg iter (mR N ts n g G I) ts n g G I:=by
 refine⟨_,iO T,λJ H F m L S d u r l q=>?_⟩;obtain⟨d',f,y,q⟩:=ai q;obtain⟨⟨j,p⟩,C,q⟩:=nr.mp q;obtain⟨⟨s,ds⟩,z,o⟩:=nr.mp C;obtain⟨Z,K,P⟩:=fO.mp o;cases P;obtain⟨rfl,M⟩:=jE z;cases wb K;dsimp only at q;split at q;case isFalse=>cases q
 rename_i Q;obtain⟨ys,S3,A,q⟩:=ai q;cases q;refine⟨_,p,f,ys,rfl,Q,⟨F,m,L,S,s,f,_,r,l,y,M,λa w V H1 s1 r1 c=>⟨w,V,s1,r1,λF2 W H2 u st r2 ok=>?_⟩⟩,A⟩;have h:W[s]? = some a:=by obtain⟨k,B⟩:=st.pre;rw[B,bA (bL.mp c).1];exact c
 obtain⟨xs,b,t⟩:=r2.obj s a _ h ok;have R:=t.length;refine⟨λi v e=>?_,F0 (gY.of b) (by rw[<- R,aR];exact ah _)⟩;obtain⟨x,E,px⟩:=t.get (show(p.map D.p)[i]? = some (.p v) by rw[dW,e];rfl);exact Mq (e:=false) (gY.of b) E px
@[simp] def pQ(a:EE)(lo s:EO)(L:Lc)(S:az):tyV:=cf (a L S) λd x=>cf (lo L x) λi e=>cf (s L e) λj h=>(BV d h).map λz=>(.lst (cut z.2 i j),h)
theorem E8{K:FG}{F:Aa}{H:Hp}{m:List Addr}:∀{s:List P}{h:List V},dO K F H m (s.map .p) h->dg K F H s h
 | [],_,r=>r
 |p::s,_,r=>by obtain⟨x,n,rfl,a,e⟩:=r;exact⟨x,n,rfl,a,E8 e⟩
theorem QN{X:Cx}{e:Expr}{lo u:Option Expr}{h:EE}{w t:EO}{B p2:Pos}(T:PE X e (tE X.K h))(W:PO X lo (tO X.K w))(V:PO X u (tO X.K t)):PE X (.Subscript e (.Slice lo u none p2) B) (tV X.K (pQ h w t)):=
 (xu BG T W V).imp' λJ H Q hz=>by obtain⟨F,m,L,S,d,K,r,l,q,k⟩:=hz;obtain⟨x,b,P,q⟩:=ai q;obtain⟨i,c,A,q⟩:=ai q;obtain⟨j,S3,C,q⟩:=ai q;obtain⟨⟨n,ps⟩,D,q⟩:=fO.mp q;obtain⟨⟨n',ds⟩,E,G⟩:=nr.mp D;obtain⟨ps',I,N⟩:=fO.mp G;cases N;cases q;obtain⟨rfl,M⟩:=jE E;cases wb I;refine⟨F,m,L,S,_,b,r,l,P,λv z m1 H1 s r1 p1=>?_⟩;refine⟨z,m1,L,b,i,c,r1,l.mono s,A,λo m2 H2 f r2=>?_⟩;refine⟨o,m2,L,c,j,K,r2,(l.mono s).mono f,C,λF3 m3 H3 y g=>?_⟩;obtain⟨a,rfl,Z⟩:=RD.mono y (RD.mono f p1);obtain⟨xs,R,rs⟩:=g.obj _ a _ Z M;exact⟨a,xs,rfl,gY.of R,λp hp=>k _ _ m3 _ ((s.trans (f.trans y)).trans (cM hp).stp) (g.grow (cM hp)) (.newLst hp ((E8 rs).cut i j))⟩
end Ev
namespace PySem
open PySem PyProof.Rows
section
variable{l:Program}{w:World}{A:Around}{E:VP}{s:Shared}
theorem Dy(u:A.handled=none)(n t:Addr)(k:t≠n)(m:Array Value):Draws l w A n [n,t] m.size (λi v=>m[i]? = some v) (λi h=>h.IsTupleIter n t i/\h.IsTuple t m) where
 live:=λ_ _ st=>by obtain⟨⟨o,g,_⟩,_⟩:=st;exact⟨o,g⟩
 frame:=λ_ _ _ st r=>⟨st.1.at λo e=>r n (by simp) o e,st.2.at λo e=>r t (by simp) o e⟩
 item:=λi s Q E f st d=>by obtain⟨a,b⟩:=st;exact r_ a b (x:=m[i]) (by simp[f]) λj c p=>d _ j s.toks (by simp[f]) ⟨c,b.extBut p.extBut k⟩ p
 done:=λs Q E st q=>by obtain⟨a,b⟩:=st;exact nI u a b (by simp) q
theorem Dz(a:A.handled=none)(b:r[n]? = none):Draws l w A q [q,t] n (λ_ _=>True) (λj h=>j=n/\h.IsTupleIter q t n/\h.IsTuple t r) where
 live:=λ_ _ st=>by obtain⟨_,⟨o,c,_⟩,_⟩:=st;exact⟨o,c⟩
 frame:=λ_ _ _ st k=>⟨st.1,st.2.1.at λo e=>k q (by simp) o e,st.2.2.at λo e=>k t (by simp) o e⟩
 item:=λi s Q E f st _=>absurd st.1 (bB f)
 done:=λs Q E st x=>nI a st.2.1 st.2.2 b x
theorem vQ{h:Heap}(k:h.IsTuple t n)(e:h.IsTupleIter r t i):t≠r:=λz=>by subst z;obtain⟨o,s,a,_⟩:=k;obtain⟨f,x,c,_⟩:=e;rw[s]at x;cases x;rw[a]at c;simp at c
theorem vR{i:Int}(s:n.IsTuple t r)(a:IsEnum n e q i x):e≠t:=λz=>by subst z;obtain⟨o,h,c,_⟩:=s;rw[show n.get? e=_ from a]at h;cases h;simp at c
theorem Du (t:Addr) (r:Array Value):Meets (Builtin.«enumerate.__new__» ⟨[.type "enumerate",.ref t],[]⟩) (fun _ R s=>s.heap.IsTuple t r /\
  ∀j,IsEnum j (s.heap.objs.size+1) s.heap.objs.size 0 .none->j.IsTupleIter s.heap.objs.size t 0->j.objs.size=s.heap.objs.size+2->(∀b o,s.heap.get? b=some o->j.get? b=some o)->R (.ok (.ret (.ref (s.heap.objs.size+1)))) { s with heap:=j }):=
 .of_wp λl w A R s h=>by
  obtain⟨hp,g,d,H,os⟩:=s;obtain⟨m,h⟩:=h;have u:=sub_enumerate;obtain⟨⟨S,v,i,y⟩,a,e,n,hd⟩:=id m;dsimp only at e hd;subst e hd;have T:DR (Shared.heap ⟨hp,g,d,H,os⟩) t r:=m
  wp_walk using uY a
  let k:Obj:={ cls:=.type "tuple_iterator",data:=.fields #[.ref t,.int 0 0] }
  let q:Obj:={ cls:=.type "enumerate",data:=.fields #[.none,.bool false,.ref hp.objs.size,rawInt 0,.none,.none] }
  have z:(hp.push k).objs.size=hp.objs.size+1:=rH ..;have p:IsEnum ((hp.push k).push q) (hp.objs.size+1) hp.objs.size 0 .none:=by rw[<- z];exact db _ rfl
  have f:=h _ p ⟨_,bD _ (db _ rfl),rfl,rfl⟩ ((rH ..).trans (by rw[z])) λb o x=>bD _ (bD _ x);rw[show Array.size hp.objs+1=(hp.push k).objs.size from z.symm]at f;apply wpAny_stack_any;intro st;apply aA;split
  .rename_i c _ _ _ _ _;rcases c == Value.type "enumerate" with _|_;all_goals
    wp_walk using uY a,vb T
    exact⟨_,rfl,f⟩
  .wp_walk using uY a,vb T
   exact⟨_,rfl,f⟩
theorem zv(a:s.heap.IsTuple t n)
  (h:∀j,IsEnum j (s.heap.objs.size+1) s.heap.objs.size 0 .none->j.IsTupleIter s.heap.objs.size t 0->j.objs.size=s.heap.objs.size+2->(∀b o,s.heap.get? b=some o->j.get? b=some o)->Q (.ref (s.heap.objs.size+1)) { s with heap:=j }) :
  wpAny (model l w) A (call (.type "enumerate") [.ref t]) Q E s:=callType_new F.called_enumerate (by decide) (F.typeCall_enumerate_1 _) (F.newCall_enumerate_1 _) (λx=>F.args_object_init_2 x _) F.entry_enumerate_new (Du t n) ⟨a,λj e i z k=>⟨⟨_,e,rfl⟩,h j e i z k⟩⟩
end
end PySem
namespace Ev
open PySem PySem.Spec PyProof.Rows L2
section
variable{X:Cx}{B:Pos}
def PV(K:FG)(a:Addr):It:=
 ⟨λi H=>∃s x,oF K H a s/\s[i]? = some x,λi H x h=>∃p y,x=.ref p/\H p=none/\h=cx H p (.tup [.int i,y])/\∀s,oF K H a s->s[i]? = some y,λi H=>∃s,oF K H a s/\s.length≤i⟩
theorem yJ{P:Program}{w:World}{K:FG}{M:Ab}{n:Nat}(a e g:Addr)(V:e≠g):jR P w K (.Tuple M n B) (PV K a) [e,g] e (λi h=>(∃S,IsEnum h e g i S)/\h.IsTupleIter g a i) where
 mem:=by simp
 obj:=λi h st b F=>by
  obtain⟨⟨S,L⟩,⟨o,ho,c,d⟩⟩:=st;have:b=e\/b=g:=by simpa using F
  rcases this with rfl|rfl
  .exact⟨_,L,λv z=>by have z':Data.fields _=Data.cell v:=z;cases z'⟩
  .exact⟨o,ho,λv z=>by rw[d]at z;cases z⟩
 keep:=λi h j st k=>by obtain⟨⟨S,L⟩,y⟩:=st;exact⟨⟨S,k e (by simp) _ L⟩,y.at λo q=>k g (by simp) o q⟩
 item:=by
  intro X hP hw hK p i f s J H E I hf st hg;subst hP hw hK;obtain⟨xs,x,hq,hx⟩:=hg;obtain⟨T,rv,pl,hz⟩:=I.tuple hq;obtain⟨u,hu,ru⟩:=rv.get hx;obtain⟨⟨S,L⟩,y⟩:=st;obtain⟨f0,f1,f2,f3,f4,f5⟩:=hf e (by simp);obtain⟨g0,g1,g2,g3,g4,g5⟩:=hf g (by simp);have pT:s.heap.IsTuple a T.toArray:=pl;have hai:=vQ pT y;have hae:=vR pT L;have D:=Dy (l:=X.p) (w:=X.w) (A:=X.A.in1) (I.o.hd p) g a hai T.toArray;refine wpAny_pyNext_enum_itemD D L ⟨y,pT⟩ (by simpa using (bL.mp hu).1) V (by simp[V,hae]) λu2 h1 tk hu2 ho1 N ht1 hz1 hk1=>?_
  obtain⟨N,_⟩:=N;have hu3:u2=u:=by simp[hu]at hu2;exact hu2.symm
  subst hu3;refine⟨_,rfl,Ee (s:={ s with heap:=h1,toks:=tk+1 }) ho1 λh2 he2 R=>?_⟩;replace R:gx e h1 h2:=R;have W:e < s.heap.objs.size:=aO L;have Q:∀b o,b≠e->b≠g->s.heap.get? b=some o->h2.get? b=some o:=λb o b1 b2 q=>(R.2 b b1).trans (hk1 b o b1 b2 q)
  have Z:h2.get? s.heap.objs.size=some { cls:=.type "tuple",data:=.seq #[.int i tk,u2] }:=(R.2 _ (cm W)).trans ht1;have G:H s.heap.objs.size=none:=I.h.fresh (ah _);have ne:∀{b:Addr}{o:HO},H b=some o->b≠e/\b≠g:=λ{b o} q=>⟨λz=>(by rw[z,f0]at q;cases q),λz=>(by rw[z,g0]at q;cases q)⟩;have C:∀b,b ∉ [e,g]->b≠e/\b≠g:=λb F=>⟨λz=>F (by simp[z]),λz=>F (by simp[z])⟩;have I':Inv X f J (cx H s.heap.objs.size (.tup [.int i,x])) { s with heap:=h2,gens:=s.gens,drawn:=s.drawn,toks:=tk+1 }:=by
   refine I.step (ch:=[e,g]) (λb F=>?_) (λb o _ _ p q _=>Q b o (C b p).1 (C b p).2 q) (λb o _ _ p q _=>⟨o.slots,Q b o (C b p).1 (C b p).2 q⟩) (λb o _ q n=>?_) (λb o p q=>⟨o,Q b o (C b p).1 (C b p).2 q⟩)
    (λb ys q=>?_) (λb o ys q=>?_) (λb ps q=>⟨#[],?_⟩) (λm hm=>?_) (λb u' q=>?_) I.bare
   .have:b=e\/b=g:=by simpa using F
    rcases this with rfl|rfl
    .exact⟨f3,f1,f4,f5⟩
    .exact⟨g3,g1,g4,g5⟩
   .rw [aw (bB (aO q))];exact n
   .rw [aw (br q G)];exact q
   .rw [aw (br q G)];exact q
   .rw [aw (br q G),q];simp
   .obtain⟨o,M,ep,ho,r⟩:=hm;exact⟨o,M,ep,Q _ o (aQ f1) (aQ g1) ho,r⟩
   .by_cases F:b=s.heap.objs.size
    .subst F;rw[aU]at q;cases q;exact⟨by show 2≤sizeLine;decide,[.int i tk,u2],.cons ⟨_,rfl⟩ (.cons ru .nil),⟨_,Z,⟨rfl,_,rfl⟩,rfl⟩⟩
    .rw [aw F]at q;refine(I.h b u' q).stay (λc v p z=>Q c v ?_ ?_ z) (λc z=>by rw[aw (br z G)];exact z) λc ys z=>by rw[aw (br z G)];exact z
     .rcases p with rfl|p
      .exact (ne q).1
      .exact (ne p).1
     .rcases p with rfl|p
      .exact (ne q).2
      .exact (ne p).2
  refine⟨.ref s.heap.objs.size,_,I',rfl,⟨s.heap.objs.size,x,rfl,G,rfl,λys hy=>by rw[I.tuple_inj hy hq];exact hx⟩,⟨⟨u2,by simpa using he2⟩,N.at λo q=>(R.2 g (aQ V)).trans q⟩,λb F=>?_⟩;have hb':b=e\/b=g:=by simpa using F
  obtain⟨oi,hoi,_⟩:=id y;rcases hb' with rfl|rfl
  .rw [aw (bB W)];exact f0
  .rw [aw (bB (aO hoi))];exact g0
 done:=by intro X hP hw hK p i f s J H E I hf st hg;subst hP hw hK;obtain⟨xs,hq,hx⟩:=hg;obtain⟨T,rv,pl,hz⟩:=I.tuple hq;obtain⟨⟨S,L⟩,y⟩:=st;obtain⟨g0,g1,g2,g3,g4,g5⟩:=hf g (by simp);have hl:=rv.length;have pT:s.heap.IsTuple a T.toArray:=pl;exact wpAny_pyNext_enum_endD (Dz (l:=X.p) (w:=X.w) (A:=X.A.in1) (I.o.hd p) (q:=g) (t:=a) (r:=T.toArray) (n:=i) (by simp;lia)) L ⟨rfl,y,pT⟩ λj eb=>⟨rfl,I.turned (t':=s.toks) (λb o F e=>eb b o F e) g0 g1 g3 g4 g5⟩
 self:=λ_ _ _ _ _ st h=>by obtain⟨⟨S,L⟩,_⟩:=st;exact va L h
theorem Jj{K:FG}{F:Aa}{m:List Addr}{H:Hp}{a:Addr}{c:List P}{s:List V}(w:∀h k n,Stp F m H h k n->oF K n a s)(r:dg K F H c s):Kz K (PV K a) (bJ 0 c) F m H:=by
 intro h k n st;have q:=w h k n st;have l:=r.length;refine⟨λi v e=>?_,⟨s,q,by rw[dD,l];exact ah _⟩⟩;obtain⟨d,t,rfl⟩:=mh e;obtain⟨x,f,p⟩:=r.get t;refine⟨⟨s,x,q,f⟩,λz g y=>?_⟩;obtain⟨j,y,rfl,b,rfl,u⟩:=y;have:y=x:=by have:=u s q;rw[f]at this;cases this;rfl
 subst this;refine⟨h,cw b,RP.newTup b ⟨_,_,rfl,?_,_,_,rfl,RP.mono st p,rfl⟩⟩;show V.int (i:Int)=V.int (0+(i:Int));rw[dq]
@[simp] def iD(a:EV)(L:Lc)(S:az):CQ:=cf (a L S) λv h=>match v with
 | .lst x=>some (bJ 0 x,h)
 | .ro x=>some (bJ 0 x,h)
 | .tup x=>some (bJ 0 x,h)
 |_=>none
theorem Tz{M:Ab}{n:Nat}{a:Expr}{h:EV}{p c:Pos}(C:Gl X "enumerate")(E:X.g "enumerate"=none)(K:PE X a (tV X.K h))(y:starEach [a] X.e=[(false,eval a X.e)]):PI X (.Tuple M n B) (.Call (.Name "enumerate" p) [a] [] c) (tI X.K (iD h)):=by
 intro f s J H R I ⟨F,m,L,S,vs,T,r,l,q,k⟩;obtain⟨v,V,o,q⟩:=ai q;cases v with
 |lst i=>exact iE C E K y f s J H R I ⟨F,m,L,S,vs,T,r,l,by unfold RI;rw[o];exact q,k⟩
 |ro i=>exact iE C E K y f s J H R I ⟨F,m,L,S,vs,T,r,l,by unfold RI;rw[o];exact q,k⟩
 |tup i=>
  have hA:PA X [a] (tD X.K (bI h aY)):=G3 K JM (by rw[y];rfl);refine Call_ (kE I C E An (kj (dL (hA c f s J H (λz e=>∃t d,Stp F m H t d e/\Rel X.K t e d V/\dg X.K t e [.tup i] z) I ⟨F,m,L,S,[.tup i],V,r,l,?_,λz t d e x Q N=>⟨t,d,x,Q,N⟩⟩) λus x ⟨z,e,w,Z,t,d,st,Q,N⟩=>?_) (by rw[y];rfl) rfl))
  .simp only[bI,aY,o,av]
  obtain⟨x1,rfl,px⟩:=yU N;obtain⟨u,rfl,ru⟩:=vals1 Z;cases q;obtain⟨b,z,rfl,ta,ra⟩:=px;have kk:=k _ t d e st Q (Jj (λF2 m2 H2 s=>(ta.kp s.kp).sq) ra);cases ru;obtain⟨G,Z,pl,hz⟩:=w.tuple ta.sq;refine zv (show x.heap.IsTuple b G.toArray from pl) λj W D hsz hk=>?_;refine va W ?_;have g:∀b,x.heap.objs.size≤b->e b=none:=λb P=>w.h.fresh P;refine⟨x.heap.objs.size+1,[x.heap.objs.size+1,x.heap.objs.size],_,_,e,rfl,w.kept (t':=x.toks) hk,yJ b _ _ (cm (i3 _)),⟨⟨_,W⟩,D⟩,λb P=>?_,kk⟩;have A:b=x.heap.objs.size+1\/b=x.heap.objs.size:=by simpa using P
  rcases A with rfl|rfl
  .exact w.fpOk (kq _) (g _ (kq _))
  .exact w.fpOk (ah _) (g _ (ah _))
 |_=>cases q
end
end Ev
namespace Ev
open PySem PySem.Spec PyProof.Rows L2
def dM(g:GF)(p:List P):Option P:=match g (p.map .p) [] with
 |some (d,S)=>(toP 9 d S).map (·.1)
 |none=>none
@[simp] noncomputable def oX:Option (Fl×Lc×az)->Option (D×az)
 |some (.rt d,_,S)=>some (d,S)
 |some (.nx,_,S)=>some (.p .non,S)
 |_=>none
def jS(p n:Nat)(b:ES):GF:=λd S=>if d.length=p then oX (b (d.map some++List.replicate (n-d.length) none) S) else none
theorem Rel.nil{K:FG}{F:Aa}{H:Hp}(f:∀a,F a->H a≠none):Rel K F H [] []:=⟨rfl,by simp,by simp,by simp,by simp,f⟩
variable{K:FG}{H:Hp}
theorem sj(h:P1 K (dM g) y H a s):sk K g y H a s:=by
 obtain⟨F,f,d,t,r,q,k⟩:=h;unfold dM at q;cases e:g (f.map .p) [] with
 |none=>rw[e]at q;cases q
 |some z=>
  obtain⟨n,S⟩:=z;rw[e]at q;dsimp only at q;cases x:toP 9 n S with
  |none=>rw[x]at q;cases q
  |some o=>obtain⟨p,A⟩:=o;rw[x]at q;cases q;refine⟨F,[],f.map .p,[],n,S,.nil t,dO.ofP r,e,λv P B c j w i=>?_⟩;obtain⟨b,l,u,_,m⟩:=sg 9 x w i;exact k v b c ((j.trans l).toGrow u.ft) m
variable{k:Nat}
theorem FnOk.pure(G:FnOk a w K m base tH k f d p (sk K g)):FnOk a w K m base tH k f d p (P1 K (dM g)):=
 FnOk.imp G λ_ _ _ _ h=>sj h
theorem dO.toSt(r:dO K F H m s f):RL K F H m (L2.start N f) (s.map some++List.replicate (N.length-s.length) none):=by
 have l:=r.length;refine⟨by unfold L2.start;simp[l],λi d e=>?_⟩;by_cases h:i < s.length
 .rw [bA (by simpa using h),dW]at e;cases q:s[i]? with
  |none=>rw[q]at e;cases e
  |some v=>rw[q]at e;cases e;obtain⟨x,a,p⟩:=r.get q;refine⟨x,?_,p⟩;unfold L2.start;rw[bA (by simpa[<- l] using h),dW,a];rfl
 .rw [ce (by simpa using h),vq]at e;split at e<;>cases e
theorem ME{P:Program}{w:World}{K:FG}{j:SV}{base:Heap}{x u:Str}{st:Stmt}{f:Addr}{g:FuncData}{N p:LS}{k:Nat}{b:ES}(F:Fun K x u st f g)(S:FnScope N p (bw st))
  (I:∀(c:Value) (A:Around) (o:List Env) (s:Shared) (H:Hp) (E:XK),Room k (A.deeper (envOfC u (bw st) s.heap.objs.size f c)) ->
   p0 (x5 tH P w K j base N u (bw st) f c A o s H E).nox (fW st) (nh K b)):FnOk P w K j base tH (k+1) f g p (sk K (jS p.length N.length b)):=by
 refine F.ok S (λT H Q E h=>?_) (λc A o s H T Q E M h=>⟨_,I c A o s H E M,?_⟩)
 .obtain⟨F,m,a,S,d,D,B,r,q,k⟩:=h;rw[<- r.length];unfold jS at q;split at q
  .assumption
  .cases q
 .obtain⟨F,m,a,S,d,D,B,r,q,k⟩:=h;unfold jS at q;split at q
  .cases e:b (a.map some++List.replicate (N.length-a.length) none) S with
   |none=>rw[e]at q;cases q
   |some z=>
    obtain⟨l,L,G⟩:=z;rw[e]at q;refine⟨F,m,_,S,l,L,G,B,r.toSt,e,λV n i t C y X=>?_⟩;cases l with
    |nx=>cases q;exact k .non n i t C y rfl
    |bk=>cases q
    |ct=>cases q
    |rt W=>intro v R;cases q;exact k v n i t C y R
  .cases q
theorem Gn{P:Program}{w:World}{K:FG}{g:SV}{base:Heap}{f:Addr}{x:FuncData}{p:LS}{k:Nat}:FnOk P w K g base tH k f x p (sk K λ_ _=>none):=by
 have n:∀v H Q E,¬sk K (λ_ _=>none) v H Q E:=λv H Q E h=>by obtain⟨F,m,b,S,d,e,_,_,q,_⟩:=h;cases q
 exact⟨λv H Q E h=>absurd h (n v H Q E),λA o s H a u v Q E _ _ _ _ h=>absurd h (n v H Q E)⟩
structure Tr where
 v:Option EV:=none
 e:Option EE:=none
 b:Option EB:=none
 w:Option EB:=none
def Tr.ofV(f:Option EV):Tr:=⟨f,f.map U,f.map λg=>bT (U g),f.map bV⟩
def Tr.ofC(f:Option EV):Tr:=⟨f,f.map U,f.map bV,f.map bV⟩
def Tr.ofE(f:Option EE):Tr:=⟨f.map vE,f,f.map bT,f.map λg=>bV (vE g)⟩
def Tr.ofB(b w:Option EB):Tr:=⟨w.map vB,w.map λg=>U (vB g),b,w⟩
structure Cn where
 N:LS
 own:LS
 deep:LS
 refs:LS
 ks:List (Str×NameKind)
 F:Str->Option GF
 G:Str->Option P
 A:Str->Str->Bool
 M:Str->Str->Option GF
 I:Str->Option GF
noncomputable def nU:LS->Str->Option Nat
 | [],_=>none
 |y::r,x=>if y=x then some 0 else (nU r x).map (·+1)
theorem sJ:∀{N:LS}{x:Str}{i:Nat},nU N x=some i->N[i]? = some x
 | [],_,_,h=>by cases h
 |y::r,x,i,h=>by
  unfold nU at h;split at h
  .rename_i e;cases h;simp[e]
  .cases q:nU r x with
   |none=>rw[q]at h;cases h
   |some j=>rw[q]at h;cases h;simpa using sJ q
theorem pE:∀{N:LS}{x:Str}{i:Nat},N.Nodup->N[i]? = some x->nU N x=some i
 | [],_,_,_,h=>by simp at h
 |y::r,x,0,_,h=>by
  have:y=x:=by simpa using h
  unfold nU;rw[aj this]
 |y::r,x,i+1,d,h=>by
  have a:r[i]? = some x:=by simpa using h
  have n:¬y=x:=λe=>by subst e;exact(b_.mp d).1 (aZ a)
  unfold nU;rw[al n,pE (b_.mp d).2 a];rfl
noncomputable def eK(s:List (Str×NameKind))(x:Str)(l:List NameKind):Bool:=match s.lookup x with
 |some k=>l.contains k
 |none=>false
noncomputable def kC(x:Str):Bool:=!(x == ("__debug__":Str)) && !(x == ("__classdict__":Str))
noncomputable def Ha:LS:=["Scene"]
def SH:Operator->Option (P->P->Option P)
 | .Add=>some lE
 | .Sub=>some MP
 | .Mult=>some pJ
 | .FloorDiv=>some zm
 | .Mod=>some MT
 | .Pow=>some MR
 |_=>none
def Nq:CmpOp->Option (P->P->Option P)
 | .Lt=>some RY
 | .LtE=>some Pr
 | .Gt=>some R0
 | .GtE=>some R1
 |_=>none
def MU:CmpOp->Option (D->D->az->Option P)
 | .Eq=>some Dp
 | .NotEq=>some Kk
 | .In=>some xS
 | .Is=>some mj
 | .IsNot=>some cD
 |_=>none
def tJ:List (Option EV)->Option lh
 | []=>some aY
 |a::r=>a.bind λf=>(tJ r).map λg=>bI f g
def xi:List (Option EE)->Option pP
 | []=>some j3
 |a::r=>a.bind λf=>(xi r).map λg=>cN f g
def xb(o:BoolOp):List (Option EB)->Option EB
 | []=>none
 | [a]=>a
 |a::r=>a.bind λf=>(xb o r).map λg=>match o with | .And=>kc f g | .Or=>uS f g
def N5(o:Option (Option EV)):Option EO:=match o with
 |none=>some cY
 |some a=>a.map cV
noncomputable def F5(t:Str):Option String:=if t=("list":Str) then some "list" else if t=("bool":Str) then some "bool" else none
def GQ(f:Str):Option (List P->Option P):=
 if f=("int":Str) then some dC else if f=("list":Str) then some gb else if f=("tuple":Str) then some bO else if f=("abs":Str) then some pN else none
noncomputable def JH:LS:=["len","isinstance","int","bool","tuple","list","str","max","min","dict","range","abs","enumerate","sorted","all","any","sum","set","zip"]
noncomputable def uk(a s:List (Str×NameKind)):List (Str×NameKind):=a.map λ(n,k)=>if (k == .free && s.lookup n == some .cell) then (n,.cell) else (n,k)
def zx(j:Cn)(E:Scope)(o:LS)(Q:List Nat)(n:Nat):Bool:=
 decide (E.kind=.function) && E.names.all (λx=>x.2 != .cell) && E.names.all (λx=>x.2 != .local ||E.names.lookup x.1 == some .local)
  && E.names.all (λx=>x.2 != .free ||(E.names.lookup x.1 == some .free && (j.ks.lookup x.1 == some .cell ||j.ks.lookup x.1 == some .free)))
  && decide (j.N=o.take j.N.length) && decide (o.length=j.N.length+n)
  && E.names.all (λx=>x.2 != .local ||match nU j.N x.1 with|some i=>Q.contains i|none=>true)
def tR(j:Cn)(f g:Str):Bool:=decide (f=g) && eK j.ks f [.globalImplicit]
variable{B:Type}
noncomputable def pU:List B->Option B
 | [a]=>some a
 |_=>none
noncomputable def r9{B:Type}:List B->Option (B×B)
 | [a,b]=>some (a,b)
 |_=>none
theorem ij{B:Type}{l:List B}{a:B}(h:pU l=some a):l=[a]:=by
 unfold pU at h;split at h
 .cases h;rfl
 .cases h
theorem ky{B:Type}{l:List B}{a b:B}(h:r9 l=some (a,b)):l=[a,b]:=by
 unfold r9 at h;split at h
 .cases h;rfl
 .cases h
theorem au{B e:Type}{x:Option B}{f:B->Option e}{r:e}(h:x.bind f=some r):∃a,x=some a/\f a=some r:=by
 cases x with
 |none=>cases h
 |some a=>exact⟨a,rfl,h⟩
theorem aB{B e:Type}{x:Option B}{f:B->e}{r:e}(h:x.map f=some r):∃a,x=some a/\r=f a:=by
 cases x with
 |none=>cases h
 |some a=>cases h;exact⟨a,rfl,rfl⟩
theorem Kr{B:Type}{c:Prop}[Decidable c]{f:c->Option B}{x:B}(h:(if q:c then f q else none)=some x):c:=by
 by_cases q:c
 .exact q
 .rw [dif_neg q]at h;cases h
section
variable{e:Expr}
noncomputable def G_(e:Expr):Option Str:=if h:e.ctorIdx=23 then Expr.Name.elim e h λx _=>some x else none
theorem sD{x:Str}(h:G_ e=some x):∃p,e=.Name x p:=by have c:=Kr h;revert h;exact Expr.Name.elim e c λ_ p h=>by cases h;exact⟨p,rfl⟩
noncomputable def lv(e:Expr):Option (Ab):=if h:e.ctorIdx=25 then Expr.Tuple.elim e h λs _ _=>some s else none
theorem ji{s:Ab}(h:lv e=some s):∃c p,e=.Tuple s c p:=by have c:=Kr h;revert h;exact Expr.Tuple.elim e c λ_ c p h=>by cases h;exact⟨c,p,rfl⟩
noncomputable def B'(e:Expr):Option (Ab):=if h:e.ctorIdx=24 then Expr.List.elim e h λs _=>some s else none
theorem sM{s:Ab}(h:B' e=some s):∃p,e=.List s p:=by have c:=Kr h;revert h;exact Expr.List.elim e c λ_ p h=>by cases h;exact⟨p,rfl⟩
noncomputable def PD(e:Expr):Option (Expr×Str×Pos):=if h:e.ctorIdx=20 then Expr.Attribute.elim e h λo m p=>some (o,m,p) else none
theorem GZ{o:Expr}{m:Str}{p:Pos}(h:PD e=some (o,m,p)):e=.Attribute o m p:=by have c:=Kr h;revert h;exact Expr.Attribute.elim e c λ_ _ _ h=>by cases h;rfl
noncomputable def P5(e:Expr):Option (Expr×Expr):=if h:e.ctorIdx=21 then Expr.Subscript.elim e h λo i _=>some (o,i) else none
theorem Ln{o i:Expr}(h:P5 e=some (o,i)):∃p,e=.Subscript o i p:=by have c:=Kr h;revert h;exact Expr.Subscript.elim e c λ_ _ p h=>by cases h;exact⟨p,rfl⟩
noncomputable def Sn(e:Expr):Option (Option Expr×Option Expr×Option Expr):=if h:e.ctorIdx=26 then Expr.Slice.elim e h λi j k _=>some (i,j,k) else none
theorem Ll{i j k:Option Expr}(h:Sn e=some (i,j,k)):∃p,e=.Slice i j k p:=by have c:=Kr h;revert h;exact Expr.Slice.elim e c λ_ _ _ p h=>by cases h;exact⟨p,rfl⟩
noncomputable def R4(e:Expr):Option (Expr×Ab×Pos):=if h:e.ctorIdx=16 then Expr.Call.elim e h λf a k p=>if k.isEmpty=true then some (f,a,p) else none else none
theorem MY{f:Expr}{a:Ab}{p:Pos}(h:R4 e=some (f,a,p)):e=.Call f a [] p:=by
 have c:=Kr h;revert h;exact Expr.Call.elim e c λ_ _ k _ h=>by
  cases k with
  |nil=>cases h;rfl
  |cons _ _=>cases h
end
def uL(e:Expr):Option (Str×Ab):=(R4 e).bind λz=>(G_ z.1).map λr=>(r,z.2.1)
theorem j7{e:Expr}{r:Str}{a:Ab}(h:uL e=some (r,a)):∃p c,e=.Call (.Name r p) a [] c:=by obtain⟨⟨f,s,c⟩,x,n⟩:=au h;obtain⟨m,k,b⟩:=aB n;obtain⟨p,rfl⟩:=sD k;cases b;exact⟨p,c,MY x⟩
def SJ(e:Expr):Option ((Expr×Str×Pos)×Ab×Pos):=(R4 e).bind λz=>(PD z.1).map λr=>(r,z.2)
def Kf(j:Cn)(f:Str)(a:Expr):Option Expr:=(uL a).bind λz=>(pU z.2).bind λb=>if (decide (f=("list":Str)) && tR j z.1 "range")=true then some b else none
def Ej(j:Cn)(f:Str)(a:Expr):Option (Expr×Expr):=(uL a).bind λz=>(r9 z.2).bind λb=>if (decide (f=("dict":Str)) && tR j z.1 "zip")=true then some b else none
def Il(j:Cn)(T:Expr->Tr)(t e:Expr):Option lh:=(uL e).elim ((T e).v.map fG) λz=>if tR j z.1 "range"=true then (pU z.2).bind λa=>(T a).v.map jw
  else if tR j z.1 "enumerate"=true then (pU z.2).bind λa=>if (lv t).isSome=true then (T a).v.map iD else none
  else if tR j z.1 "zip"=true then (r9 z.2).bind λa=>if (lv t).isSome=true then (T a.1).v.bind λx=>(T a.2).v.map λy=>O0 x y else none
  else (T e).v.map fG
def K6(N:LS)(s:List (Str×NameKind))(k:List NameKind)(e:Expr):Option kY:=(G_ e).bind λx=>if eK s x k=true then (nU N x).map af else none
def EC(N:LS)(s:List (Str×NameKind))(k:List NameKind):Ab->Option (List kY)
 | []=>some []
 |e::r=>(K6 N s k e).bind λg=>(EC N s k r).map λh=>g::h
def Ik(N:LS)(s:List (Str×NameKind))(k:List NameKind)(e:Expr):Option kY:=(lv e).elim (K6 N s k e) λh=>(EC N s k h).map aP
def ir(e:Expr):LS:=((lv e).getD [e]).filterMap G_
noncomputable def ph(N:LS):LS->LS
 | []=>[]
 |t::r=>if (N.contains t ||(ph N r).contains t)=true then ph N r else t::ph N r
def Qs(N:LS)(Q:LS):List Nat:=Q.filterMap λt=>nU N t
def OC(j:Cn)(e:Expr):Bool:=(G_ e).any (j.own.contains ·) ||(P5 e).any λz=>(G_ z.1).any (j.deep.contains ·)
def kz(j:Cn)(T:Cn->Expr->Tr)(l t iter:Expr)(i:Ab)(E:Scope):Option EV:=
 if (zx j E (j.N++ph j.N (ir t)) (Qs j.N (ir t)) (ph j.N (ir t)).length && decide (j.N++ph j.N (ir t)).Nodup)=true then
  (Ik (j.N++ph j.N (ir t)) (uk E.names j.ks) [.local] t).bind λg=>
   (match i with | []=>some fm | [c]=>(T ⟨j.N++ph j.N (ir t),j.own.filter (λx=>!(ir t).contains x),[],j.refs,uk E.names j.ks,j.F,j.G,j.A,j.M,j.I⟩ c).b|_=>none).bind λc=>
   (T ⟨j.N++ph j.N (ir t),j.own.filter (λx=>!(ir t).contains x),[],j.refs,uk E.names j.ks,j.F,j.G,j.A,j.M,j.I⟩ l).v.bind λe=>
   if OC j iter=true then (T j iter).e.map λf=>mR f (Qs j.N (ir t)) (ph j.N (ir t)).length g c e
   else (Il j (T j) t iter).map λh=>bE h (Qs j.N (ir t)) (ph j.N (ir t)).length g c e
 else none
def ux(j:Cn):Nat->Expr->Bool
 |0,_=>false
 |n+1,e=>(G_ e).any (j.own.contains ·) ||(P5 e).any (λz=>ux j n z.1) ||(PD e).any (λz=>ux j n z.1) ||(SJ e).any λz=>decide (z.1.2.1=("setdefault":Str)) && ux j n z.1.1
def J8(a:Ab):Option Expr:=(r9 a).bind λz=>(B' z.2).bind λe=>if e.isEmpty=true then some z.1 else none
def y9(e:Expr):Bool:=[20,21,23].contains e.ctorIdx ||(SJ e).isSome
noncomputable def iG(e:Expr):Bool:=e.ctorIdx == 8
def Nb(j:Cn)(o:Option EE)(os:Expr)(m:Str)(s:List (Option EE))(p c:Pos):Tr:=
 if (y9 os && (p.endLine == c.line) && decide (s.length < 29))=true then .ofE (o.bind λx=>(xi s).map λa=>fg j.M x m a) else {}
def Mb(j:Cn)(o:Expr)(m:Str)(n:Str)(a c:Pos):Bool:=decide (m=n) && ux j 4 o && y9 o && (a.endLine == c.line)
def Tt(a:Ab):Option (Expr×Str):=(r9 a).bind λz=>(G_ z.2).map λt=>(z.1,t)
def Nr(s:List Comprehension):Option (Expr×Expr×Ab):=(pU s).bind λg=>if g.is_async=0 then some (g.target,g.iter,g.ifs) else none
def Sk(j:Cn)(T:Expr->Tr)(f:Str)(s:Ab):Tr:=if (eK j.ks f [.globalImplicit] && kC f && !s.isEmpty)=true then
  (j.I f).elim ((j.F f).elim
   ((pU s).elim
    ((Tt s).elim {} λz=>if (decide (f=("isinstance":Str)) && eK j.ks z.2 [.globalImplicit])=true then (F5 z.2).elim {} (λt=>.ofV ((T z.1).e.map λx=>k4 t x)) else {})
    λa=>if f=("len":Str) then .ofV ((T a).e.map dP) else if f=("sorted":Str) then .ofV ((T a).e.map ug) else
     (Kf j f a).elim ((Ej j f a).elim (.ofV ((GQ f).bind λg=>(tJ [(T a).v]).map λx=>bS g x)) λz=>.ofE ((T z.1).v.bind λx=>(T z.2).v.map λy=>zi x y)) λb=>.ofV ((T b).v.map N0))
   λg=>if j.refs.contains f=true then .ofV ((xi (s.map λx=>(T x).e)).map λa=>cz g a) else .ofV ((tJ (s.map λx=>(T x).v)).map λa=>bS (dM g) a))
  λg=>.ofE ((xi (s.map λx=>(T x).e)).map λa=>uE (if Ha.contains f=true then gD g else g) f a)
 else {}
def Sl(j:Cn)(T:Expr->Tr)(o:Expr)(m:Str)(p:Pos)(s:Ab)(c:Pos):Tr:=(pU s).elim
  (if (Mb j o m "clear" p c && s.isEmpty)=true then .ofE ((T o).e.map wL) else if (decide (m=("get":Str)) && y9 o && (p.endLine == c.line))=true then (r9 s).elim {} (fun z=>.ofV ((T o).v.bind fun x=>(T z.1).v.bind fun y=>(T z.2).v.map fun z=>Es x y z)) else
   (J8 s).elim (Nb j (T o).e o m (s.map λx=>(T x).e) p c) λa=>if Mb j o m "setdefault" p c=true then .ofE ((T o).e.bind λx=>(T a).v.map λy=>oh x y (dB aY)) else Nb j (T o).e o m (s.map λx=>(T x).e) p c)
  λa=>if Mb j o m "append" p c=true then .ofE ((T o).e.bind λx=>(T a).e.map λy=>bH x y) else
   if Mb j o m "extend" p c=true then .ofE ((T o).e.bind λx=>(T a).v.map λy=>gK x y) else
   if (decide (m=("index":Str)) && y9 o && (p.endLine == c.line))=true then .ofV ((T o).v.bind λx=>(T a).v.map λy=>oQ x y) else
   (lv a).elim (Nb j (T o).e o m (s.map λx=>(T x).e) p c) λe=>if Mb j o m "get" p c=true then .ofE ((T o).e.bind λx=>(tJ (e.map λz=>(T z).v)).map λy=>uF x y) else Nb j (T o).e o m (s.map λx=>(T x).e) p c
def Td(j:Cn)(T:Expr->Tr)(t:Cn->Expr->Tr)(e:Expr):Tr:=match e with
  | .Constant c _ _=>match c with
   | .int i=>.ofV (some (vC (.int i)))
   | .bool i=>.ofV (some (vC (.bl i)))
   | .none=>.ofV (some (vC .non))
   | .str i=>.ofV (some (vC (.str i)))
   |_=>{}
  | .Name x _=>if (eK j.ks x [.local,.cell,.free] && kC x)=true then .ofE ((nU j.N x).map a_) else
    if (eK j.ks x [.globalImplicit] && kC x)=true then .ofV ((j.G x).bind λv=>if F7 v=true then none else some (vC v)) else {}
  | .BinOp a p b _=>.ofV ((SH p).bind λg=>(T a).v.bind λx=>(T b).v.map λy=>qY g x y)
  | .UnaryOp p a _=>match p with
   | .USub=>.ofV ((T a).v.map (K2 x4))
   | .Not=>.ofB ((T a).b.map pZ) ((T a).w.map pZ)
   |_=>{}
  | .BoolOp p s _=>.ofB (xb p (s.map λx=>(T x).b)) (xb p (s.map λx=>(T x).w))
  | .Compare a h m _=>(pU h).elim (.ofC ((r9 h).bind λo=>(r9 m).bind λz=>(Nq o.1).bind λg=>(Nq o.2).bind λw=>(T a).v.bind λx=>(T z.1).v.bind λy=>(T z.2).v.map λz=>oR g w x y z))
    λp=>(pU m).elim {} λb=>(Nq p).elim (.ofC ((MU p).bind λg=>(T a).e.bind λx=>(T b).e.map λy=>eC g x y)) λg=>.ofC ((T a).v.bind λx=>(T b).v.map λy=>qY g x y)
  | .IfExp c a b _=>{ Tr.ofV ((T c).b.bind λq=>(T a).v.bind λx=>(T b).v.map λy=>N1 q x y) with b:=none }
  | .Tuple s _ _=>.ofV ((tJ (s.map λx=>(T x).v)).map aI)
  | .List s _=>.ofV ((tJ (s.map λx=>(T x).v)).map bf)
  | .Dict k H _=>if (k.isEmpty && H.isEmpty)=true then { e:=some mB,v:=some (vE mB) } else {}
  | .Subscript a i _=>(Sn i).elim (if ux j 4 a=true then (lv i).elim (.ofE ((T a).e.bind λx=>(T i).v.map λy=>i_ x y)) λs=>.ofE ((T a).e.bind λx=>(tJ (s.map λz=>(T z).v)).map λy=>x2 x y) else .ofV ((T a).v.bind λx=>(T i).v.map λy=>qY tG x y))
    λz=>if z.2.2.isSome=true then {} else if ux j 4 a=true then .ofV ((T a).e.bind λx=>(N5 (z.1.map λy=>(T y).v)).bind λy=>(N5 (z.2.1.map λz=>(T z).v)).map λz=>pQ x y z) else .ofV ((T a).v.bind λx=>(N5 (z.1.map λy=>(T y).v)).bind λy=>(N5 (z.2.1.map λz=>(T z).v)).map λz=>i5 x y z)
  | .Call r n k d=>if k.isEmpty=true then (G_ r).elim ((PD r).elim {} λz=>Sl j T z.1 z.2.1 z.2.2 n d) (λf=>Sk j T f n) else {}
  | .Attribute o f _=>if y9 o=true then .ofE ((T o).e.map λx=>fh j.A x f) else {}
  | .ListComp l u E _=>(Nr u).elim {} λz=>.ofV (kz j t l z.1 z.2.1 z.2.2 E)
  |_=>{}
def tr(j:Cn):Nat->Expr->Tr
 |0,_=>{}
 |n+1,e=>Td j (λx=>tr j n x) (λh x=>tr h n x) e
def Im(j:Cn)(n _k:Nat)(e:Expr):Option EE:=(uL e).elim (tr j n e).e λz=>if (eK j.ks z.1 [.globalImplicit] && kC z.1 && !z.2.isEmpty && j.deep.contains z.1)=true then
   (j.F z.1).elim (tr j n e).e λg=>(xi (z.2.map λx=>(tr j n x).e)).map λa=>iI g a
  else (tr j n e).e
def P0(j:Cn)(n k:Nat)(e:Expr):Option EE:=(B' e).elim (Im j n k e) λs=>(xi (s.map λx=>Im j n k x)).map Cq
structure XOk(Γ:Cn)(X:Cx):Prop where
 hN:X.N=Γ.N
 nd:X.N.Nodup
 ks:X.e.scope.names=Γ.ks
 kd:X.e.scope.kind=.function
 calm:X.c=true
 hu:X.A.units+64 < cLine
 fns:∀x g,Γ.F x=some g->∃k f fd ps,FnOk X.p X.w X.K X.g X.b tH k f fd ps (sk X.K g)/\Room k X.A/\X.g x=some (.ref f)/\iA X.K (.ref f)=true/\Binds X.K fd ps []
 blt:∀x ∈ JH,X.g x=none
 glb:∀x v,Γ.G x=some v->oH X.w X.K X.g x v
 attrs:Qz X.K Γ.A
 meths:Qw X Γ.M
 mks:∀c g,Γ.I c=some g->∃C k f fd ps,kf X.K c C/\X.g c=some (.ref C)/\Mk X.K C f/\FnOk X.p X.w X.K X.g X.b tH k f fd ps (sk X.K g)/\Room (k+1) X.A/\Binds X.K fd ps (if Ha.contains c=true then [.none] else [])
structure Good(X:Cx)(ex:Expr)(t:Tr):Prop where
 v:∀f,t.v=some f->PE X ex (tV X.K f)
 e:∀f,t.e=some f->PE X ex (tE X.K f)
 b:∀f,t.b=some f->PT X ex (tQ X.K f)
 w:∀f,t.w=some f->PE X ex (tV X.K (vB f))
section
variable{X:Cx}{e:Expr}
theorem Good.no:Good X e {}:=⟨λ_ h=>(by cases h),λ_ h=>(by cases h),λ_ h=>(by cases h),λ_ h=>(by cases h)⟩
theorem Good.el{B:Type}{o:Option B}{b:Tr}{f:B->Tr}(h:∀a,o=some a->Good X e (f a))(x:o=none->Good X e b):Good X e (o.elim b f):=by
 cases o with
 |none=>exact x rfl
 |some a=>exact h a rfl
theorem Good.ite{c:Prop}[Decidable c]{a b:Tr}(h:c->Good X e a)(x:Good X e b):Good X e (if c then a else b):=by
 by_cases q:c
 .rw [aj q];exact h q
 .rw [al q];exact x
def G6(e:Expr):Prop:=∀env w,isTrue e env w=(do let v <- w;standAt e.pos;holding [v] (truthy v))
theorem Good.ofV{t:Option EV}(h:∀f,t=some f->PE X e (tV X.K f))(hp:G6 e):Good X e (.ofV t) where
 v:=h
 e:=λf q=>by
  cases t with
  |none=>cases q
  |some g=>cases q;exact M_ (h _ rfl)
 b:=λf q=>by
  cases t with
  |none=>cases q
  |some g=>cases q;exact yT (M_ (h _ rfl)) (hp _)
 w:=λf q=>by
  cases t with
  |none=>cases q
  |some g=>cases q;exact Bt (h _ rfl)
theorem Good.ofC{t:Option EV}(h:∀f,t=some f->PE X e (tV X.K f))(x:∀f,t=some f->PT X e (tQ X.K (bV f))):Good X e (.ofC t) where
 v:=h
 e:=λf q=>by
  cases t with
  |none=>cases q
  |some g=>cases q;exact M_ (h _ rfl)
 b:=λf q=>by
  cases t with
  |none=>cases q
  |some g=>cases q;exact x _ rfl
 w:=λf q=>by
  cases t with
  |none=>cases q
  |some g=>cases q;exact Bt (h _ rfl)
theorem Good.ofE{t:Option EE}(h:∀f,t=some f->PE X e (tE X.K f))(hp:G6 e):Good X e (.ofE t) where
 v:=λf q=>by
  cases t with
  |none=>cases q
  |some g=>cases q;exact QK (h _ rfl)
 e:=h
 b:=λf q=>by
  cases t with
  |none=>cases q
  |some g=>cases q;exact yT (h _ rfl) (hp _)
 w:=λf q=>by
  cases t with
  |none=>cases q
  |some g=>cases q;exact Bt (QK (h _ rfl))
theorem Good.ofB{b w:Option EB}(h:∀f,b=some f->PT X e (tQ X.K f))(hw:∀f,w=some f->PE X e (tV X.K (vB f))):Good X e (.ofB b w) where
 v:=λf q=>by
  cases w with
  |none=>cases q
  |some g=>cases q;exact hw _ rfl
 e:=λf q=>by
  cases w with
  |none=>cases q
  |some g=>cases q;exact M_ (hw _ rfl)
 b:=h
 w:=hw
end
theorem k5{B x:Type}{o:Option B}{b r:x}{f:B->x}(h:o.elim b f=r):(∃a,o=some a/\f a=r)\/(o=none/\b=r):=by
 cases o with
 |none=>exact .inr ⟨rfl,h⟩
 |some a=>exact .inl ⟨a,rfl,h⟩
def gW(e:Expr):Prop:=∀s env,starEach (e::s) env=(false,eval e env)::starEach s env
structure RdE(e:Expr):Prop where
 st:gW e
 ix:oG e
 mr:∀op,behindInMarks op e=false
 ms:∀op op' b,lastMarks [op,op'] [b,e]=false
 ps:tm e
 sw:iG e=false->∀t l env,swapsWith e t l env=pure false
 fs:∀env x,foldedSetIterable e env x=pure x
theorem rd_of{j:Cn}{n:Nat}{e:Expr}(h:(tr j n e).v.isSome=true\/(tr j n e).e.isSome=true):RdE e:=by
 cases n with
 |zero=>rcases h with h|h<;>cases h
 |succ n=>cases e<;>first|(rcases h with h|h<;>cases h;done)|exact⟨λ_ _=>rfl,λ_ _=>rfl,λ_=>rfl,λ_ _ _=>rfl,λ_ _ _ _=>rfl,λc _ _ _=>(by first|rfl|cases c),λ_ _=>rfl⟩
theorem i7{j:Cn}{n:Nat}{e:Expr}{f:EV}(h:(tr j n e).v=some f):RdE e:=rd_of (.inl (by rw[h];rfl))
theorem pS{j:Cn}{n:Nat}{e:Expr}{f:EE}(h:(tr j n e).e=some f):RdE e:=rd_of (.inr (by rw[h];rfl))
variable{env:Env}{u:Pos}
theorem kX(h:∀e ∈ s,gW e):(backTo u (starEach s env)).any (·.1)=false:=by
 induction s with
 |nil=>rfl
 |cons e s i=>
  rw[h e ar s env];have:=i λx a=>h x (ao _ a)
  unfold backTo at this ⊢;rw[aE,fP,this];rfl
section
variable{j:Cn}{X:Cx}(h:XOk j X)
include h
theorem XOk.gl(q:eK j.ks x [.globalImplicit]=true):Gl X x:=by
 unfold Gl Env.kindOf;rw[h.ks];unfold eK at q;cases e:j.ks.lookup x with
 |none=>rw[e]at q;cases q
 |some k=>rw[e]at q;cases k<;>first|rfl|cases q
theorem XOk.vis(q:eK j.ks x [.local,.cell,.free]=true):Nv X.e.scope x:=by
 unfold Nv;rw[h.ks];unfold eK at q;cases e:j.ks.lookup x with
 |none=>rw[e]at q;cases q
 |some k=>rw[e]at q;cases k<;>first|exact .inl rfl|exact .inr (.inl rfl)|exact .inr (.inr rfl)|cases q
theorem XOk.loc(q:eK j.ks x [.local,.cell]=true):L2.Loc X.e.scope x:=by
 unfold L2.Loc;rw[h.ks];unfold eK at q;cases e:j.ks.lookup x with
 |none=>rw[e]at q;cases q
 |some k=>rw[e]at q;cases k<;>first|exact .inl rfl|exact .inr rfl|cases q
theorem XOk.local(q:eK j.ks x [.local]=true):X.e.scope.names.lookup x=some .local:=by
 rw[h.ks];unfold eK at q;cases e:j.ks.lookup x with
 |none=>rw[e]at q;cases q
 |some k=>rw[e]at q;cases k<;>first|rfl|cases q
omit h in
theorem gh{x:Str}(q:kC x=true):(x == ("__debug__":Str))=false/\(x == ("__classdict__":Str))=false:=by unfold kC at q;rw[aD]at q;exact⟨by simpa using q.1,by simpa using q.2⟩
theorem XOk.get(q:nU j.N x=some i):X.N[i]? = some x:=by rw[h.hN];exact sJ q
omit h in
theorem i6{j:Cn}{n:Nat}:∀{s:Ab}{k:lh},(∀e ∈ s,Good X e (tr j n e))->tJ (s.map λx=>(tr j n x).v)=some k->PA X s (tD X.K k)/\∀e ∈ s,gW e
 | [],k,_,q=>by cases q;exact⟨JM,λ_ z=>by cases z⟩
 |e::s,k,g,q=>by
  obtain⟨f,b,p⟩:=au q;obtain⟨r,v,rfl⟩:=aB p;obtain⟨m,t⟩:=i6 (λx a=>g x (ao _ a)) v;have b:(tr j n e).v=some f:=b;have c:gW e:=(i7 b).st;refine⟨G3 ((g e ar).v f b) m (c _ _),λx a=>?_⟩;rcases aW.mp a with a|a
  .subst a;exact c
  .exact t x a
omit h in
theorem nK{j:Cn}{n:Nat}:∀{s:Ab}{k:pP},(∀e ∈ s,Good X e (tr j n e))->xi (s.map λx=>(tr j n x).e)=some k->PA X s (yj X.K k)/\∀e ∈ s,gW e
 | [],k,_,q=>by cases q;exact⟨Ks,λ_ z=>by cases z⟩
 |e::s,k,g,q=>by
  obtain⟨f,b,p⟩:=au q;obtain⟨r,v,rfl⟩:=aB p;obtain⟨m,t⟩:=nK (λx a=>g x (ao _ a)) v;have b:(tr j n e).e=some f:=b;have c:gW e:=(pS b).st;refine⟨Gz ((g e ar).e f b) m (c _ _),λx a=>?_⟩;rcases aW.mp a with a|a
  .subst a;exact c
  .exact t x a
omit h in
theorem w_{o:BoolOp}{u:Pos}{j:Cn}{n:Nat}:∀{s:Ab}{f:EB},(∀e ∈ s,Good X e (tr j n e))->xb o (s.map λx=>(tr j n x).b)=some f->PW X (.BoolOp o s u) (tQ X.K f)
 | [],f,_,q=>by cases q
 | [a],f,g,q=>by
  cases o with
  |And=>exact NG ((g a ar).b f q)
  |Or=>exact QF ((g a ar).b f q)
 |a::b::s,f,g,q=>by
  obtain⟨x,k,m⟩:=au q;obtain⟨r,t,rfl⟩:=aB m;have i:=w_ (s:=b::s) (u:=u) (λx c=>g x (ao _ c)) t;cases o with
  |And=>exact QI ((g a ar).b x k) i
  |Or=>exact SW ((g a ar).b x k) i
omit h in
theorem xa{o:BoolOp}{u:Pos}{j:Cn}{n:Nat}:∀{s:Ab}{f:EB},(∀e ∈ s,Good X e (tr j n e))->xb o (s.map λx=>(tr j n x).w)=some f->PE X (.BoolOp o s u) (tV X.K (vB f))
 | [],f,_,q=>by cases q
 | [a],f,g,q=>NR ((g a ar).w f q)
 |a::b::s,f,g,q=>by
  obtain⟨x,k,m⟩:=au q;obtain⟨r,t,rfl⟩:=aB m;have i:=xa (s:=b::s) (u:=u) (λx c=>g x (ao _ c)) t;cases o with
  |And=>exact QZ ((g a ar).w x k) i
  |Or=>exact SX ((g a ar).w x k) i
omit h in
theorem vS{j:Cn}{n:Nat}{o:Option Expr}{f:EO}(g:∀e,Good X e (tr j n e))(q:N5 (o.map λy=>(tr j n y).v)=some f):PO X o (tO X.K f):=by
 cases o with
 |none=>cases q;exact Ma
 |some e=>obtain⟨x,a,rfl⟩:=aB (show((tr j n e).v).map cV=some f from q);exact L_ ((g e).v x a)
theorem MZ{o:Operator}{g:P->P->Option P}(q:SH o=some g):p6 X (binaryOp o) g:=by cases o<;>first|(cases q;exact L4)|(cases q;exact OH)|(cases q;exact L3)|(cases q;exact I0)|(cases q;exact OL)|(cases q;exact OI)|cases q
omit h in
theorem pb{o:CmpOp}{g:P->P->Option P}(q:Nq o=some g):p6 X (compareOp o) g:=by cases o<;>first|(cases q;exact Rr)|(cases q;exact Rs)|(cases q;exact Rt)|(cases q;exact Ru)|cases q
theorem CA{o:CmpOp}{g:D->D->az->Option P}(q:MU o=some g):ke X (compareOp o) (rE X.K g):=by cases o<;>first|(cases q;exact OQ h.hu)|(cases q;exact OJ h.hu)|(cases q;exact OO h.hu)|(cases q;exact OM)|(cases q;exact FA)|cases q
theorem JE{f:Str}{g:GF}{a:Expr}{s:Ab}{x:lh}{b u:Pos}(t:j.F f=some g)(q:eK j.ks f [.globalImplicit]=true)(d:kC f=true)(c:PA X (a::s) (tD X.K x))(n:∀e ∈ a::s,gW e) :
  PE X (.Call (.Name f b) (a::s) [] u) (tV X.K (bS (dM g) x)):=by
 obtain⟨k,i,l,y,G,w,v,p,m⟩:=h.fns f g t;exact NQ (FnOk.pure G) w (h.gl q) v p m c (gh d).1 (n a ar _ _) (kX λe r=>n e (ao _ r))
theorem yc{f:Str}{g:GF}{a:Expr}{s:Ab}{x:pP}{c u:Pos}(w:j.F f=some g)(t:eK j.ks f [.globalImplicit]=true)(v:kC f=true)(m:PA X (a::s) (yj X.K x))(n:∀e ∈ a::s,gW e) :
  PE X (.Call (.Name f c) (a::s) [] u) (tV X.K (cz g x))/\PE X (.Call (.Name f c) (a::s) [] u) (tE X.K (iI g x)):=by
 obtain⟨k,i,l,y,G,d,q,p,r⟩:=h.fns f g w;exact⟨HY G d (h.gl t) q p r m (gh v).1 (n a ar _ _) (kX fun e b=>n e (ao _ b)),
  K0 G d (h.gl t) q p r m (gh v).1 (n a ar _ _) (kX λe b=>n e (ao _ b))⟩
theorem M0{f:Str}{g:List P->Option P}{a:Expr}{n:Ab}{c:lh}{p u:Pos}(x:GQ f=some g)(b:eK j.ks f [.globalImplicit]=true)(k:PA X (a::n) (tD X.K c))(m:∀e ∈ a::n,gW e) :
  PE X (.Call (.Name f p) (a::n) [] u) (tV X.K (bS g c)):=by
 have s:=m a ar n X.e;have hp:=kX (env:=X.e) (u:=u) λe s=>m e (ao _ s);unfold GQ at x;split at x
 .rename_i e;subst e;cases x;exact KL (h.gl b) (h.blt _ (by decide)) k s hp
 split at x
 .rename_i e;subst e;cases x;exact KJ (h.gl b) (h.blt _ (by decide)) k s hp
 split at x
 .rename_i e;subst e;cases x;exact HW (h.gl b) (h.blt _ (by decide)) k s hp
 split at x
 .rename_i e;subst e;cases x;exact NI (h.gl b) (h.blt _ (by decide)) k s hp
 .cases x
theorem Mr{t:Str}{T:String}{a:Expr}{f:EE}{c p u:Pos}(x:F5 t=some T)(n:eK j.ks ("isinstance":Str) [.globalImplicit]=true)(k:eK j.ks t [.globalImplicit]=true)(s:PE X a (tE X.K f))(r:gW a) :
  PE X (.Call (.Name "isinstance" c) [a,.Name t p] [] u) (tV X.K (k4 T f)):=by
 have b:starEach [a,.Name t p] X.e=[(false,eval a X.e),(false,eval (.Name t p) X.e)]:=by rw[r];rfl
 have m:=h.blt ("isinstance":Str) (by decide);unfold F5 at x;split at x
 .rename_i e;subst e;cases x;exact JT (.inl rfl) (h.gl n) m (h.gl k) (h.blt _ (by decide)) qw s (by decide) (by decide) b
 split at x
 .rename_i e;subst e;cases x;exact JT (.inr rfl) (h.gl n) m (h.gl k) (h.blt _ (by decide)) HL s (by decide) (by decide) b
 .cases x
omit h in
theorem ma{f g:Str}(q:tR j f g=true):f=g/\eK j.ks f [.globalImplicit]=true:=by unfold tR at q;rw[aD]at q;exact⟨bC q.1,q.2⟩
theorem Ki{n:Nat}{v e:Expr}{f:lh}(g:∀x,Good X x (tr j n x))(q:Il j (λx=>tr j n x) v e=some f):PI X v e (tI X.K f):=by
 have plain:((tr j n e).v.map fG=some f)->PI X v e (tI X.K f):=λq=>by obtain⟨x,s,rfl⟩:=aB q;exact iS ((g e).v x s)
 have H:=k5 q;clear q;rcases H with ⟨⟨S,d⟩,z,q⟩|⟨_,q⟩
 .obtain⟨F,u,rfl⟩:=j7 z;dsimp only at q;split at q
  .rename_i r;obtain⟨rfl,r⟩:=ma r;obtain⟨a,m,k⟩:=au q;clear q;cases ij m;obtain⟨x,s,rfl⟩:=aB k;exact Tx (h.gl r) (h.blt ("range":Str) (by decide)) ((g a).v x s) ((i7 s).st _ _)
  .split at q
   .rename_i r;obtain⟨rfl,r⟩:=ma r;obtain⟨a,m,k⟩:=au q;clear q;cases ij m;split at k
    .rename_i t;obtain⟨x,s,rfl⟩:=aB k;obtain⟨l,t⟩:=qy.mp t;obtain⟨c,p,rfl⟩:=ji t;exact Tz (h.gl r) (h.blt ("enumerate":Str) (by decide)) ((g a).v x s) ((i7 s).st _ _)
    .cases k
   .split at q
    .rename_i r;obtain⟨rfl,r⟩:=ma r;obtain⟨⟨a,b⟩,m,k⟩:=au q;clear q;cases ky m;split at k
     .rename_i t;obtain⟨x,s,o⟩:=au k;obtain⟨y,w,rfl⟩:=aB o;obtain⟨l,t⟩:=qy.mp t;obtain⟨c,p,rfl⟩:=ji t;have i:starEach [b] X.e=[(false,eval b X.e)]:=(i7 w).st _ _;exact iZ (h.gl r) (h.blt ("zip":Str) (by decide)) ((g a).v x s) ((g b).v y w) (by rw[(i7 s).st,i]) i
     .cases k
    .exact plain q
 .exact plain q
omit h in
theorem CN{f:Str}{a b c:Expr}(q:Ej j f a=some (b,c)):f="dict"/\∃r p x,a=.Call (.Name r p) [b,c] [] x/\tR j r "zip"=true:=by
 obtain⟨⟨r,m⟩,z,n⟩:=au q;obtain⟨⟨t,v⟩,k,s⟩:=au n;clear q n;obtain⟨p,x,rfl⟩:=j7 z;cases ky k;split at s
 .rename_i e;cases s;simp only[aD]at e;exact⟨bC e.1,r,p,x,rfl,e.2⟩
 .cases s
omit h in
theorem FP{f:Str}{a b:Expr}(q:Kf j f a=some b):f="list"/\∃r p c,a=.Call (.Name r p) [b] [] c/\tR j r "range"=true:=by
 obtain⟨⟨r,m⟩,z,s⟩:=au q;obtain⟨t,k,e⟩:=au s;clear q s;obtain⟨p,n,rfl⟩:=j7 z;cases ij k;split at e
 .rename_i x;cases e;simp only[aD]at x;exact⟨bC x.1,r,p,n,rfl,x.2⟩
 .cases e
omit h in
theorem xL{n:Nat}{t e:Expr}{f:lh}(q:Il j (λx=>tr j n x) t e=some f)(env:Env)(x:Value):foldedSetIterable e env x=pure x:=by
 have s:=k5 q;clear q;rcases s with ⟨⟨b,a⟩,z,q⟩|⟨_,q⟩
 .obtain⟨p,u,rfl⟩:=j7 z;rfl
 .obtain⟨x,k,rfl⟩:=aB q;exact(i7 k).fs _ _
theorem GR(q:zx j E o Q n=true):BlockOk X E o Q n:=by
 unfold zx at q;simp only[aD]at q;obtain⟨⟨⟨⟨⟨⟨f,b⟩,c⟩,m⟩,r⟩,p⟩,v⟩:=q;have s:j.N=o.take j.N.length:=bC r;refine⟨bC f,λx a=>?_,λx a l=>?_,λx a l=>?_,?_,?_,λx a l i k=>?_⟩
 .simpa using bK.mp b x a
 .have:=bK.mp c x a;rw[l]at this;simpa using this
 .have:=bK.mp m x a;rw[l]at this;have t:E.names.lookup x.1=some .free/\(j.ks.lookup x.1=some .cell\/j.ks.lookup x.1=some .free):=by simpa using this
  refine⟨t.1,?_⟩;unfold Env.kindOf;rw[h.ks];exact t.2
 .rw [h.hN];exact s
 .rw [h.hN];exact bC p
 .have:=bK.mp v x a;rw[l]at this;have e:nU j.N x.1=some i:=pE (by rw[<- h.hN];exact h.nd) (by rw[<- h.hN];exact k);rw[e]at this;simpa using this
end
theorem Ke{X:Cx}{N:LS}{s:List (Str×NameKind)}{k:List NameKind}{e:Expr}{g:kY}(f:X.N=N)(d:X.N.Nodup)(b:∀x,eK s x k=true->L2.Loc X.e.scope x/\(X.fn x=true\/X.e.scope.names.lookup x=some .local))(q:K6 N s k e=some g):∃x p,e=.Name x p/\PG X (.Name x p) (gT X.K g):=by
 obtain⟨x,m,h⟩:=au q;clear q;obtain⟨p,rfl⟩:=sD m;split at h
 .rename_i c;obtain⟨i,r,rfl⟩:=aB h;obtain⟨a,n⟩:=b _ c;exact⟨x,p,rfl,MC i d (by rw[f];exact sJ r) a n⟩
 .cases h
theorem tg_ok{X:Cx}{N:LS}{n:List (Str×NameKind)}{k:List NameKind}{e:Expr}{g:kY}(v:X.c=true)(b:X.N=N)(d:X.N.Nodup)(m:∀x,eK n x k=true->L2.Loc X.e.scope x/\(X.fn x=true\/X.e.scope.names.lookup x=some .local))(q:Ik N n k e=some g):PG X e (gT X.K g):=by
 have all:∀{s:Ab}{h:List kY},EC N n k s=some h->GsOk X s h:=by
  intro s;induction s with
  |nil=>intro h q;cases q;exact .nil
  |cons e s i=>intro h q;obtain⟨g,f,t⟩:=au q;obtain⟨r,u,rfl⟩:=aB t;clear q t;obtain⟨x,p,rfl,a⟩:=Ke b d m f;exact .cons a (i u)
 have w:=k5 q;clear q;rcases w with ⟨s,z,q⟩|⟨_,q⟩
 .obtain⟨c,p,rfl⟩:=ji z;obtain⟨h,f,rfl⟩:=aB q;exact MB v (all f)
 .obtain⟨x,p,rfl,a⟩:=Ke b d m q;exact a
variable{E:Scope}
theorem E7(h:env.scope.kind=.function):(relabel E env).names=uk E.names env.scope.names:=by unfold relabel uk Env.kindOf;rw[h];simp
variable{j:Cn}{X:Cx}{o:LS}{Q:List Nat}{n:Nat}
theorem XOk.inn(h:XOk j X)(B:BlockOk X E o Q n)(d:o.Nodup)(s:Shared)(H:Hp)(C:Addr)(f:List Addr) :
  XOk ⟨o,[],[],j.refs,uk E.names j.ks,j.F,j.G,j.A,j.M,j.I⟩ (Ev.inn X E o s H C f) where
 hN:=rfl
 nd:=d
 ks:=by show(relabel E X.e).names=_;rw[E7 h.kd,h.ks]
 kd:=B.kind
 calm:=h.calm
 hu:=h.hu
 fns:=h.fns
 blt:=h.blt
 glb:=h.glb
 attrs:=h.attrs
 meths:=h.meths
 mks:=h.mks
theorem mZ(B:BlockOk X E o Q n)(I:Inv X t J H s):closureFor E X.e=pure (om E X.e):=by
 have all:∀x ∈ E.names,x.2=.free->∃c,X.e.cells.lookup x.1=some c:=λx d e=>I.o.has x.1 (B.fr x d e).2;unfold closureFor om;have b:∀(l:List (Str×NameKind))(a:List (Str×Addr)),(∀x ∈ l,x.2=.free->∃c,X.e.cells.lookup x.1=some c) ->
   (forIn l a fun (x:Str×NameKind) (r:List (Str×Addr))=>(do
    if x.2 == .free then do
     let c <- cellOf X.e x.1
     pure (ForInStep.yield ((x.1,c)::r))
    else pure (ForInStep.yield r):Sem (ForInStep (List (Str×Addr)))))=pure ((((l.filter λx=>x.2 == .free).map λx=>(x.1,(X.e.cells.lookup x.1).getD 0)).reverse)++a):=by
  intro l;induction l with
  |nil=>intro a _;rfl
  |cons x l i=>
   intro a e;rw[kn];by_cases h:(x.2 == NameKind.free)=true
   .obtain⟨c,m⟩:=e x ar (by simpa using h);rw[aj h,qO (p:=λ(x:Str×NameKind)=>x.2 == .free) h,aE,List.reverse_cons,cR];have v:cellOf X.e x.1=pure c:=by unfold cellOf;rw[m]
    rw[v,m];show(forIn l ((x.1,c)::a) _:Sem _)=_;rw[i ((x.1,c)::a) λy f=>e y (ao _ f)];rfl
   .rw [al h,qN (p:=λ(x:Str×NameKind)=>x.2 == .free) h];show(forIn l a _:Sem _)=_;rw[i a λy f=>e y (ao _ f)]
 have k:=b E.names [] all;rw [eQ] at k;show (Bind.bind (forIn E.names [] fun (x:Str×NameKind) (r:List (Str×Addr))=>(do
    if x.2 == .free then do
     let c <- cellOf X.e x.1
     pure (ForInStep.yield ((x.1,c)::r))
    else pure (ForInStep.yield r):Sem (ForInStep (List (Str×Addr))))) λq=>pure q:Sem (List (Str×Addr)))=_
 rw[k];rfl
def rD(n:Nat):Prop:=∀(j:Cn)(X:Cx),XOk j X->∀e,Good X e (tr j n e)
theorem XOk.own(h:XOk j X)(o:LS):XOk ⟨j.N,o,j.deep,j.refs,j.ks,j.F,j.G,j.A,j.M,j.I⟩ X:=⟨h.hN,h.nd,h.ks,h.kd,h.calm,h.hu,h.fns,h.blt,h.glb,h.attrs,h.meths,h.mks⟩
theorem pL{j:Cn}{X:Cx}(h:XOk j X){n:Nat}(G:rD n){l t iter:Expr}{k:Ab}{E:Scope}{f:EV}(q:kz j (λw x=>tr w n x) l t iter k E=some f) :
  ∃o Q m g u y,BlockOk X E o Q m/\tw X t iter f Q m g u y/\(∀s H C p,PG (inn X E o s H C p) t (gT X.K g))/\(∀s H C p,PIfs (inn X E o s H C p) k u)/\(∀s H C p,PE (inn X E o s H C p) l (tV X.K y)) /\
   ∀x,foldedSetIterable iter X.e x=pure x:=by
 unfold kz at q;generalize N:j.N++ph j.N (ir t)=o at q;generalize P:Qs j.N (ir t)=Q at q;generalize I:(ph j.N (ir t)).length=m at q;split at q
 .rename_i v;rw[aD]at v;obtain⟨z,A,q⟩:=au q;obtain⟨c,d,q⟩:=au q;obtain⟨e,D,q⟩:=au q;have B:BlockOk X E o Q m:=GR h v.1;have F:o.Nodup:=bC v.2;have i:=λs H C p=>(h.inn B F s H C p).own (j.own.filter (λx=>!(ir t).contains x))
  have W:tw X t iter f Q m z c e/\∀x,foldedSetIterable iter X.e x=pure x:=by
   split at q
   .obtain⟨K,b,rfl⟩:=aB q;exact⟨MV ((G j X h iter).e K b),(pS b).fs _⟩
   .obtain⟨L,b,rfl⟩:=aB q;exact⟨Pw (Ki h (G j X h) b),λx=>xL b _ x⟩
  refine⟨o,Q,m,z,c,e,B,W.1,λs H C p=>?_,λs H C p=>?_,λs H C p=>?_,W.2⟩
  .exact tg_ok h.calm rfl F (λx S=>⟨.inl ((i s H C p).local S),.inr ((i s H C p).local S)⟩) A
  .cases k with
   |nil=>cases d;exact PIfs.none
   |cons a r=>
    cases r with
    |nil=>exact PIfs.one ((G _ _ (i s H C p) a).b c d)
    |cons _ _=>cases d
  .exact (G _ _ (i s H C p) l).v e D
 .cases q
theorem x8{j:Cn}{X:Cx}(h:XOk j X){n:Nat}(G:rD n){l t iter:Expr}{k:Ab}{E:Scope}{u:Pos}{f:EV}(q:kz j (λr x=>tr r n x) l t iter k E=some f) :
  PE X (.ListComp l [⟨t,iter,k,0⟩] E u) (tV X.K f)/\∀(i:Nat){x:Str}{c e:Pos},X.N.Nodup->swapsWith (.ListComp l [⟨t,iter,k,0⟩] E u) (some (.Name x c)) e.line X.e=pure true->X.N[i]? = some x->L2.Loc X.e.scope x->(X.fn x=true\/X.e.scope.names.lookup x=some .local) ->
   PS X (.Assign [.Name x c] (.ListComp l [⟨t,iter,k,0⟩] E u) e) (nh X.K (am i (U f))):=by
 obtain⟨o,Q,m,P,F,K,B,W,v,d,w,g⟩:=pL h G q;exact⟨λp s J H a I q=>NO B h.calm W v d w (mZ B I) g p s J H a I q,λi x c e N S b z y p s J H D I q=>NE i N B h.calm W v d w (mZ B I) S g b z y p s J H D I q⟩
theorem DD(h:XOk j X)(G:rD n)(q:kz j (λe x=>tr e n x) l t iter i E=some f):PE X (.ListComp l [⟨t,iter,i,0⟩] E u) (tE X.K (Cs f)):=by obtain⟨o,Q,m,g,v,d,B,W,k,b,c,r⟩:=pL h G q;exact λp s J H a I q=>KW B h.calm W k b c (mZ B I) r p s J H a I q
theorem E2{s:Ab}{a:Expr}(h:J8 s=some a):∃p,s=[a,.List [] p]:=by
 obtain⟨⟨c,b⟩,e,f⟩:=au h;obtain⟨m,n,x⟩:=au f;obtain⟨p,rfl⟩:=sM n;split at x
 .rename_i k;cases x;cases nz.mp k;exact⟨p,ky e⟩
 .cases x
theorem sF{j:Cn}{o:Expr}{m n:Str}{a c:Pos}(h:Mb j o m n a c=true):m=n/\y9 o=true/\(a.endLine == c.line)=true:=by unfold Mb at h;simp only[aD]at h;exact⟨bC h.1.1.1,h.1.2,h.2⟩
theorem dJ{o:Expr}{x:Str}{env:Env}(h:y9 o=true):attributeBase o x env (eval o env)=eval o env:=by
 cases o with
 |Call f a k p=>
  cases f with
  |Name x q=>cases k<;>cases h
  |_=>rfl
 |_=>rfl
theorem Js(h:∀e ∈ a,gW e)(l:a.length < 29):methodCallForm (a.length+([]:List Keyword).length) (backTo u (starEach a env)) (backToKw u (keywordEach [] env))=true:=by
 unfold methodCallForm;have s:=kX (env:=env) (u:=u) h;have n:(backTo u (starEach a env)).all (λx=>!x.1)=true:=by
  rw[bK];intro x f;cases b:x.1 with
  |false=>rfl
  |true=>have:(backTo u (starEach a env)).any (·.1)=true:=qD.mpr ⟨x,f,b⟩;rw[s]at this;cases this
 rw[n];have k:(backToKw u (keywordEach [] env))=[]:=rfl;rw[k];simp;lia
theorem vT{j:Cn}{X:Cx}(h:XOk j X){n:Nat}(g:∀x,Good X x (tr j n x)){o:Expr}{m:Str}{r:Ab}{p k:Pos}:Good X (.Call (.Attribute o m p) r [] k) (Nb j (tr j n o).e o m (r.map λx=>(tr j n x).e) p k):=by
 unfold Nb;split
 .rename_i c;simp only[aD]at c;have l:r.length < 29:=by have:=bC c.2;rwa [aR]at this
  refine .ofE (λf q=>?_) λ_ _=>rfl;obtain⟨x,t,q⟩:=au q;obtain⟨a,v,rfl⟩:=aB q;obtain⟨d,s⟩:=nK (λe _=>g e) v;have b:=Mc (o:=o) (y:=m) (j:=p) (N:=k) (u:=r) (v:=X.e) (dJ c.1.1) (Js s l) c.1.2;cases r with
  |nil=>cases v;exact KP h.meths ((g o).e x t) b
  |cons e i=>exact NJ h.meths ((g o).e x t) d (s e ar _ _) (kX λy w=>s y (ao _ w)) b
 .exact .no
theorem Jd{j:Cn}{X:Cx}(h:XOk j X){f:Str}{g:GF}{a:Expr}{s:Ab}{x:pP}{w u:Pos}(l:j.I f=some g)(m:eK j.ks f [.globalImplicit]=true)(t:kC f=true)(c:PA X (a::s) (yj X.K x))(d:∀e ∈ a::s,gW e) :
  PE X (.Call (.Name f w) (a::s) [] u) (tE X.K (uE (if Ha.contains f=true then gD g else g) f x)):=by
 obtain⟨C,k,y,z,o,n,r,mk,G,p,b⟩:=h.mks f g l;have q:=d a ar s X.e;have v:=kX (env:=X.e) (u:=u) λe i=>d e (ao _ i);by_cases hd:Ha.contains f=true
 .rw [aj hd]at b ⊢;exact KQ mk G p (h.gl m) r n b c (gh t).1 q v
 .rw [al hd]at b ⊢;exact NK mk G p (h.gl m) r n b c (gh t).1 q v
theorem zt{g:List Comprehension}{t iter:Expr}{i:Ab}(h:Nr g=some (t,iter,i)):g=[⟨t,iter,i,0⟩]:=by
 obtain⟨⟨a,b,c,d⟩,x,p⟩:=au h;split at p
 .rename_i hd;cases p;cases (show d=0 from hd);exact ij x
 .cases p
section
variable{j:Cn}{X:Cx}(h:XOk j X){n:Nat}(g:∀x,Good X x (tr j n x))
include h g
theorem K8{f:Str}{w:Ab}{C B:Pos}:Good X (.Call (.Name f C) w [] B) (Sk j (λx=>tr j n x) f w):=by
 refine .ite (λk=>?_) .no;simp only[aD,vc]at k;cases w with
 |nil=>cases k.2
 |cons a w=>
 refine .el (λD u=>?_) λ_=>.el (λD u=>.ite (λ_=>?_) ?_) λ_=>.el (λF i=>?_) λ_=>.el (λ⟨F,t⟩ i=>?_) λ_=>.no
 .refine .ofE (λf q=>?_) λ_ _=>rfl;obtain⟨x,s,rfl⟩:=aB q;obtain⟨m,p⟩:=nK (λe _=>g e) s;exact Jd h u k.1.1 k.1.2 m p
 .refine .ofV (λf q=>?_) λ_ _=>rfl;obtain⟨x,s,rfl⟩:=aB q;obtain⟨m,p⟩:=nK (λe _=>g e) s;exact(yc h u k.1.1 k.1.2 m p).1
 .refine .ofV (λf q=>?_) λ_ _=>rfl;obtain⟨x,s,rfl⟩:=aB q;obtain⟨m,p⟩:=i6 (λe _=>g e) s;exact JE h u k.1.1 k.1.2 m p
 .cases ij i;refine .ite (λH=>?_) (.ite (λH=>?_) (.el (λb l=>?_) λ_=>.el (λ⟨b,c⟩ l=>?_) λ_=>?_))
  .subst H;refine .ofV (λf q=>?_) λ_ _=>rfl
   obtain⟨x,s,rfl⟩:=aB q;exact QT (h.gl k.1.1) (h.blt _ (by decide)) ((g _).e x s) ((pS s).st _ _)
  .subst H;refine .ofV (λf q=>?_) λ_ _=>rfl
   obtain⟨x,s,rfl⟩:=aB q;exact Eo (h.gl k.1.1) (h.blt _ (by decide)) ((g _).e x s) ((pS s).st _ _)
  .obtain⟨rfl,r,I,A,rfl,v⟩:=FP l;refine .ofV (λf q=>?_) λ_ _=>rfl;obtain⟨x,s,rfl⟩:=aB q;obtain⟨rfl,v⟩:=ma v;exact HX h.calm (h.gl k.1.1) (h.blt _ (by decide)) (h.gl v) (h.blt _ (by decide)) ((g _).v x s) ((i7 s).st _ _)
  .obtain⟨rfl,r,I,A,rfl,v⟩:=CN l;refine .ofE (λf q=>?_) λ_ _=>rfl;obtain⟨x,s,q⟩:=au q;obtain⟨y,d,rfl⟩:=aB q;obtain⟨rfl,v⟩:=ma v;have S:starEach [c] X.e=[(false,eval c X.e)]:=(i7 d).st _ _;exact KS h.calm (h.gl k.1.1) (h.blt _ (by decide)) (h.gl v) (h.blt _ (by decide)) ((g _).v x s) ((g _).v y d) (by rw[(i7 s).st,S]) S Av
  .refine .ofV (λf q=>?_) λ_ _=>rfl;obtain⟨o,s,q⟩:=au q;obtain⟨x,d,rfl⟩:=aB q;obtain⟨m,p⟩:=i6 (s:=[a]) (λe _=>g e) d;exact M0 h s k.1.1 m p
 .refine .ite (λz=>?_) .no;rw[aD]at z;cases bC z.1;obtain⟨⟨m,p⟩,K,E⟩:=au i;obtain⟨L,P,G⟩:=aB E;cases G;obtain⟨M,rfl⟩:=sD P;cases ky K;refine .el (λT s=>?_) λ_=>.no;refine .ofV (λf q=>?_) λ_ _=>rfl;obtain⟨x,d,rfl⟩:=aB q;exact Mr h s k.1.1 z.2 ((g _).e x d) (pS d).st
theorem K9{o:Expr}{m:Str}{w:Ab}{u i:Pos}:Good X (.Call (.Attribute o m u) w [] i) (Sl j (λx=>tr j n x) o m u w i):=by
 have l:X.A.units+1 < cLine:=by have:=h.hu;lia
 refine .el (λa d=>?_) λ_=>?_
 .cases ij d;refine .ite (λs=>?_) (.ite (λs=>?_) (.ite (λs=>?_) (.el (λA K=>.ite (λs=>?_) (vT h g)) λ_=>vT h g)))
  .obtain⟨rfl,t,v⟩:=sF s;refine .ofE (λf q=>?_) λ_ _=>rfl;obtain⟨x,r,q⟩:=au q;obtain⟨y,k,rfl⟩:=aB q;exact H_ ((g _).e x r) ((g _).e y k) ((pS k).st _ _) (dJ t) v
  .obtain⟨rfl,t,v⟩:=sF s;refine .ofE (λf q=>?_) λ_ _=>rfl;obtain⟨x,r,q⟩:=au q;obtain⟨y,k,rfl⟩:=aB q;exact H0 ((g _).e x r) ((g _).v y k) ((i7 k).st _ _) (dJ t) v
  .simp only[aD]at s;cases bC s.1.1;refine .ofV (λf q=>?_) λ_ _=>rfl;obtain⟨x,r,q⟩:=au q;obtain⟨y,k,rfl⟩:=aB q;exact KR h.hu ((g _).v x r) ((g _).v y k) ((i7 k).st _ _) (dJ s.1.2) s.2
  .obtain⟨c,p,rfl⟩:=ji K;obtain⟨rfl,t,v⟩:=sF s;refine .ofE (λf q=>?_) λ_ _=>rfl;obtain⟨x,r,q⟩:=au q;obtain⟨y,k,rfl⟩:=aB q;exact NN l ((g _).e x r) (i6 (λe _=>g e) k).1 ⟨dJ t,rfl,v,rfl⟩
 .refine .ite (λs=>?_) (.ite (λs=>.el (λ⟨a,b⟩ d=>?_) λ_=>.no) (.el (λa d=>.ite (λs=>?_) (vT h g)) λ_=>vT h g))
  .rw [aD]at s;obtain⟨rfl,t,v⟩:=sF s.1;cases w with
   |cons _ _=>cases s.2
   |nil=>refine .ofE (λf q=>?_) λ_ _=>rfl;obtain⟨x,r,rfl⟩:=aB q;exact KY ((g _).e x r) (dJ t) v
  .simp only[aD]at s;cases bC s.1.1;cases ky d;refine .ofV (λf q=>?_) λ_ _=>rfl;obtain⟨x,r,q⟩:=au q;obtain⟨y,k,q⟩:=au q;obtain⟨z,S,rfl⟩:=aB q;have P:starEach [b] X.e=[(false,eval b X.e)]:=(i7 S).st _ _;have F:starEach [a,b] X.e=[(false,eval a X.e),(false,eval b X.e)]:=by rw[(i7 k).st,P]
   exact KN l ((g _).v x r) ((g _).v y k) ((g _).v z S) ⟨dJ s.1.2,by rw[F];rfl,s.2,by rw[F];rfl⟩
  .obtain⟨p,rfl⟩:=E2 d;obtain⟨rfl,t,v⟩:=sF s;refine .ofE (λf q=>?_) λ_ _=>rfl;obtain⟨x,r,q⟩:=au q;obtain⟨y,k,rfl⟩:=aB q;have H:=(i7 k).st;exact HZ ((g _).e x r) ((g _).v y k) (JW JM) ⟨dJ t,by rw[H];rfl,v,by rw[H];rfl⟩
end
theorem se:∀n,rD n
 |0=>λj X h e=>Good.no
 |n+1=>by
  have G:=se n;intro j X h e;have g:=G j X h;cases e with
  |Constant c k p=>
   cases c with
   |int i=>exact .ofV (λf q=>by cases q;exact QW) λ_ _=>rfl
   |bool i=>exact .ofV (λf q=>by cases q;exact S7) λ_ _=>rfl
   |none=>exact .ofV (λf q=>by cases q;exact QQ) λ_ _=>rfl
   |str i=>exact .ofV (λf q=>by cases q;exact QM) λ_ _=>rfl
   |_=>exact .no
  |Name x p=>
   refine .ite (λd=>?_) (.ite (λd=>?_) .no)
   .rw [aD]at d;refine .ofE (λf q=>?_) λ_ _=>rfl;obtain⟨i,s,rfl⟩:=aB q;exact QJ i (h.get s) (h.vis d.1) (gh d.2).1 (gh d.2).2
   .rw [aD]at d;refine .ofV (λf q=>?_) λ_ _=>rfl;obtain⟨v,s,q⟩:=au q;split at q
    .cases q
    .rename_i hd;cases q;exact NM (h.gl d.1) ((h.glb _ v s).1 (by simpa using hd)) (gh d.2).1
  |BinOp a w b p=>refine .ofV (λf q=>?_) λ_ _=>rfl;obtain⟨o,s,q⟩:=au q;obtain⟨x,r,q⟩:=au q;obtain⟨y,t,rfl⟩:=aB q;exact SY (MZ h s) ((g _).v x r) ((g _).v y t)
  |UnaryOp w a p=>
   cases w with
   |USub=>refine .ofV (λf q=>?_) λ_ _=>rfl;obtain⟨x,s,rfl⟩:=aB q;exact QR ((g _).v x s)
   |Not=>
    refine .ofB (λf q=>?_) λf q=>?_
    .obtain⟨x,s,rfl⟩:=aB q;exact QG ((g _).b x s)
    .obtain⟨x,s,rfl⟩:=aB q;exact QP ((g _).w x s)
   |_=>exact .no
  |BoolOp w F p=>exact .ofB (λf q=>(w_ (λe _=>g e) q).pt) λf q=>xa (λe _=>g e) q
  |Compare a l S p=>
   refine .el (λw P=>?_) λ_=>?_
   .cases ij P;refine .el (λb Q=>?_) λ_=>.no
    cases ij Q;refine .el (λK s=>?_) λ_=>?_
    .have u:∀f,((tr j n a).v.bind λx=>(tr j n b).v.map λy=>qY K x y)=some f->PE X (.Compare a [w] [b] p) (tV X.K f)/\PT X (.Compare a [w] [b] p) (tQ X.K (bV f)):=λf q=>by
      obtain⟨x,r,q⟩:=au q;obtain⟨y,t,rfl⟩:=aB q;exact⟨QY (pb s) ((g _).v x r) ((g _).v y t) ((i7 t).mr _),QH (pb s) ((g _).v x r) ((g _).v y t) ((i7 t).mr _)⟩
     exact .ofC (λf q=>(u f q).1) λf q=>(u f q).2
    .have u:∀f,((MU w).bind λg=>(tr j n a).e.bind λx=>(tr j n b).e.map λy=>eC g x y)=some f->PE X (.Compare a [w] [b] p) (tV X.K f)/\PT X (.Compare a [w] [b] p) (tQ X.K (bV f)):=λf q=>by
      obtain⟨o,s,q⟩:=au q;obtain⟨x,r,q⟩:=au q;obtain⟨y,t,rfl⟩:=aB q;exact⟨NP (CA h s) ((g _).e x r) ((g _).e y t) ((pS t).mr _),NF (CA h s) ((g _).e x r) ((g _).e y t) ((pS t).mr _)⟩
     exact .ofC (λf q=>(u f q).1) λf q=>(u f q).2
   .have u:∀f,((r9 l).bind λo=>(r9 S).bind λz=>(Nq o.1).bind λg=>(Nq o.2).bind λK=>(tr j n a).v.bind λx=>(tr j n z.1).v.bind λy=>(tr j n z.2).v.map λz=>oR g K x y z)=some f->PE X (.Compare a l S p) (tV X.K f)/\PT X (.Compare a l S p) (tQ X.K (bV f)):=λf q=>by
     obtain⟨⟨o1,o2⟩,I,C⟩:=au q;obtain⟨⟨b,c⟩,L,p1⟩:=au C;clear q C;cases ky I;cases ky L;obtain⟨o,s,q⟩:=au p1;obtain⟨o',r,q⟩:=au q;obtain⟨x,t,q⟩:=au q;obtain⟨y,D,q⟩:=au q;obtain⟨z,H,rfl⟩:=aB q;exact⟨KZ (pb s) (pb r) ((g _).v x t) ((g _).v y D) ((g _).v z H) ((i7 H).ms _ _ _),KE (pb s) (pb r) ((g _).v x t) ((g _).v y D) ((g _).v z H) ((i7 H).ms _ _ _)⟩
    exact .ofC (λf q=>(u f q).1) λf q=>(u f q).2
  |IfExp c a b p=>
   have B:∀f,((tr j n c).b.bind λq=>(tr j n a).v.bind λx=>(tr j n b).v.map λy=>N1 q x y)=some f->PE X (.IfExp c a b p) (tV X.K f):=λf q=>by obtain⟨o,s,q⟩:=au q;obtain⟨x,r,q⟩:=au q;obtain⟨y,t,rfl⟩:=aB q;exact S6 ((g _).b o s) ((g _).v x r) ((g _).v y t)
   refine⟨B,λf q=>?_,λf q=>(by cases q),λf q=>?_⟩
   .obtain⟨x,s,rfl⟩:=aB (show vf U _=some f from q);exact M_ (B _ s)
   .obtain⟨x,s,rfl⟩:=aB (show vf bV _=some f from q);exact Bt (B _ s)
  |Tuple F c p=>refine .ofV (λf q=>?_) λ_ _=>rfl;obtain⟨x,s,rfl⟩:=aB q;exact QL (i6 (λe _=>g e) s).1
  |List F p=>refine .ofV (λf q=>?_) λ_ _=>rfl;obtain⟨x,s,rfl⟩:=aB q;exact QS (i6 (λe _=>g e) s).1
  |Dict ks vs p=>refine .ite (λd=>?_) .no;rw[aD]at d;cases nz.mp d.1;cases nz.mp d.2;exact⟨λf q=>(by cases q;exact QK Ep),λf q=>(by cases q;exact Ep),λf q=>(by cases q),λf q=>(by cases q)⟩
  |Subscript a i p=>
   have A:X.A.units+1 < cLine:=by have:=h.hu;lia
   refine .el (λ⟨lo,hi,st⟩ V=>?_) λ_=>.ite (λ_=>.el (λF N=>?_) λ_=>?_) ?_
   .obtain⟨p,rfl⟩:=Ll V;cases st with
    |some _=>exact .no
    |none=>
     refine .ite (λ_=>.no) (.ite (λ_=>.ofV (λf q=>?_) λ_ _=>rfl) (.ofV (λf q=>?_) λ_ _=>rfl))
     .obtain⟨x,s,q⟩:=au q;obtain⟨y,r,q⟩:=au q;obtain⟨z,t,rfl⟩:=aB q;exact QN ((g _).e x s) (vS g r) (vS g t)
     .obtain⟨x,s,q⟩:=au q;obtain⟨y,r,q⟩:=au q;obtain⟨z,t,rfl⟩:=aB q;exact QO ((g _).v x s) (vS g r) (vS g t)
   .obtain⟨c,p,rfl⟩:=ji N;refine .ofE (λf q=>?_) λ_ _=>rfl;obtain⟨x,s,q⟩:=au q;obtain⟨y,r,rfl⟩:=aB q;exact QU A ((g _).e x s) (i6 (λe _=>g e) r).1 λ_ _=>rfl
   .refine .ofE (λf q=>?_) λ_ _=>rfl;obtain⟨x,s,q⟩:=au q;obtain⟨y,r,rfl⟩:=aB q;exact QV A ((g _).e x s) ((g _).v y r) (i7 r).ix
   .refine .ofV (λf q=>?_) λ_ _=>rfl;obtain⟨x,s,q⟩:=au q;obtain⟨y,r,rfl⟩:=aB q;exact S4 A ((g _).v x s) ((g _).v y r) (i7 r).ix
  |Call fn as ks cp=>
   refine .ite (λT=>?_) .no;cases nz.mp T;refine .el (λf R=>?_) λ_=>.el (λ⟨o,m,ap⟩ P=>?_) λ_=>.no
   .obtain⟨fp,rfl⟩:=sD R;exact K8 h g
   .cases GZ P;exact K9 h g
  |Attribute o f p=>refine .ite (λd=>?_) .no;refine .ofE (λf q=>?_) λ_ _=>rfl;obtain⟨x,s,rfl⟩:=aB q;exact QX h.attrs ((g _).e x s) (dJ d)
  |ListComp M gs E p=>refine .el (λ⟨tg,iter,Z⟩ W=>?_) λ_=>.no;cases zt W;exact .ofV (λf q=>(x8 h G q).1) λ_ _=>rfl
  |_=>exact .no
theorem vU(h:XOk j X)(q:Im j n k e=some f):PE X e (tE X.K f)/\(iG e=false->∀t l env,swapsWith e t l env=pure false)/\gW e:=by
 have g:=se n j X h;have p:∀{e},(tr j n e).e=some f->PE X e (tE X.K f)/\(iG e=false->∀t l env,swapsWith e t l env=pure false)/\gW e:=λq=>⟨(g _).e f q,(pS q).sw,(pS q).st⟩;have v:=k5 q;clear q;rcases v with ⟨⟨i,r⟩,z,q⟩|⟨_,q⟩
 .obtain⟨y,u,rfl⟩:=j7 z;dsimp only at q;split at q
  .rename_i c;simp only[aD,vc]at c;rcases k5 q with ⟨o,m,q⟩|⟨_,q⟩
   .refine⟨?_,(λ_ _ _ _=>rfl),λ_ _=>rfl⟩;cases r with
    |nil=>cases c.1.2
    |cons a w=>obtain⟨x,d,rfl⟩:=aB q;obtain⟨s,b⟩:=nK (λe _=>g e) d;exact(yc h m c.1.1.1 c.1.1.2 s b).2
   .exact p q
  .exact p q
 .exact p q
theorem xh(h:XOk j X):∀{a:Ab}{s:pP},xi (a.map λx=>Im j n k x)=some s->PA X a (yj X.K s)
 | [],s,q=>by cases q;exact Ks
 |e::a,s,q=>by obtain⟨f,c,m⟩:=au q;obtain⟨r,t,rfl⟩:=aB m;obtain⟨p,_,b⟩:=vU h c;exact Gz p (xh h t) (b _ _)
theorem sf{j:Cn}{X:Cx}(h:XOk j X){n k:Nat}{e:Expr}{f:EE}(q:P0 j n k e=some f):PE X e (tE X.K f)/\(iG e=false->∀t l env,swapsWith e t l env=pure false):=by
 have a:=k5 q;clear q;rcases a with ⟨b,x,q⟩|⟨_,q⟩
 .obtain⟨p,rfl⟩:=sM x;obtain⟨c,s,rfl⟩:=aB q;exact⟨NL (xh h s),λ_ _ _ _=>rfl⟩
 .exact⟨(vU h q).1,(vU h q).2.1⟩
def yL(T:Stmt->Option ES):List Stmt->Option ES
 | []=>some dA
 | [s]=>T s
 |s::r=>(T s).bind λf=>(yL T r).map λg=>ae f g
noncomputable def O1(e:Expr):Option Unit:=if h:e.ctorIdx=6 then Expr.Dict.elim e h λk v _=>if (k.isEmpty && v.isEmpty)=true then some () else none else none
theorem Jn{e:Expr}{u:Unit}(h:O1 e=some u):∃p,e=.Dict [] [] p:=by
 have c:=Kr h;revert h;exact Expr.Dict.elim e c λk v p h=>by
  cases k with
  |cons _ _=>cases h
  |nil=>
   cases v with
   |cons _ _=>cases h
   |nil=>exact⟨p,rfl⟩
def R3(j:Cn)(e:Expr):Option Expr:=(uL e).bind λz=>(pU z.2).bind λa=>if tR j z.1 "list"=true then some a else none
def Sj(j:Cn)(n:Nat)(t v:Expr):Option ES:=
 (G_ t).elim ((P5 t).elim ((PD t).elim (if iG v=true then none else (lv t).bind fun _=>if (lv v).isSome=true then none else (Ik j.N j.ks [.local,.cell] t).bind fun g=>(tr j n v).v.map fun z=>xm g z)
   λz=>if ((O1 v).isSome && j.deep.contains z.2.1)=true then (tr j n z.1).e.map λx=>pu j.A x z.2.1 zj else (tr j n z.1).e.bind λx=>(P0 j n 5 v).map λy=>pu j.A x z.2.1 y)
  λz=>if iG v=true then none else (tr j n z.1).e.bind λx=>(tr j n v).v.bind λw=>(lv z.2).elim ((tr j n z.2).v.map λy=>fF x y w) λe=>(tJ (e.map λz=>(tr j n z).v)).map λy=>E3 x y w)
 λx=>if eK j.ks x [.local,.cell]=true then (nU j.N x).bind λi=>if (j.deep.contains x && !iG v)=true then (P0 j n 5 v).map (am i) else (if j.own.contains x=true then R3 j v else none).elim ((if j.own.contains x=true then B' v else none).elim ((tr j n v).e.map (am i)) λe=>(tJ (e.map λy=>(tr j n y).v)).map λa=>am i (dB a)) λa=>(tr j n a).v.map λf=>am i (Cr f)
  else none
def Q1(j:Cn)(n:Nat)(e:Expr):Option ES:=if iG e=true then (tr j n e).v.map λf=>aL (Cs f) else
 (P0 j n 5 e).map aL
def Na(j:Cn):Nat->Stmt->Option ES
 |0,_=>none
 |n+1,st=>match st with
  | .Assign Q v _=>(pU Q).bind λt=>Sj j n t v
  | .Return r _=>r.bind λe=>if j.own.contains ("return":Str)=true then Q1 j n e else (tr j n e).e.map aL
  | .Continue _=>some P6
  | .Raise ..=>some v_
  | .Expr e _=>if iG e=true then none else (tr j n e).e.map cj
  | .If c a b _=>(tr j n c).b.bind λq=>(yL (Na j n) a).bind λx=>(yL (Na j n) b).map λy=>cQ q x y
  | .For h iter o l _=>if l.isEmpty=false then none else (Ik j.N j.ks [.local,.cell] h).bind λg=>(Il j (λy=>tr j n y) h iter).bind λi=>(yL (Na j n) o).map λb=>bq i g b
  |_=>none
theorem FE{e:Ab}{c:Nat}{p:Pos}{v:Expr}{env:Env}(h:¬(lv v).isSome=true):swappedStores [.Tuple e c p] v env=pure none:=by cases v<;>first|rfl|exact absurd rfl h
theorem Ij{j:Cn}{n:Nat}{l:Expr}{g:List Comprehension}{E:Scope}{u:Pos}{f:EE}(h:(tr j n (.ListComp l g E u)).e=some f) :
  ∃k t iter i s,n=k+1/\g=[⟨t,iter,i,0⟩]/\kz j (λa x=>tr a k x) l t iter i E=some s/\f=U s:=by
 cases n with
 |zero=>cases h
 |succ n=>
  replace h:((Nr g).elim {} λz=>Tr.ofV (kz j (λa x=>tr a n x) l z.1 z.2.1 z.2.2 E)).e=some f:=h;cases e:Nr g with
  |none=>rw[e]at h;cases h
  |some z=>rw[e]at h;obtain⟨x,q,rfl⟩:=aB (show vf U _=some f from h);exact⟨n,_,_,_,x,rfl,zt e,q,rfl⟩
theorem nJ{X:Cx}{T:Stmt->Option ES}(h:∀st f,T st=some f->PS X st (nh X.K f)):∀{a:List Stmt}{f:ES},yL T a=some f->p0 X a (nh X.K f)
 | [],f,q=>by cases q;exact QD
 | [s],f,q=>QC (h s f q)
 |s::t::r,f,q=>by obtain⟨x,e,q⟩:=au q;obtain⟨y,n,rfl⟩:=aB q;exact ND (h s x e) (nJ h n)
theorem Ez(h:(tr j n (.ListComp l s E u)).v=some f) :
  ∃k t iter i,n=k+1/\s=[⟨t,iter,i,0⟩]/\kz j (λa x=>tr a k x) l t iter i E=some f:=by
 cases n with
 |zero=>cases h
 |succ n=>
  replace h:((Nr s).elim {} λz=>Tr.ofV (kz j (λa x=>tr a n x) l z.1 z.2.1 z.2.2 E)).v=some f:=h;cases e:Nr s with
  |none=>rw[e]at h;cases h
  |some z=>rw[e]at h;exact⟨n,_,_,_,rfl,zt e,h⟩
theorem K5(h:XOk j X)(q:Q1 j n e=some f):PS X (.Return (some e) p) (nh X.K f):=by
 have g:=se n j X h;unfold Q1 at q;split at q
 .rename_i l;have c:e.ctorIdx=8:=eq_of_beq l;obtain⟨m,s,rfl⟩:=aB q;clear q l;revert s;refine Expr.ListComp.elim e c λa r c d s=>?_
  obtain⟨k,t,iter,i,rfl,rfl,b⟩:=Ez s;exact KC (DD h (se k) b)
 .obtain⟨x,s,rfl⟩:=aB q;exact KC (sf h s).1
theorem K7{j:Cn}{X:Cx}(h:XOk j X)(H:∀x,X.fn x=true){n:Nat}{t l:Expr}{Q:Pos}{f:ES}(q:Sj j n t l=some f):PS X (.Assign [t] l Q) (nh X.K f):=by
 have g:=se n j X h;have N:X.A.units+1 < cLine:=by have:=h.hu;lia
 rcases k5 q with ⟨x,W,A⟩|⟨_,A⟩
 .clear q;obtain⟨px,rfl⟩:=sD W;split at A
  .rename_i G;obtain⟨i,Y,q⟩:=au A;split at q
   .rename_i hd;rw[aD]at hd;obtain⟨fe,m,rfl⟩:=aB q;exact El i h.nd (sf h m).1 (h.get Y) (h.loc G) ((sf h m).2 (by simpa using hd.2) _ _ _) (.inl (H x))
   .have qq:=k5 q;clear q A;rcases qq with ⟨a,M,q⟩|⟨_,q⟩
    .split at M
     .obtain⟨⟨r,as⟩,b1,S⟩:=au M;obtain⟨a',b2,S⟩:=au S;clear M;obtain⟨fp,cp,rfl⟩:=j7 b1;cases ij b2;split at S
      .rename_i T;cases S;obtain⟨rfl,T⟩:=ma T;obtain⟨z,m,rfl⟩:=aB q;exact El i h.nd (KO (h.gl T) (h.blt ("list":Str) (by decide)) ((g _).v z m) ((i7 m).st _ _)) (h.get Y) (h.loc G) rfl (.inl (H x))
      .cases S
     .cases M
    rcases k5 q with ⟨R,K,q⟩|⟨_,q⟩
    .split at K
     .obtain⟨a,m,rfl⟩:=aB q;obtain⟨p,rfl⟩:=sM K;exact El i h.nd (JW (i6 (λe _=>g e) m).1) (h.get Y) (h.loc G) rfl (.inl (H x))
     .cases K
    .obtain⟨fe,m,rfl⟩:=aB q;cases B:iG l with
     |false=>exact El i h.nd ((g l).e fe m) (h.get Y) (h.loc G) ((pS m).sw B _ _ _) (.inl (H x))
     |true=>
      have c:l.ctorIdx=8:=eq_of_beq B;clear q B;revert m;refine Expr.ListComp.elim l c fun a gs c d m=>?_;obtain⟨k,tg,iter,D,f',rfl,rfl,P,rfl⟩:=Ij m;have cu:=x8 (u:=d) h (se k) P;have E:swapsWith (.ListComp a [⟨tg,iter,D,0⟩] c d) (some (.Name x px)) Q.line X.e=pure (X.e.blockKind == .function && X.e.kindOf x == some .local && px.line == (Expr.ListComp a [⟨tg,iter,D,0⟩] c d).pos.line
       && !(c.names.any λ(n,k)=>n == x && (k == .local ||k == .cell))):=rfl
      revert E;generalize (X.e.blockKind == .function && X.e.kindOf x == some .local && px.line == (Expr.ListComp a [⟨tg,iter,D,0⟩] c d).pos.line && !(c.names.any λ(n,k)=>n == x && (k == .local ||k == .cell)))=b;intro E;cases b with
      |true=>exact cu.2 i h.nd E (h.get Y) (h.loc G) (.inl (H x))
      |false=>exact El i h.nd (M_ cu.1) (h.get Y) (h.loc G) E (.inl (H x))
  .cases A
 rcases k5 A with ⟨⟨o,i⟩,Z,S⟩|⟨_,S⟩
 .clear q A;obtain⟨p,rfl⟩:=Ln Z;split at S
  .cases S
  rename_i C;obtain⟨x,m,F⟩:=au S;obtain⟨w,L,I⟩:=au F;have E:=(i7 L).sw (by simpa using C);clear S F;have q0:=k5 I;clear I;rcases q0 with ⟨R,et,q⟩|⟨_,q⟩
  .obtain⟨c,p,rfl⟩:=ji et;obtain⟨y,P,rfl⟩:=aB q;exact Ny N ((g o).e x m) (i6 (λe _=>g e) P).1 ((g l).v w L) (E _ _ _)
  .obtain⟨y,P,rfl⟩:=aB q;exact NA N ((g o).e x m) ((g i).v y P) ((g l).v w L) (E _ _ _) rfl (i7 P).ps
 rcases k5 S with ⟨⟨o,f,ap⟩,Z,F⟩|⟨_,F⟩
 .clear q A S;cases GZ Z;split at F
  .rename_i hd;rw[aD]at hd;obtain⟨s,N⟩:=qy.mp hd.1;obtain⟨p,rfl⟩:=Jn N;obtain⟨x,m,rfl⟩:=aB F;exact NB h.attrs ((g o).e x m) KU rfl
  obtain⟨x,m,q⟩:=au F;obtain⟨z,P,rfl⟩:=aB q;refine NB h.attrs ((g o).e x m) (sf h P).1 ?_;cases B:iG l with
  |false=>exact(sf h P).2 B _ _ _
  |true=>have c:l.ctorIdx=8:=eq_of_beq B;clear q P F B;exact Expr.ListComp.elim (motive_1:=λv=>swapsWith v (some (.Attribute o f ap)) Q.line X.e=pure false) l c λ_ _ _ _=>rfl
 .clear q A S;split at F
  .cases F
  rename_i C;obtain⟨R,K,I⟩:=au F;clear F;obtain⟨c,p,rfl⟩:=ji K;split at I
  .cases I
  .rename_i V;obtain⟨gg,m,q⟩:=au I;obtain⟨z,L,rfl⟩:=aB q;exact QA ((g l).v z L) (tg_ok h.calm h.hN h.nd (λx W=>⟨h.loc W,.inl (H x)⟩) m) (show swapsWith l (some (.Tuple R c p)) Q.line X.e=pure false from(i7 L).sw (by simpa using C) _ _ _) (FE V) rfl
theorem EA{j:Cn}{X:Cx}(h:XOk j X)(k:∀x,X.fn x=true)(hp:PassesOwn (model X.p X.w) X.A X.e X.xe):∀n (st:Stmt) (f:ES),Na j n st=some f->PS X st (nh X.K f)
 |0,st,f,q=>by cases q
 |n+1,st,f,q=>by
  have i:=EA h k hp n;have g:=se n j X h;cases st with
  |Assign Q u P=>obtain⟨t,v,m⟩:=au q;clear q;cases ij v;exact K7 h k m
  |Return r p=>
   obtain⟨e,v,m⟩:=au q;cases (show r=some e from v);clear q v;split at m
   .exact K5 h m
   .obtain⟨x,s,rfl⟩:=aB m;exact KC ((g _).e x s)
  |Continue p=>cases q;exact SU
  |Raise a b p=>cases q;exact KD
  |Expr e p=>
   replace q:(if iG e=true then none else (tr j n e).e.map cj)=some f:=q;split at q
   .cases q
   .rename_i d;obtain⟨x,s,rfl⟩:=aB q;exact NC ((g _).e x s) ((pS s).sw (by simpa using d) _ _ _)
  |If c a b p=>obtain⟨c,s,q⟩:=au q;obtain⟨x,w,q⟩:=au q;obtain⟨y,S,rfl⟩:=aB q;exact SS ((g _).b c s) (nJ i w) (nJ i S)
  |For A iter o l p=>
   cases l with
   |cons _ _=>cases q
   |nil=>obtain⟨F,H,q⟩:=au q;obtain⟨K,s,q⟩:=au q;obtain⟨b,w,rfl⟩:=aB q;exact QE hp h.calm (Ki h g s) (tg_ok h.calm h.hN h.nd (λx z=>⟨h.loc z,.inl (k x)⟩) H) (nJ i w) λx=>xL s _ x
  |_=>cases q
structure Df where
 name:Str
 short:Str
 cls:Str
 st:Stmt
 N:LS
 ps:LS
 own:LS
 deep:LS
 refs:LS
noncomputable abbrev At:=List (Str×LS)
noncomputable def aT(T:At)(c f:Str):Bool:=T.any λx=>decide (x.1=c) && x.2.contains f
noncomputable def fT(D:List Df)(h:Str->GF)(x:Str):Option GF:=if (D.any λd=>decide (d.name=x) && d.cls.cps.isEmpty)=true then some (h x) else none
noncomputable def Qf(c m:Str)(d:Df):Bool:=decide (d.cls=c) && decide (d.short=m) && !d.cls.cps.isEmpty
def mT(D:List Df)(h:Str->GF)(c m:Str):Option GF:=if m=("__init__":Str) then none else (D.find? (Qf c m)).map λd=>h d.name
def RK(D:List Df)(h:Str->GF)(c:Str):Option GF:=(D.find? (Qf c "__init__")).map λd=>h d.name
noncomputable abbrev P3:=(Str->GF)×(Str->Option GF)
def RQ(G:Str->Option P)(T:At)(D:List Df)(p:P3)(d:Df):Cn:=⟨d.N,d.own,d.deep,d.refs,(bw d.st).names,fT D p.1,G,aT T,mT D p.1,p.2⟩
def wW(G:Str->Option P)(T:At)(D:List Df)(p:P3)(d:Df):ES:=(yL (Na (RQ G T D p d) 60) (fW d.st)).getD v_
noncomputable def xk(n:Nat)(x:Str):Bool:=(decide (x=("ends_on":Str)) && qS 14 n) ||((decide (x=("hand_ends":Str)) ||decide (x=("flaw_ends":Str))) && qS 13 n)
def uc(G:Str->Option P)(T:At)(D:List Df):Nat->P3
 |0=>(λ_ _ _=>none,λ_=>none)
 | n+1=>(fun x=>cond (xk n x) ((uc G T D n).1 x) (match D.find? fun d=>decide (d.name=x) with
  |some d=>jS d.ps.length d.N.length (wW G T D (uc G T D n) d)
  |none=>λ_ _=>none),RK D (uc G T D n).1)
noncomputable def JQ(G:Str->Option P)(T:At)(D:List Df)(n:Nat):Str->GF:=(uc G T D n).1
theorem C2{G:Str->Option P}{T:At}{D:List Df}{n:Nat}{x:Str}(h:xk n x=true):JQ G T D (n+1) x=JQ G T D n x:=by show cond (xk n x) _ _=_;rw[h];rfl
theorem cond_ok{B:Type}{c:Bool}{a b:B}{p:B->Prop}(h:p b)(x:p a):p (cond c a b):=by cases c<;>assumption
def P4(d:Df):Bool:=decide ((bw d.st).kind=.function) && !(bw d.st).isCoroutine && !(bw d.st).isGenerator && decide d.N.Nodup && decide (d.N.take d.ps.length=d.ps)
 && d.ps.all (λx=>(bw d.st).names.lookup x == some .local ||(bw d.st).names.lookup x == some .cell) && (bw d.st).names.all (λy=>y.2 != .free)
theorem Lm{d:Df}(h:P4 d=true):FnScope d.N d.ps (bw d.st):=by
 unfold P4 at h;simp only[aD]at h;obtain⟨⟨⟨⟨⟨⟨a,e⟩,s⟩,n⟩,k⟩,f⟩,b⟩:=h;refine⟨bC a,by simpa using e,by simpa using s,bC n,bC k,λx c=>?_,λy m=>?_⟩
 .have:=bK.mp f x c;simpa using this
 .have:=bK.mp b y m;simpa using this
structure DOk(K:FG)(mg:SV)(d:Df)(f:Addr)(fd:FuncData):Prop where
 fn:Fun K d.short d.name d.st f fd
 bd:Binds K fd d.ps []
 pl:d.cls.cps.isEmpty=true->∃kV doc pm an cdv ct,fd=jL d.short d.name (i' d.st) (fW d.st) (bw d.st) .none kV doc pm an cdv ct
 bn:d.short=("__init__":Str)->Ha.contains d.cls=true->Binds K fd d.ps [.none]
 gl:d.cls.cps.isEmpty=true->mg d.name=some (.ref f)
 cl:d.cls.cps.isEmpty=false->∃C,kf K d.cls C/\mg d.cls=some (.ref C)/\Cls K C/\(d.short=("__init__":Str)->Mk K C f)/\(d.short≠("__init__":Str)->Meth K C d.short f)
structure TOk(w:World)(G:Str->Option P)(T:At)(D:List Df)(K:FG)(mg:SV):Prop where
 fn:∀d ∈ D,∃f fd,DOk K mg d f fd
 sc:D.all P4=true
 un:(D.map (·.name)).Nodup
 z:∀x ∈ JH,mg x=none
 gl:∀x v,G x=some v->oH w K mg x v
 at':Qz K (aT T)
theorem sU:∀{D:List Df}{d:Df},(D.map (·.name)).Nodup->d ∈ D->(D.find? λe=>decide (e.name=d.name))=some d
 | [],_,_,h=>by cases h
 |a::r,d,x,h=>by
  rw[aE,b_]at x;rcases aW.mp h with h|h
  .subst h;simp
  .have n:¬a.name=d.name:=λz=>x.1 (by rw[z];exact aM.mpr ⟨d,h,rfl⟩);rw[List.find?_cons_of_neg (by simpa using n)];exact sU x.2 h
theorem G0{D:List Df}{x:Str}{a:Str->GF}{g:GF}(h:fT D a x=some g):∃d ∈ D,d.name=x/\d.cls.cps.isEmpty=true/\g=a x:=by
 unfold fT at h;split at h
 .rename_i c;cases h;obtain⟨d,hd,e⟩:=qD.mp c;rw[aD]at e;exact⟨d,hd,bC e.1,e.2,rfl⟩
 .cases h
theorem F6(h:Qf c m d=true):d.cls=c/\d.short=m/\d.cls.cps.isEmpty=false:=by unfold Qf at h;simp only[aD]at h;exact⟨bC h.1.1,bC h.1.2,by simpa using h.2⟩
theorem G1{D:List Df}{x:Str->GF}{c m:Str}{g:GF}(h:mT D x c m=some g):m≠("__init__":Str)/\∃d ∈ D,d.cls=c/\d.short=m/\d.cls.cps.isEmpty=false/\g=x d.name:=by
 unfold mT at h;split at h
 .cases h
 .rename_i n;obtain⟨d,q,rfl⟩:=aB h;obtain⟨a,e,s⟩:=F6 (AJ q);exact⟨n,d,A5 q,a,e,s,rfl⟩
theorem G2{D:List Df}{x:Str->GF}{c:Str}{g:GF}(h:RK D x c=some g):∃d ∈ D,d.cls=c/\d.short=("__init__":Str)/\d.cls.cps.isEmpty=false/\g=x d.name:=by unfold RK at h;obtain⟨d,q,rfl⟩:=aB h;obtain⟨a,e,s⟩:=F6 (AJ q);exact⟨d,A5 q,a,e,s,rfl⟩
theorem Ct {G:Str->Option P}{T:At}{D:List Df}{Pg:Program}{w:World}{K:FG}{mg:SV}{base:Heap} (Tk:TOk w G T D K mg):∀n,(∀d ∈ D,
  ∀f fd,Fun K d.short d.name d.st f fd->FnOk Pg w K mg base tH n f fd d.ps (sk K (JQ G T D n d.name))) /\
  ∀c g,(uc G T D n).2 c=some g->∃m,n=m+1/\∃C f fd ps,kf K c C/\mg c=some (.ref C)/\Mk K C f/\FnOk Pg w K mg base tH m f fd ps (sk K g)/\Binds K fd ps (if Ha.contains c=true then [.none] else [])
 |0=>⟨λd hd f fd hF=>Gn,λc g h=>(by cases (show(none:Option GF)=some g from h))⟩
 |n+1=>by
  have ih:=Ct (Pg:=Pg) (w:=w) (base:=base) Tk n;refine⟨λd hd f fd hF=>?_,λc g h=>?_⟩
  .have e:JQ G T D (n+1) d.name=cond (xk n d.name) (JQ G T D n d.name) (jS d.ps.length d.N.length (wW G T D (uc G T D n) d)):=by
    show cond _ _ (match D.find? λd'=>decide (d'.name=d.name) with|some d=>jS d.ps.length d.N.length (wW G T D (uc G T D n) d)|none=>λ_ _=>none)=_;rw[sU Tk.un hd];rfl
   rw[e];have hsc:=Lm (bK.mp Tk.sc d hd);have XO:∀(cdv:Value)(A:Around)(outer:List Env)(s:Shared)(H:Hp)(E':XK),Room n (A.deeper (envOfC d.name (bw d.st) s.heap.objs.size f cdv)) ->
     XOk (RQ G T D (uc G T D n) d) (x5 tH Pg w K mg base d.N d.name (bw d.st) f cdv A outer s H E').nox:=fun cdv A outer s H E' hr=>{
    hN:=rfl
    nd:=hsc.nd
    ks:=rfl
    kd:=hsc.kind
    calm:=rfl
    hu:=by have:=hr.un;show(A.deeper (envOfC d.name (bw d.st) s.heap.objs.size f cdv)).units+64 < _;lia
    fns:=λx g hg=>by obtain⟨d',hd',hn,hc,rfl⟩:=G0 hg;obtain⟨f',fd',h1⟩:=Tk.fn d' hd';subst hn;exact⟨n,f',fd',d'.ps,(ih.1 d' hd' f' fd' h1.fn),hr,h1.gl hc,h1.fn.kp,h1.bd⟩
    blt:=Tk.z
    glb:=Tk.gl
    attrs:=Tk.at'
    meths:=λc m g hg=>by obtain⟨hm,d',hd',rfl,rfl,hc,rfl⟩:=G1 hg;obtain⟨f',fd',h1⟩:=Tk.fn d' hd';obtain⟨C,c1,c2,c3,c4,c5⟩:=h1.cl hc;exact⟨C,n,f',fd',d'.ps,c1,c3,c5 hm,(ih.1 d' hd' f' fd' h1.fn),hr,h1.bd⟩
    mks:=λc g hg=>by obtain⟨m,rfl,C,f',fd',ps,c1,c2,c3,c4,c5⟩:=ih.2 c g hg;exact⟨C,m,f',fd',ps,c1,c2,c3,c4,hr,c5⟩ }
   refine cond_ok (p:=λg=>FnOk Pg w K mg base tH (n+1) f fd d.ps (sk K g)) (ME (N:=d.N) hF hsc λcdv A outer s H E' hr=>?_) ((ih.1 d hd f fd hF).mono (kq n));have X:=XO cdv A outer s H E' hr;unfold wW;cases q:yL (Na (RQ G T D (uc G T D n) d) 60) (fW d.st) with
   |none=>exact C1.imp' λD J H hz=>by obtain⟨F,m,L,S,fl,L',S',r,l,q,k⟩:=hz;cases q
   |some b=>exact nJ (λst f q=>EA X (λ_=>rfl) PassesOwn.never 60 st f q) q
  .obtain⟨d,hd,rfl,hs,hc,rfl⟩:=G2 (x:=(uc G T D n).1) h;obtain⟨f,fd,h1⟩:=Tk.fn d hd;obtain⟨C,c1,c2,c3,c4,c5⟩:=h1.cl hc;refine⟨n,rfl,C,f,fd,d.ps,c1,c2,c4 hs,(ih.1 d hd f fd h1.fn),?_⟩;by_cases hn:Ha.contains d.cls=true
   .rw [aj hn];exact h1.bn hs hn
   .rw [al hn];exact h1.bd
theorem xN:∀s:List Int,dg K F H (s.map .int) (s.map V.int)
 | []=>rfl
 |n::r=>⟨_,_,rfl,rfl,xN r⟩
theorem Mh{K:FG}{H:Hp}{a:Addr}{n:List Int}{g:GF}{E:XK}(e:DK H)(S:gY K H a (n.map V.int))(h:dM g [.ro (n.map .int)]=some (.bl true)):sk K g [.ref a] H (λv _=>v=.bl true) E:=by
 refine sj ⟨λb=>b=a/\H a≠none,[.ro (n.map .int)],.bl true,λb x=>(by rw[x.1];exact x.2),⟨_,_,rfl,⟨a,_,rfl,?_,xN n⟩,rfl⟩,h,λv F k _ r=>r⟩;rcases S with S|S
 .rcases e a with z|⟨o,f,z⟩
  .rcases S with S|⟨o,S⟩<;>rw[z]at S<;>cases S
  .rcases S with S|⟨s,S⟩
   .rw [z]at S;cases S
   .exact .inl ⟨⟨rfl,by rw[z];exact λq=>nomatch q⟩,s,S⟩
 .exact .inr (.inr S)
open PySem L2
section
variable(L:Lc)(S:az)
@[simp] theorem Jy(i:Nat):a_ i L S=match L[i]? with|some (some d)=>some (d,S)|_=>none:=rfl
@[simp] theorem Ib(r:EE):dP r L S=cf (r L S) λd h=>match dQ d h with|some n=>some (.int (n:Int),h)|none=>none:=by
 unfold dP;cases r L S with
 |none=>rfl
 |some z=>obtain⟨d,h⟩:=z;rw[av,av];cases dQ d h<;>rfl
@[simp] theorem Qi(i:Nat)(v:P):af i v L=some (L.set i (some (.p v))):=rfl
end
@[simp] theorem mX(x:List B):(few x=true)=(x.length≤1000000):=by unfold few;simp
@[simp] theorem oo(n:Nat):(jt n=true)=(n≤1000000):=by unfold jt;simp
theorem b6{B:Type}{s:List B}{i:Int}{x:B}(a:0≤i)(h:s[i.toNat]? = some x):L2.atI s i=some x:=by have l:=(bL.mp h).1;unfold L2.atI L2.B9;rw[aj a,aj (by lia)];exact h
@[simp] theorem PC(x:B)(s:List B):L2.atI (x::s) 0=some x:=b6 (by lia) rfl
@[simp] theorem Qu(x y:B)(s:List B):L2.atI (x::y::s) 1=some y:=b6 (by lia) rfl
@[simp] theorem Qt(x y z:B)(s:List B):L2.atI (x::y::z::s) 2=some z:=b6 (by lia) rfl
@[simp] theorem Nt(x y z w:B)(s:List B):L2.atI (x::y::z::w::s) 3=some w:=b6 (by lia) rfl
@[simp] theorem Qo(x:List P)(i:Int):tG (.tup x) (.int i)=L2.atI x i:=rfl
@[simp] theorem Qp(x:List P)(i:Int):tG (.lst x) (.int i)=L2.atI x i:=rfl
@[simp] theorem RZ(x:List P)(i:Int):tG (.ro x) (.int i)=L2.atI x i:=rfl
@[simp] theorem Qq(k:List bG)(v:List P)(x:Str):tG (.dct k v) (.str x)=bx (.inr x) k v:=rfl
@[simp] theorem Pt(i j:Int):zp (.int i) (.int j)=some (.bl (decide (i=j))):=rfl
@[simp] theorem Ps(i j:Str):zp (.str i) (.str j)=some (.bl (decide (i=j))):=rfl
@[simp] theorem Qr(i j:Bool):zp (.bl i) (.bl j)=some (.bl (decide (i=j))):=rfl
@[simp] theorem Qn(i j:Int):MS (.int i) (.int j)=some (.bl (!decide (i=j))):=rfl
@[simp] theorem Qm(i j:Str):MS (.str i) (.str j)=some (.bl (!decide (i=j))):=rfl
@[simp] theorem RX(i j:Bool):MS (.bl i) (.bl j)=some (.bl (!decide (i=j))):=rfl
@[simp] theorem Pu(i j:Int):wP (.int i) (.int j)=some (.int (i+j)):=rfl
@[simp] theorem Pq(i j:Int):wO (.int i) (.int j)=if gJ i j=true then some (.int (i * j)) else none:=rfl
@[simp] theorem Nj(x:List P)(n:Int):pJ (.tup x) (.int n)=if (jt (x.length * n.toNat) && decide (n.natAbs < 1000000))=true then some (.tup (List.replicate n.toNat x).flatten) else none:=rfl
@[simp] theorem Nk(x:Str)(n:Int):pJ (.str x) (.int n)=wO (.str x) (.int n):=rfl
@[simp] theorem Pp(i:Int):x4 (.int i)=some (.int (-i)):=rfl
theorem aJ(a n:Nat)(b:ES)(s:List P):dM (jS a n b) s=if s.length=a then match b (s.map (λp=>some (.p p))++List.replicate (n-s.length) none) [] with
 |some (.rt d,_,S)=>(toP 9 d S).map (·.1)
 |some (.nx,_,_)=>some .non
 |_=>none else none:=by
 unfold dM jS;rw[aR,gC];by_cases h:s.length=a
 .rw [aj h,aj h];show (match oX (b (s.map (fun p=>some (D.p p))++List.replicate (n-s.length) none) []) with
   |some (d,S)=>(toP 9 d S).map (λ(x:P×az)=>x.1)
   |none=>none)=_
  cases b (s.map (λp=>some (D.p p))++List.replicate (n-s.length) none) [] with
  |none=>rfl
  |some z=>obtain⟨f,L,S⟩:=z;cases f<;>simp[oX]
 .rw [al h,al h]
theorem bo{g:kY}{b:ES}{v:P}{r:List P}{L h L2:Lc}{S x:az}(a:g v L=some h)(e:b h S=some (.nx,L2,x)):bb g b (v::r) L S=bb g b r L2 x:=by simp[bb,a,e]
theorem lB{g:kY}{b:ES}{v:P}{r:List P}{L h L2:Lc}{S x:az}{d:D}(a:g v L=some h)(e:b h S=some (.rt d,L2,x)):bb g b (v::r) L S=some (.rt d,L2,x):=by simp[bb,a,e]
section
variable(L:Lc)(S:az)
@[simp] theorem B_(a:EV):jw a L S=cf (a L S) λx h=>match x with | .int n=>if (decide (n.natAbs < 1000000))=true then some (intsFrom 0 n.toNat,h) else none|_=>none:=by
 unfold jw;cases a L S with
 |none=>rfl
 |some z=>obtain⟨x,h⟩:=z;cases x<;>first|rfl|simp
@[simp] theorem Pa(g:List kY)(v:List P):aP g (.tup v) L=sR g v L:=rfl
@[simp] theorem O_:sR [] [] L=some L:=rfl
@[simp] theorem Nh(g:kY)(s:List kY)(v:P)(h:List P):sR (g::s) (v::h) L=match g v L with|some a=>sR s h a|none=>none:=rfl
@[simp] theorem Q0(v:P):Ii (.p v) S=yK v:=rfl
@[simp] theorem PZ(b:Bool):yK (.bl b)=some b:=rfl
@[simp] theorem N4(i:Int):yK (.int i)=some (i != 0):=rfl
@[simp] theorem SD(x y:P):Dp (.p x) (.p y) S=(zg x y).map .bl:=rfl
@[simp] theorem SA(x y:P):Kk (.p x) (.p y) S=(FH x y).map .bl:=rfl
end
@[simp] theorem Ql(i j:Int):zg (.int i) (.int j)=some (decide (i=j)):=rfl
@[simp] theorem Qk(i j:Str):zg (.str i) (.str j)=some (decide (i=j)):=rfl
@[simp] theorem RV(i j:Bool):zg (.bl i) (.bl j)=some (decide (i=j)):=rfl
@[simp] theorem Qb(i j:Int):FH (.int i) (.int j)=some (!decide (i=j)):=rfl
@[simp] theorem Qa(i j:Str):FH (.str i) (.str j)=some (!decide (i=j)):=rfl
@[simp] theorem Ry(i j:Bool):FH (.bl i) (.bl j)=some (!decide (i=j)):=rfl
@[simp] theorem Np(i j:Int):lE (.int i) (.int j)=some (.int (i+j)):=rfl
@[simp] theorem Nn(x y:Str):lE (.str x) (.str y)=wP (.str x) (.str y):=rfl
@[simp] theorem No(x y:List P):lE (.lst x) (.lst y)=if jt (x.length+y.length)=true then some (.lst (x++y)) else none:=rfl
@[simp] theorem Nm(i j:Int):pJ (.int i) (.int j)=if gJ i j=true then some (.int (i * j)) else none:=rfl
@[simp] theorem Nl(x:List P)(n:Int):pJ (.lst x) (.int n)=if (jt (x.length * n.toNat) && decide (n.natAbs < 1000000))=true then some (.lst (List.replicate n.toNat x).flatten) else none:=rfl
theorem Gr(h:cK 20 v=true):zg v v=some true:=by
 unfold zg;have e:bz (pd v) (pd v)=true:=p9 _ (fU 20 v h).1;cases q:zp v v with
 |none=>simp[h,e]
 |some z=>
  cases v with
  |int i=>cases q;simp
  |str i=>cases q;simp
  |bl i=>cases q;simp
  |non=>cases q
  |tup _=>cases q
  |lst _=>cases q
  |ro _=>cases q
  |dct _ _=>cases h
theorem nP(h:cK 20 v=true):FH v v=some false:=by
 unfold FH;have e:bz (pd v) (pd v)=true:=p9 _ (fU 20 v h).1;cases q:MS v v with
 |none=>simp[h,e]
 |some z=>
  cases v with
  |int i=>cases q;simp
  |str i=>cases q;simp
  |bl i=>cases q;simp
  |non=>cases q
  |tup _=>cases q
  |lst _=>cases q
  |ro _=>cases q
  |dct _ _=>cases h
theorem rj(h:cK 20 (.lst s)=true):zg (.lst s) (.lst [])=some s.isEmpty:=by unfold zg;have e:cK 20 (.lst [])=true:=rfl;show(if (cK 20 (.lst s) && cK 20 (.lst []))=true then some (bz (pd (.lst s)) (pd (.lst []))) else none)=_;rw[h,e];cases s<;>rfl
theorem l7(h:cK 20 (.lst s)=true):FH (.lst s) (.lst [])=some (!s.isEmpty):=by unfold FH;have e:cK 20 (.lst [])=true:=rfl;show(if (cK 20 (.lst s) && cK 20 (.lst []))=true then some (!PyData.eqv (pd (.lst s)) (pd (.lst []))) else none)=_;rw[h,e];cases s<;>rfl
section
variable{L:Lc}{S:az}
@[simp high] theorem TR(d:D):a_ 0 (some d::L) S=some (d,S):=rfl
@[simp high] theorem TQ(a:Option D)(i:Nat):a_ (i+1) (a::L) S=a_ i L S:=rfl
@[simp ↓ high] theorem TN(x y:a):(if few ([]:List B)=true then x else y)=x:=rfl
@[simp ↓ high] theorem TM(a:B)(x y:s):(if few ([a]:List B)=true then x else y)=x:=rfl
@[simp ↓ high] theorem TL(a h:B)(x y:s):(if few ([a,h]:List B)=true then x else y)=x:=rfl
@[simp ↓ high] theorem TK(a h e:B)(x y:s):(if few ([a,h,e]:List B)=true then x else y)=x:=rfl
@[simp ↓ high] theorem TJ(a h e s:B)(x y:f):(if few ([a,h,e,s]:List B)=true then x else y)=x:=rfl
@[simp ↓ high] theorem TH(a h e s n:B)(x y:f):(if few ([a,h,e,s,n]:List B)=true then x else y)=x:=rfl
@[simp ↓ high] theorem TD(a h e s n k:B)(x y:f):(if few ([a,h,e,s,n,k]:List B)=true then x else y)=x:=rfl
@[simp ↓ high] theorem TC(a h e s n k f:B)(x y:b):(if few ([a,h,e,s,n,k,f]:List B)=true then x else y)=x:=rfl
@[simp high] theorem TV(v:P)(S:az):toP 9 (.p v) S=some (v,S):=rfl
@[simp ↓ high] theorem SI(x:Option (B×az))(f:B->az->Option s):cf x f=match x with|some (a,S)=>f a S|none=>none:=rfl
@[simp ↓ high] theorem Tu(x y:a):(if true=true then x else y)=x:=rfl
@[simp ↓ high] theorem Tv(x y:a):(if false=true then x else y)=y:=rfl
end
@[simp] theorem Rp(a b:String):(Str.ofString a=Str.ofString b)=(a=b):=by rw[zK,zK];exact propext ⟨λh=>String.toList_inj.mp ((AT λ_ _=>Char.toNat_inj.mp).mp (by simpa using h)),λh=>by rw[h]⟩
end Ev
set_option tactic.hygienic false
namespace My
open PySem L2 Ev
noncomputable abbrev O(x:P):Option D:=some (.p x)
noncomputable abbrev Y(x:Int):Option D:=some (.p (.int x))
noncomputable abbrev qs(x:Str):Option D:=some (.p (.str x))
noncomputable abbrev ql(x:List P):Option D:=some (.p (.lst x))
noncomputable abbrev qt(x:List P):Option D:=some (.p (.tup x))
noncomputable abbrev qr(x:Nat):Option D:=some (.ref x)
@[simp] abbrev vv(k:Nat):EV:=vE (a_ k)
@[simp] abbrev vi(i:Int):EV:=vC (.int i)
@[simp] abbrev vt(x:Str):EV:=vC (.str x)
@[simp] abbrev v1(a:EV):lh:=bI a aY
@[simp] abbrev v2(a b:EV):lh:=bI a (bI b aY)
@[simp] abbrev v3(a b c:EV):lh:=bI a (bI b (bI c aY))
@[simp] abbrev v4(a b c d:EV):lh:=bI a (bI b (bI c (bI d aY)))
@[simp] abbrev v5(a b c d e:EV):lh:=bI a (bI b (bI c (bI d (bI e aY))))
@[simp] abbrev v6(a b c d e f:EV):lh:=bI a (bI b (bI c (bI d (bI e (bI f aY)))))
@[simp] abbrev v8(a b c d e f g h:EV):lh:=bI a (bI b (bI c (bI d (bI e (bI f (bI g (bI h aY)))))))
@[simp] abbrev HV(a:EE):pP:=cN a j3
@[simp] abbrev rY(a b:EE):pP:=cN a (cN b j3)
@[simp] abbrev KH(a b c:EE):pP:=cN a (cN b (cN c j3))
@[simp] abbrev Si(a b c d:EE):pP:=cN a (cN b (cN c (cN d j3)))
@[simp] abbrev KG(a b c d e:EE):pP:=cN a (cN b (cN c (cN d (cN e j3))))
@[simp] abbrev Sh(a b c d e f:EE):pP:=cN a (cN b (cN c (cN d (cN e (cN f j3)))))
@[simp] abbrev aS(a b:EE):EB:=bV (eC Dp a b)
@[simp] abbrev cU(a b:EE):EB:=bV (eC Kk a b)
@[simp] abbrev lr:EV->EV->EV:=qY RY
@[simp] abbrev ab:EV->EV->EV:=qY tG
@[simp] abbrev aK:EV->EV->EV:=qY zm
@[simp] abbrev Bs:EV->EV->EV:=qY R1
@[simp] abbrev En:EV->EV->EV:=qY MR
@[simp] abbrev lq:EV->EV->EV:=qY MP
@[simp] abbrev aH:EV->EV->EV:=qY MT
@[simp] abbrev dY:EV->EV->EV:=qY pJ
@[simp] abbrev ak:EV->EV->EV:=qY lE
@[simp] abbrev mq:EV->EV->EV:=qY R0
@[simp] abbrev JU:EV->EV->EV:=qY Pr
@[simp] abbrev cy(g:GF):lh->EV:=bS (dM g)
@[simp] abbrev cP:EV:=vE (a_ 1)
@[simp] abbrev bM:EV:=vE (a_ 0)
@[simp] abbrev dF:EV:=vE (a_ 3)
@[simp] abbrev gX:EV:=vE (a_ 4)
@[simp] abbrev ig:EV:=vE (a_ 6)
@[simp] abbrev lc:EV:=vE (a_ 8)
@[simp] abbrev jB:EV:=vE (a_ 5)
@[simp] abbrev iC:EV:=vE (a_ 7)
@[simp] abbrev jf:EV:=vE (a_ 9)
@[simp] abbrev dh:EV:=vE (a_ 2)
@[simp] abbrev gm:EV:=vE (a_ 11)
@[simp] abbrev ku:EV:=vE (a_ 10)
@[simp] abbrev mi:EV:=vE (a_ 12)
@[simp] abbrev kt:EV:=vE (a_ 13)
@[simp] abbrev cI:EV:=vC (.int 0)
@[simp] abbrev bX:EV:=vC (.int 1)
@[simp] abbrev eW:EV:=vC (.int 2)
@[simp] abbrev nH:EV:=vC (.int 4)
@[simp] abbrev gp:EV:=vC (.int 3)
@[simp] abbrev qX:EV:=vC (.int 5)
@[simp] abbrev fE:EE:=a_ 0
@[simp] abbrev oO:EE:=a_ 3
@[simp] abbrev gq:EE:=a_ 1
@[simp] abbrev i4:EE:=a_ 2
@[simp] abbrev yF:EE:=a_ 7
@[simp] abbrev lY:EE:=a_ 6
@[simp] abbrev lZ:EE:=a_ 4
@[simp] abbrev jM:EE:=a_ 10
@[simp] abbrev DL:EE:=a_ 8
noncomputable def J0(i:Nat):Stmt:=PySem.Challenge.pw_roadsall_k21_possible_deeds.main.body.getD i (.Pass ⟨0,0,0,0⟩)
noncomputable def Gv(x:Str):Option P:=if x=("HIGHEST_LETTER":Str) then some (.int 999) else if x=("NOBODY":Str) then some (.int (-1)) else none
noncomputable def P7:LS:=["_law_value","_law_true","flaw_ends","Board.family_of","Board.hands_beside","takeable","targets_of","posted","sendings","step_ends","hand_ends","ends_on","Board.__init__","do_on"]
def RC(st:Stmt):LS:=((bw st).names.filter λx=>[NameKind.local,.cell].contains x.2).map (·.1)
def Qd(x:Str)(t k:Nat)(N o d:LS):Df:=⟨x,x,"",J0 t,N,N.take k,o,d,P7⟩
def iz(x:Str)(t k:Nat)(o d:LS:=[]):Df:=Qd x t k (RC (J0 t)) o d
def rk:Df:=iz "law" 61 1 ["_law_found"] ["_law_found","deeds","ends_from"]
noncomputable def Att:At:=[("Board",["families","homes","members","pairs","places"])]
def Nw:List Df:=[iz "_law_cell_at" 35 2,iz "_law_mix" 36 2,iz "_law_roads" 41 3 ["_law_roads_here"],iz "_law_name" 37 2,iz "_law_cells" 38 3 ["_law_cells_here"],iz "_law_sum" 39 2,iz "_law_sends" 42 6 ["_law_sends_here"],iz "_law_condition" 40 2,iz "_law_step" 43 6 ["_law_changes"],Qd "_law_family" 44 6 ["_law_script","_law_k","_law_name_here","_law_crew_here","_law_wide","_law_roads_here","_law_cells_here","_law_drawn","_law_rooms","_law_whos","_law_steps_here","_law_j","_law_first"] ["_law_steps_here"] [],Qd "_law_plan" 45 2 ["_law_script","_law_most","_law_total","_law_wide","_law_many","_law_names","_law_roads_here","_law_families_here","_law_k","_law_name_here","_law_crew_here"] ["_law_families_here"] [],iz "_law_families" 46 1,iz "_law_crew" 47 2,iz "_law_pairs" 48 1 ["_law_found"],iz "_law_standing" 49 2 ["_law_cells_here","_law_hands","_law_letters_here","_law_roads_here","_law_whos"],iz "families_of" 11 1 ["homes"],iz "pairs_of" 12 1 ["pairs"],iz "begin" 13 1 ["hands"],iz "_law_road" 54 3,iz "_law_letters" 55 4 ["_law_found"],iz "_law_chosen" 56 3,iz "_law_values" 53 2 ["_law_found"],iz "_law_value" 50 2 ["_law_values_here"],iz "_law_mailed" 58 5,iz "_law_goals" 57 5,iz "_law_relation" 51 3,iz "_law_true" 52 2 ["_law_values_here"],iz "_law_step_end" 59 6 ["_law_people","_law_told","_law_values_here"] ["_law_values","_law_values_here"],iz "_law_steps" 60 2 ["_law_found"],iz "has_flaw" 30 3,iz "unlike_spots" 22 2,iz "replaced" 33 3,iz "without" 32 2,iz "flawed" 31 3,iz "flaw_ends" 29 3 ["board","ends"],iz "values_of" 20 2,iz "compared" 6 3,iz "value_of" 4 2,iz "holds" 5 2,iz "takeable" 21 4 ["board","found"],iz "cells_behind" 24 4 ["given","numbers"],iz "whos_behind" 25 4,iz "targets_of" 27 5 ["board"],iz "posted" 28 5 ["board"],iz "sendings" 26 6 ["board","further"],iz "step_ends" 23 5 ["board","ends","values"] ["values","values_of"],iz "hand_ends" 19 3 ["board","ends"],iz "ends_on" 18 2 ["board","ends"],iz "ends_from" 17 2 ["return"] ["ends_on"],iz "deeds" 14 2 ["return"],iz "do_on" 16 3 ["board"],iz "do" 15 3,rk]
def SK:List Df:=[⟨"Board.family_of","family_of","Board",(L2.mf (J0 10) 1),["self","hand"],["self","hand"],["self"],[],P7⟩,⟨"Board.hands_beside","hands_beside","Board",(L2.mf (J0 10) 2),["self","hand","name"],["self","hand","name"],["self"],[],P7⟩,⟨"Board.__init__","__init__","Board",(L2.mf (J0 10) 0),["self","plan","place","pair","hand"],["self","plan"],["self"],["families_of","pairs_of","places","self"],P7⟩]
noncomputable def Tb:List Df:=Nw++SK
noncomputable def Ph(n:Nat):Str->GF:=JQ Gv Att Tb n
abbrev EQ(x:Str)(a b:Nat)(f:(Str->GF)->ES):Prop:=∀n,Ph (n+2) x=jS a b (f (Ph (n+1)))
def iQ (h:Str->GF):ES:=(ae (cQ (bV (lr cP (dP fE))) (aL (U (ab bM cP))) dA)
  (aL (U cI)))
theorem k7:EQ "_law_cell_at" 2 2 iQ:=λ_=>by kernel_rfl
def ju(h:Str->GF):ES:=(am 0 (U (aK bM (vi 2147483648))))
def lH (h:Str->GF):ES:=(ae (cQ (bV (Bs bM (En (vi 10) (vi 12)))) (ae (am 0 (U (lq (aK bM (En (vi 10) (vi 12))) bX)))
  (ae (bq (jw (aH cP (vi 61))) (af 2) (ju h))
  (aL (U (aH bM (vi 2147483648)))))) dA)
  (ae (am 3 (U (aH (dY (ak (ak (aH bM (vi 1000003)) (dY (dY cP cP) (vi 7919))) cP) (vi 48271)) (vi 2147483629))))
  (ae (am 3 (U (aH (dY dF dF) (vi 2147483587))))
  (aL (U (aK (aH (dY dF (ak dF eW)) (vi 2147483579)) (vi 7)))))))
theorem pG:EQ "_law_mix" 2 4 lH:=λ_=>by kernel_rfl
def ei (h:Str->GF):ES:=(ae (am 8 (U (cy (h "_law_mix") (v2 (cy (h "_law_cell_at") (v2 bM nH)) (ak (ak (vi 30) (dY nH gX)) ig)))))
  (cQ (kc (bV (mq (aH lc nH) cI)) (bV (lr (dP oO) (vi 8)))) (ae (am 9 (U (ab (bf (v2 (vt "row") (vt "heap"))) (aH (aK lc nH) eW))))
  (cj (bH oO (U (aI (v6 jB iC jf (ak bX (aH (aK lc (vi 8)) dh)) (eC Dp (U (aH (aK lc (vi 24)) gp)) (U bX)) (eC Dp (U (aH (aK lc (vi 72)) gp)) (U bX)))))))) dA))
def hG(h:Str->GF):ES:=(bq (iD cP) (aP [af 6,af 7]) (ei h))
def mI (h:Str->GF):ES:=(ae (am 3 (dB aY))
  (ae (bq (iD cP) (aP [af 4,af 5]) (hG h))
  (aL oO)))
theorem tX:EQ "_law_roads" 3 10 mI:=λ_=>by kernel_rfl
def oC (h:Str->GF):ES:=(ae (am 2 (U (cy (h "_law_mix") (v2 (cy (h "_law_cell_at") (v2 bM bX)) cP))))
  (aL (U (ak (dY (ab (vt "abcdefghijklmnop") cP) (ak bX (aH dh nH))) (ab (vt "xyz") (aH (aK dh nH) gp))))))
theorem wI:EQ "_law_name" 2 3 oC:=λ_=>by kernel_rfl
def hJ (h:Str->GF):ES:=(ae (am 5 (U (cy (h "_law_mix") (v2 (cy (h "_law_cell_at") (v2 bM (ak eW cP))) (ak eW gX)))))
  (ae (am 6 (U (ab (bf (v4 cI cI (K2 x4 bX) qX)) (aH jB nH))))
  (ae (am 7 (U (ak ig (ab (bf (v4 bX eW cI bX)) (aH (aK jB nH) nH)))))
  (cj (bH oO (U (aI (v4 (cy (h "_law_name") (v2 bM (ak eW gX))) ig iC (ak ig (aH (aK jB (vi 16)) (ak (lq iC ig) bX)))))))))))
def mL (h:Str->GF):ES:=(ae (am 3 (dB aY))
  (ae (bq (jw (aH (cy (h "_law_mix") (v2 (cy (h "_law_cell_at") (v2 bM (ak eW cP))) bX)) (ak dh bX))) (af 4) (hJ h))
  (aL oO)))
theorem t5:EQ "_law_cells" 3 8 mL:=λ_=>by kernel_rfl
def fj (h:Str->GF):ES:=(ae (cQ (uS (aS gq (U (bf aY))) (aS (U (aH bM qX)) (U cI))) (aL (U (aI (v2 (vt "number") (aH (aK bM qX) gp))))) dA)
  (ae (am 2 (U (aI (v2 (vt "name") (ab cP (aH (aK bM qX) (dP gq)))))))
  (ae (cQ (aS (U (aH bM qX)) (U bX)) (aL i4) dA)
  (ae (cQ (aS (U (aH bM qX)) (U eW)) (aL (U (aI (v3 (vt "plus") dh (aI (v2 (vt "number") (aH (aK bM (vi 20)) gp))))))) dA)
  (ae (cQ (aS (U (aH bM qX)) (U gp)) (aL (U (aI (v3 (vt "minus") (aI (v3 (vt "times") dh (aI (v2 (vt "number") (aH (aK bM (vi 20)) gp))))) (aI (v2 (vt "number") (aH (aK bM (vi 60)) eW))))))) dA)
  (aL (U (aI (v3 (vt "minus") (aI (v2 (vt "number") bX)) dh)))))))))
theorem gi:EQ "_law_sum" 2 3 fj:=λ_=>by kernel_rfl
def fy (h:Str->GF):ES:=(ae (am 9 (U (aK bM (ab (bf (v3 nH (vi 1000) (vi 100000))) lc))))
  (ae (am 10 (U (cy (h "_law_sum") (v2 (aH (aK jf (vi 12)) (vi 300)) dh))))
  (ae (am 11 (U (ab (bf (v2 (vt "ma") (vt "mb"))) (aH jf eW))))
  (cQ (kc (cU oO (U (bf aY))) (aS (U (aH (aK jf eW) gp)) (U bX))) (cj (bH yF (U (aI (v4 gm ku (vt "who") (ab dF (aH (aK jf (vi 50)) (dP oO)))))))) (cQ (cU lY (U (bf aY))) (cj (bH yF (U (aI (v4 gm ku (ab (bf (v2 (vt "all") (vt "any"))) (dY (aH (aK jf (vi 6)) eW) (bS dC (v1 (lr lc eW))))) (ab ig (aH (aK jf gp) (dP lY)))))))) dA)))))
def mH (h:Str->GF):ES:=(ae (am 6 (U (bE (fG gX) [] 1 (af 12) (aS (U (ab mi cI)) gq) (ab mi bX))))
  (ae (am 7 (dB aY))
  (ae (bq (jw (aH bM (ak jB bX))) (af 8) (fy h))
  (aL yF))))
theorem tW:EQ "_law_sends" 6 12 mH:=λ_=>by kernel_rfl
def cW (h:Str->GF):ES:=(ae (cQ (uS (aS gq (U (bf aY))) (bV (lr (aH bM qX) eW))) (aL (U (aI (v1 (vt "true"))))) dA)
  (ae (am 2 (U (ab (bf (v6 (vt "=") (vt "!=") (vt "<") (vt "<=") (vt ">") (vt ">="))) (aH (aK bM qX) (vi 6)))))
  (ae (am 3 (U (aI (v4 (vt "is") dh (aI (v2 (vt "name") (ab cP (aH (aK bM (vi 30)) (dP gq))))) (cy (h "_law_sum") (v2 (aK bM (vi 90)) cP))))))
  (ae (cQ (aS (U (aH bM qX)) (U eW)) (aL (U (aI (v2 (vt "not") dF)))) dA)
  (ae (cQ (aS (U (aH bM qX)) (U gp)) (aL (U (aI (v3 (vt "or") dF (aI (v3 (vt "and") (aI (v1 (vt "true"))) (aI (v4 (vt "is") (vt "=") (aI (v2 (vt "number") bX)) (aI (v2 (vt "name") (ab cP cI))))))))))) dA)
  (aL oO))))))
theorem dH:EQ "_law_condition" 2 4 cW:=λ_=>by kernel_rfl
def f_ (h:Str->GF):ES:=(cQ (kc (cU yF (U (bf aY))) (aS (U (aH (ab bM cI) gp)) (U bX))) (ae (am 11 (U (vt "")))
  (ae (cQ (kc (cU lY (U (bf aY))) (aS (U (aH (aK (ab bM cI) gp) eW)) (U bX))) (ae (am 11 (U (ab ig (K2 x4 bX))))
  (am 9 (U (i5 ig cY (cV (K2 x4 bX)))))) dA)
  (ae (am 12 (U (vt "")))
  (ae (cQ (kc (cU lZ (U (bf aY))) (aS (U (aH (aK (ab bM cI) (vi 6)) eW)) (U bX))) (am 12 (U (ab gX (aH (aK (ab bM cI) (vi 200)) (dP lZ))))) dA)
  (ae (am 8 (U (aI (v4 (ab (bf (v2 (vt "ma") (vt "mb"))) (aH (aK (ab bM cI) (vi 12)) eW)) (ab iC (aH (aK (ab bM cI) (vi 24)) (dP yF))) gm mi))))
  (am 10 (U (bf (v1 (vt "it")))))))))) dA)
def f8(h:Str->GF):ES:=(cQ (aS (U (aH (aK (ab bM bX) (ab (bf (v3 bX (vi 1000) (vi 1000000))) (vv 14))) eW)) (U bX)) (cj (bH (a_ 13) (U (aI (v2 (vv 15) (cy (h "_law_sum") (v2 (aH (aK (ab bM bX) (ab (bf (v3 eW (vi 2000) (vi 2000000))) (vv 14))) (vi 300)) (ak ig ku)))))))) dA)
def oA (h:Str->GF):ES:=(ae (am 6 (U (bE (fG dF) [] 1 (af 18) fm (ab (vv 18) cI))))
  (ae (am 7 (U (bE (fG jB) [] 1 (af 18) (aS (U (ab (vv 18) bX)) gq) (ab (vv 18) cI))))
  (ae (am 8 (U (vC (.non))))
  (ae (am 9 (U (bS gb (v1 ig))))
  (ae (am 10 (U (bf aY)))
  (ae (f_ h)
  (ae (am 13 (dB aY))
  (ae (bq (iD jf) (aP [af 14,af 15]) (f8 h))
  (ae (am 16 (U (cy (h "_law_sends") (v6 (ab bM eW) cP (ak ig ku) gX jB (ak eW (bS dC (v1 (mq (dP i4) gp))))))))
  (ae (am 17 (U (cy (h "_law_condition") (v2 (aH (ab bM gp) (vi 27000)) ig))))
  (aL (U (aI (v6 (ab dh (aH (aK (ab bM gp) (vi 27000)) (dP i4))) (vv 17) lc kt (vv 16) (ab dh (aH (aK (ab bM gp) (vi 216000)) (dP i4)))))))))))))))))
theorem wF:EQ "_law_step" 6 18 oA:=λ_=>by kernel_rfl
def gO (h:Str->GF):ES:=(ae (am 12 (U (dY nH (ak (dY (vi 8) cP) gm))))
  (ae (am 7 (U (bE (jw nH) [] 1 (af 13) fm (cy (h "_law_mix") (v2 (cy (h "_law_cell_at") (v2 bM (ak qX (aH (ak mi kt) (vi 24))))) (ak (ak (vi 11) mi) kt))))))
  (cj (bH jM (U (ak (aI (v1 (cy (h "_law_name") (v2 bM (ak (vi 8) gm))))) (cy (h "_law_step") (v6 iC dh lc ig jf jB))))))))
def lJ (h:Str->GF):ES:=(ae (am 6 (U (cy (h "_law_cells") (v3 bM cP (ak eW (bS dC (v1 gX)))))))
  (ae (am 7 (U (cy (h "_law_mix") (v2 (cy (h "_law_cell_at") (v2 bM (ak eW cP))) (vi 9)))))
  (ae (am 8 (U (bE (jw (ak bX (aH iC (ab (bf (v2 gp (vi 8))) (bS dC (v1 gX)))))) [11] 0 (af 11) fm (cy (h "_law_name") (v2 bM (ak nH gm))))))
  (ae (am 7 (U (cy (h "_law_mix") (v2 (cy (h "_law_cell_at") (v2 bM (ak eW cP))) (vi 8)))))
  (ae (am 9 (U (bE (jw (aH iC (ak eW (bS dC (v1 gX))))) [11] 0 (af 11) fm (cy (h "_law_name") (v2 bM (ak (vi 10) gm))))))
  (ae (am 10 (dB aY))
  (ae (bq (jw (ak bX (aH (cy (h "_law_mix") (v2 (cy (h "_law_cell_at") (v2 bM (ak eW cP))) (vi 7))) (ab (bf (v2 gp (vi 8))) (bS dC (v1 gX)))))) (af 11) (gO h))
  (aL (U (aI (v6 dh dF lc ig jf ku)))))))))))
theorem sX:EQ "_law_family" 6 13 lJ:=λ_=>by kernel_rfl
def iN (h:Str->GF):ES:=(ae (am 10 (U (ak bX (aH (aK dh (ab (bf (v4 nH (vi 12) (vi 16) (vi 16))) lc)) (ab (bf (v4 (ak cP (bS dC (v1 dF))) eW bX bX)) (lq gX bX))))))
  (cj (bH yF (U (cy (h "_law_family") (v6 bM lc jf ku dF ig))))))
def oB (h:Str->GF):ES:=(ae (am 2 (U (cy (h "_law_cell_at") (v2 bM cI))))
  (ae (am 3 (U (eC Dp (U (aH (aK dh (vi 64)) (vi 8))) (U bX))))
  (ae (am 4 (U (ak bX (aH dh (ab (bf (v2 eW nH)) (bS dC (v1 dF)))))))
  (ae (am 5 (U (bE (jw gX) [8] 0 (af 8) fm (cy (h "_law_name") (v2 bM lc)))))
  (ae (am 6 (U (cy (h "_law_roads") (v3 bM jB (ak eW (bS dC (v1 dF)))))))
  (ae (am 7 (dB aY))
  (ae (bq (iD jB) (aP [af 8,af 9]) (iN h))
  (aL (U (aI (v3 iC ig (bf aY))))))))))))
theorem wH:EQ "_law_plan" 2 11 oB:=λ_=>by kernel_rfl
def fI(h:Str->GF):ES:=(am 1 (U (ak cP (dY (bf (v1 dh)) (ab dh bX)))))
def j' (h:Str->GF):ES:=(ae (am 1 (U (bf aY)))
  (ae (bq (fG (ab bM cI)) (af 2) (fI h))
  (aL gq)))
theorem o_:EQ "_law_families" 1 3 j':=λ_=>by kernel_rfl
def oD(h:Str->GF):ES:=(aL (U (bE (iD (cy (h "_law_families") (v1 bM))) [] 2 (aP [af 2,af 3]) (aS (U (ab dF cI)) gq) dh)))
theorem wJ:EQ "_law_crew" 2 2 oD:=λ_=>by kernel_rfl
def fA(h:Str->GF):ES:=(cQ (cU oO lZ) (cj (bH gq (U (aI (v3 dh dF gX))))) dA)
def j_(h:Str->GF):ES:=(bq (fG (cy (h "_law_crew") (v2 bM (ab dh bX)))) (af 4) (fA h))
def j9(h:Str->GF):ES:=(bq (fG (cy (h "_law_crew") (v2 bM (ab dh cI)))) (af 3) (j_ h))
def mJ (h:Str->GF):ES:=(ae (am 1 (dB aY))
  (ae (bq (fG (ab bM bX)) (af 2) (j9 h))
  (aL gq)))
theorem tY:EQ "_law_pairs" 1 5 mJ:=λ_=>by kernel_rfl
def d7(h:Str->GF):ES:=(cj (bH yF (U (ak (ab jf bX) (aH (aK ig (ab (bf (v3 (vi 8) (vi 32) (vi 128))) lc)) (ak (lq (ab jf eW) (ab jf bX)) bX))))))
def d6(h:Str->GF):ES:=(cj (bH jM (U (lq (aH (aK ig (ab (bf (v2 (vi 512) (vi 4096))) lc)) (ak (dP oO) bX)) bX))))
def d5 (h:Str->GF):ES:=(ae (am 6 (U (cy (h "_law_mix") (v2 (cy (h "_law_cell_at") (v2 bM (ak (vi 29) gX))) (vi 31)))))
  (ae (am 7 (dB aY))
  (ae (bq (iD (ab jB gp)) (aP [af 8,af 9]) (d7 h))
  (ae (am 10 (dB aY))
  (ae (bq (jw (dP (U (ab jB nH)))) (af 8) (d6 h))
  (cj (bH i4 (U (aI (v3 (aH ig (dP (U (ab jB eW)))) (bS bO (v1 iC)) (bS bO (v1 ku))))))))))))
def d4 (h:Str->GF):ES:=(ae (am 15 (U (ak (lq (aH (aK ig (ab (bf (v3 (vi 8) (vi 800) (vi 80000))) lc)) nH) bX) (ab (bf (v4 cI (vi 997) cI (K2 x4 (vi 998)))) (aH (aK ig (vi 8000000)) nH)))))
  (cj (bH (a_ 14) (U (aI (v2 (ab (bf (v2 (vt "ma") (vt "mb"))) (aH (aK ig (ab (bf (v3 nH (vi 400) (vi 40000))) lc)) eW)) (vv 15)))))))
def dZ (h:Str->GF):ES:=(ae (am 6 (U (cy (h "_law_mix") (v2 (cy (h "_law_cell_at") (v2 bM (ak (vi 34) (aH mi (vi 20))))) (ak (vi 33) (aK mi (vi 20)))))))
  (ae (am 14 (dB aY))
  (ae (bq (jw (aH ig (ak (ab (ab kt cI) gp) bX))) (af 8) (d4 h))
  (ae (cQ (aS (U (ab (ab kt cI) eW)) (U (vt "heap"))) (am 14 (U (ug (a_ 14)))) dA)
  (cj (bH (a_ 11) (U (bS bO (v1 (vv 14))))))))))
def g_ (h:Str->GF):ES:=(ae (am 2 (dB aY))
  (ae (am 3 (U (cy (h "_law_families") (v1 cP))))
  (ae (bq (iD dF) (aP [af 4,af 5]) (d5 h))
  (ae (am 11 (dB aY))
  (ae (bq (iD (cy (h "_law_pairs") (v1 cP))) (aP [af 12,af 13]) (dZ h))
  (aL (U (aI (v2 (bS bO (v1 dh)) (bS bO (v1 gm)))))))))))
theorem o8:EQ "_law_standing" 2 16 g_:=λ_=>by kernel_rfl
def gf(h:Str->GF):ES:=(cj (gK gq (dY (bf (v1 dh)) (ab dF bX))))
def k9 (h:Str->GF):ES:=(ae (am 1 (dB aY))
  (ae (bq (iD (ab bM cI)) (aP [af 2,af 3]) (gf h))
  (aL gq)))
theorem pX:EQ "families_of" 1 4 k9:=λ_=>by kernel_rfl
def f6 (h:Str->GF):ES:=(cQ (aS (a_ 5) (U (ab dF cI))) (ae (am 6 (U (bE (jw (dP gq)) [] 1 (af 7) (kc (cU yF lZ) (aS (U (ab cP iC)) (U (ab dF bX)))) iC)))
  (cj (gK i4 (bE (fG ig) [] 1 (af 7) fm (aI (v3 dF gX iC)))))) dA)
def k8(h:Str->GF):ES:=(bq (iD cP) (aP [af 4,af 5]) (f6 h))
def oz (h:Str->GF):ES:=(ae (am 1 (U (bE (fG (cy (h "families_of") (v1 bM))) [] 1 (af 7) fm (ab (ab (ab bM cI) iC) cI))))
  (ae (am 2 (dB aY))
  (ae (bq (fG (ab bM bX)) (af 3) (k8 h))
  (aL i4))))
theorem wE:EQ "pairs_of" 1 7 oz:=λ_=>by kernel_rfl
def kU (h:Str->GF):ES:=(ae (am 3 (U (ab (ab (ab bM cI) dh) gp)))
  (ae (am 4 (U (ab (ab (ab bM cI) dh) nH)))
  (cj (bH gq (U (aI (v3 cI (bS bO (v1 (bE (fG dF) [] 1 (af 5) fm (ab jB gp)))) (dY (aI (v1 (vi (-1)))) (dP lZ)))))))))
def uR (h:Str->GF):ES:=(ae (am 1 (dB aY))
  (ae (bq (fG (cy (h "families_of") (v1 bM))) (af 2) (kU h))
  (aL (U (aI (v2 (bS bO (v1 cP)) (dY (aI (v1 (aI aY))) (dP (U (cy (h "pairs_of") (v1 bM)))))))))))
theorem Dx:EQ "begin" 1 5 uR:=λ_=>by kernel_rfl
def ga(h:Str->GF):ES:=(cQ (aS (U (i5 gX (cV bX) cY)) (U (aI (v2 cP dh)))) (aL oO) dA)
def kQ (h:Str->GF):ES:=(ae (bq (iD (cy (h "_law_pairs") (v1 bM))) (aP [af 3,af 4]) (ga h))
  (aL (U (vC (.non)))))
theorem wG:EQ "_law_road" 3 5 kQ:=λ_=>by kernel_rfl
def gc (h:Str->GF):ES:=(ae (am 10 (U (eC Dp (U (oQ iC jf)) DL)))
  (ae (cQ (aS (U (ab (ab (ab (cy (h "_law_pairs") (v1 bM)) ig) cI) eW)) (U (vt "row"))) (am 10 (U (eC Dp DL (U cI)))) dA)
  (cQ (kc (bT jM) (aS (U (ab jf cI)) (U (ab (ab dF gp) cI)))) (cj (bH lZ (U (aI (v2 jB lc))))) dA)))
def cg (h:Str->GF):ES:=(ae (am 6 (U (cy (h "_law_road") (v3 bM jB dh))))
  (ae (cQ (bV (eC mj lY (U (vC (.non))))) P6 dA)
  (ae (am 7 (U (ab (ab cP bX) ig)))
  (bq (iD iC) (aP [af 8,af 9]) (gc h)))))
def iP (h:Str->GF):ES:=(ae (cQ (bV (eC mj (U (ab dF gp)) (U (vC (.non))))) (aL (U (bf (v1 (vC (.non)))))) dA)
  (ae (am 4 (dB aY))
  (ae (bq (fG (cy (h "_law_crew") (v2 bM (ab (ab dF gp) bX)))) (af 5) (cg h))
  (aL lZ))))
theorem k6:EQ "_law_letters" 4 11 iP:=λ_=>by kernel_rfl
def eU(h:Str->GF):ES:=(cQ (cU (a_ 5) gq) (am 4 (U (ak gX (bE (fG dF) [] 1 (af 6) fm (ak (aI (v1 jB)) ig))))) dA)
def gP (h:Str->GF):ES:=(ae (cQ (aS i4 (U (bf aY))) (aL (U (bf (v1 (aI aY))))) dA)
  (ae (am 3 (U (cy (h "_law_chosen") (v3 bM cP (i5 dh (cV bX) cY)))))
  (ae (cQ (cU (U (ab (ab dh cI) eW)) (U (vt "any"))) (aL oO) dA)
  (ae (am 4 (U (bf aY)))
  (ae (bq (fG (cy (h "_law_crew") (v2 bM (ab (ab dh cI) gp)))) (af 5) (eU h))
  (aL lZ))))))
theorem lD:EQ "_law_chosen" 3 6 gP:=λ_=>by kernel_rfl
def gM(h:Str->GF):ES:=(fF i4 (ab dF cI) gX)
def lG (h:Str->GF):ES:=(ae (am 2 mB)
  (ae (bq (O0 (ab bM gp) (ab cP bX)) (aP [af 3,af 4]) (gM h))
  (aL i4)))
theorem sV:EQ "_law_values" 2 5 lG:=λ_=>by kernel_rfl
def df (h:Str->GF):ES:=(ae (cQ (aS (U (ab bM cI)) (U (vt "number"))) (aL (U (ab bM bX))) dA)
  (ae (cQ (aS (U (ab bM cI)) (U (vt "name"))) (aL (i_ gq (ab bM bX))) dA)
  (ae (am 2 (U (cz (h "_law_value") (rY (U (ab bM bX)) gq))))
  (ae (am 3 (U (cz (h "_law_value") (rY (U (ab bM eW)) gq))))
  (ae (cQ (aS (U (ab bM cI)) (U (vt "plus"))) (aL (U (ak dh dF))) dA)
  (ae (cQ (aS (U (ab bM cI)) (U (vt "minus"))) (aL (U (lq dh dF))) dA)
  (aL (U (dY dh dF)))))))))
theorem jQ:EQ "_law_value" 2 4 df:=λ_=>by kernel_rfl
def bU (h:Str->GF):ES:=(ae (am 8 (U (cy (h "_law_road") (v3 bM cP iC))))
  (ae (am 9 (U (cz (h "_law_value") (rY lY oO))))
  (ae (cQ (uS (bV (eC mj DL (U (vC (.non))))) (uS (bV (mq jf (vi 999))) (bV (lr jf (K2 x4 (vi 999)))))) (aL (U (vC (.non)))) dA)
  (ae (am 10 (U (ab (ab (cy (h "_law_pairs") (v1 bM)) lc) cI)))
  (ae (am 11 (U (ak (bS gb (v1 (ab gX lc))) (bf (v1 (aI (v2 jB jf)))))))
  (ae (cQ (bV (mq (dP (a_ 11)) (ab ku gp))) (aL (U (vC (.non)))) dA)
  (ae (cQ (aS (U (ab ku eW)) (U (vt "heap"))) (am 11 (U (ug (a_ 11)))) dA)
  (am 4 (U (ak (ak (i5 gX cY (cV lc)) (aI (v1 (bS bO (v1 gm))))) (i5 gX (cV (ak lc bX)) cY)))))))))))
def lI (h:Str->GF):ES:=(ae (bq (fG dh) (aP [af 5,af 6,af 7]) (bU h))
  (aL lZ))
theorem sW:EQ "_law_mailed" 5 12 lI:=λ_=>by kernel_rfl
def fB (h:Str->GF):ES:=(ae (am 12 (U (bE (fG (cy (h "_law_crew") (v2 bM gm))) [] 1 (af 13) (cU (a_ 13) gq) kt)))
  (ae (cQ (aS jM (U (vt "who"))) (am 12 (U (bf (v1 (ab dF (oQ (ab jB nH) gm)))))) dA)
  (ae (cQ (aS jM (U (vt "any"))) (ae (am 12 (U (bf (v1 (ab iC cI)))))
  (am 7 (U (i5 iC (cV bX) cY)))) dA)
  (am 6 (U (ak ig (bE (fG mi) [] 1 (af 13) fm (aI (v3 lc jf kt)))))))))
def mK (h:Str->GF):ES:=(ae (am 5 (U (ab (cy (h "_law_families") (v1 bM)) cP)))
  (ae (am 6 (U (bf aY)))
  (ae (am 7 (U (bS gb (v1 gX))))
  (ae (bq (fG (ab dh qX)) (aP [af 8,af 9,af 10,af 11]) (fB h))
  (aL lY)))))
theorem tZ:EQ "_law_goals" 5 13 mK:=λ_=>by kernel_rfl
def pi (h:Str->GF):ES:=(ae (cQ (aS fE (U (vt "="))) (aL (U (eC Dp gq i4))) dA)
  (ae (cQ (aS fE (U (vt "!="))) (aL (U (eC Kk gq i4))) dA)
  (ae (cQ (aS fE (U (vt "<"))) (aL (U (lr cP dh))) dA)
  (ae (cQ (aS fE (U (vt "<="))) (aL (U (JU cP dh))) dA)
  (ae (cQ (aS fE (U (vt ">"))) (aL (U (mq cP dh))) dA)
  (aL (U (Bs cP dh))))))))
theorem o9:EQ "_law_relation" 3 3 pi:=λ_=>by kernel_rfl
def gN (h:Str->GF):ES:=(ae (cQ (aS (U (ab bM cI)) (U (vt "true"))) (aL (U (vC (.bl true)))) dA)
  (ae (cQ (aS (U (ab bM cI)) (U (vt "not"))) (aL (U (vB (pZ (bV (cz (h "_law_true") (rY (U (ab bM bX)) gq))))))) dA)
  (ae (cQ (aS (U (ab bM cI)) (U (vt "is"))) (aL (U (cy (h "_law_relation") (v3 (ab bM bX) (cz (h "_law_value") (rY (U (ab bM eW)) gq)) (cz (h "_law_value") (rY (U (ab bM gp)) gq)))))) dA)
  (ae (am 2 (U (cz (h "_law_true") (rY (U (ab bM bX)) gq))))
  (ae (am 3 (U (cz (h "_law_true") (rY (U (ab bM eW)) gq))))
  (ae (cQ (aS (U (ab bM cI)) (U (vt "and"))) (aL (U (vB (kc (bV dh) (bV dF))))) dA)
  (aL (U (vB (uS (bV dh) (bV dF)))))))))))
theorem i9:EQ "_law_true" 2 4 gN:=λ_=>by kernel_rfl
def c_ (h:Str->GF):ES:=(cQ (bV (eC cD lZ (U (vC (.non))))) (ae (am 15 (U (cy (h "_law_road") (v3 bM (ab gX cI) dh))))
  (ae (fF jM (vt "it") (ab (ab (ab gm (vv 15)) (ab gX bX)) bX))
  (ae (cQ (cU (U (ab (ab dF gp) eW)) (U (vt ""))) (fF (a_ 13) (oQ mi (ab (ab dF gp) eW)) (vE (i_ jM (vt "it")))) dA)
  (ae (cQ (cU (U (ab (ab dF gp) gp)) (U (vt ""))) (fF (a_ 14) (oQ (ab ig nH) (ab (ab dF gp) gp)) (ab gX cI)) dA)
  (ae (am 16 (U (ak (i5 (ab gm (vv 15)) cY (cV (ab gX bX))) (i5 (ab gm (vv 15)) (cV (ak (ab gX bX) bX)) cY))))
  (am 11 (U (ak (ak (i5 gm cY (cV (vv 15))) (aI (v1 (vv 16)))) (i5 gm (cV (ak (vv 15) bX)) cY))))))))) dA)
def iU(h:Str->GF):ES:=(fF (a_ 13) (oQ mi (vv 17)) (cz (h "_law_value") (rY (a_ 18) jM)))
def g9 (h:Str->GF):ES:=(ae (am 6 (U (ab (cy (h "_law_families") (v1 bM)) dh)))
  (ae (xm (aP [af 7,af 8,af 9]) (ab (ab cP cI) dh))
  (ae (am 10 (iI (h "_law_values") (rY lY (U (ab (ab cP cI) dh)))))
  (ae (cQ (uS (cU (U (ab (ab ig eW) iC)) (U (ab dF bX))) (pZ (bT (U (cz (h "_law_true") (rY (U (ab dF eW)) jM)))))) (aL (U (vC (.non)))) dA)
  (ae (am 11 (U (ab cP bX)))
  (ae (am 12 (U (bE (fG (ab ig gp)) [] 1 (af 20) fm (ab (vv 20) cI))))
  (ae (am 13 (Cr lc))
  (ae (am 14 (Cr jf))
  (ae (c_ h)
  (ae (bq (fG (ab dF nH)) (aP [af 17,af 18]) (iU h))
  (ae (cQ (cU (U (bE (O0 (ab ig gp) kt) [] 2 (aP [af 20,af 21]) (uS (bV (lr (vv 21) (ab (vv 20) bX))) (bV (mq (vv 21) (ab (vv 20) eW)))) (vv 20))) (U (bf aY))) (aL (U (vC (.non)))) dA)
  (ae (am 11 (U (cy (h "_law_mailed") (v5 bM dh (cy (h "_law_goals") (v5 bM dh dF (vv 14) jB)) ku gm))))
  (ae (cQ (bV (eC mj (a_ 11) (U (vC (.non))))) (aL (U (vC (.non)))) dA)
  (ae (am 19 (U (aI (v3 (oQ (ab ig eW) (ab dF (vi 6))) (bS bO (v1 kt)) (bS bO (v1 (vv 14)))))))
  (aL (U (aI (v2 (ak (ak (i5 (ab cP cI) cY (cV dh)) (aI (v1 (vv 19)))) (i5 (ab cP cI) (cV (ak dh bX)) cY)) gm))))))))))))))))))
theorem o7:EQ "_law_step_end" 6 20 g9:=λ_=>by kernel_rfl
def g8 (h:Str->GF):ES:=(ae (am 8 (U (cy (h "_law_step_end") (v6 bM cP dF jB ig iC))))
  (cQ (bV (eC cD DL (U (vC (.non))))) (cj (bH i4 (U (aI (v2 (aI (v5 (vt "step") dF (ab jB cI) ig iC)) lc))))) dA))
def ee(h:Str->GF):ES:=(bq (fG (cy (h "_law_chosen") (v3 bM dF (ab jB qX)))) (af 7) (g8 h))
def fx(h:Str->GF):ES:=(bq (fG (cy (h "_law_letters") (v4 bM cP dF jB))) (af 6) (ee h))
def d_(h:Str->GF):ES:=(bq (fG (ab gX qX)) (af 5) (fx h))
def mG (h:Str->GF):ES:=(ae (am 2 (dB aY))
  (ae (bq (iD (cy (h "_law_families") (v1 bM))) (aP [af 3,af 4]) (d_ h))
  (aL i4)))
theorem tU:EQ "_law_steps" 2 9 mG:=λ_=>by kernel_rfl
def kT (h:Str->GF):ES:=(ae (cQ (aS gq (U (vt "lose"))) (aL (U (ab bM nH))) dA)
  (aL (U (vB (kc (bV (ab bM qX)) (bV (lr (dP i4) (ab bM gp))))))))
theorem og:EQ "has_flaw" 3 3 kT:=λ_=>by kernel_rfl
def g7 (h:Str->GF):ES:=(ae (am 2 (U (N0 (dP gq))))
  (ae (cQ (aS fE (U (vt "row"))) (aL i4) dA)
  (aL (U (bE (fG dh) [] 1 (af 3) (aS (U (oQ cP (ab cP dF))) oO) dF)))))
theorem jY:EQ "unlike_spots" 2 3 g7:=λ_=>by kernel_rfl
def oy(h:Str->GF):ES:=(aL (U (ak (ak (i5 bM cY (cV cP)) (aI (v1 dh))) (i5 bM (cV (ak cP bX)) cY))))
theorem wD:EQ "replaced" 3 3 oy:=λ_=>by kernel_rfl
def pO(h:Str->GF):ES:=(aL (U (ak (i5 bM cY (cV cP)) (i5 bM (cV (ak cP bX)) cY))))
theorem xY:EQ "without" 2 2 pO:=λ_=>by kernel_rfl
def m_ (h:Str->GF):ES:=(ae (cQ (aS fE (U (vt "lose"))) (aL (U (cy (h "without") (v2 cP dh)))) dA)
  (aL (U (ak (i5 cP cY (cV (ak dh bX))) (i5 cP (cV dh) cY)))))
theorem sY:EQ "flawed" 3 3 m_:=λ_=>by kernel_rfl
def hU (h:Str->GF):ES:=(ae (am 11 (U (cy (h "replaced") (v3 (ab cP bX) gX (cy (h "flawed") (v3 dh jf ku))))))
  (cj (bH oO (U (aI (v2 (aI (v4 dh iC lc ku)) (aI (v2 (ab cP cI) gm))))))))
def fD (h:Str->GF):ES:=(ae (xm (aP [af 6,af 7,af 8]) jB)
  (ae (am 9 (U (ab (ab cP bX) gX)))
  (cQ (bT (U (cy (h "has_flaw") (v3 ig dh jf)))) (bq (fG (cy (h "unlike_spots") (v2 (ab ig eW) jf))) (af 10) (hU h)) dA)))
def io (h:Str->GF):ES:=(ae (am 3 (dB aY))
  (ae (bq (iD (vE (fh (aT Att) fE "pairs"))) (aP [af 4,af 5]) (fD h))
  (aL oO)))
theorem t8:Ph 13 "flaw_ends"=jS 3 12 (io (Ph 12)):=by kernel_rfl
def ml(h:Str->GF):ES:=(aL (i_ (fh (aT Att) fE "families") (vE (i_ (fh (aT Att) fE "homes") cP))))
theorem iT:EQ "Board.family_of" 2 2 ml:=λ_=>by kernel_rfl
def mF(h:Str->GF):ES:=(aL (zi (bE (fG (ab bM gp)) [] 1 (af 2) fm (ab dh cI)) cP))
theorem tT:EQ "values_of" 2 2 mF:=λ_=>by kernel_rfl
def dI (h:Str->GF):ES:=(ae (cQ (aS fE (U (vt "="))) (aL (U (eC Dp gq i4))) dA)
  (ae (cQ (aS fE (U (vt "!="))) (aL (U (eC Kk gq i4))) dA)
  (ae (cQ (aS fE (U (vt "<"))) (aL (U (lr cP dh))) dA)
  (ae (cQ (aS fE (U (vt "<="))) (aL (U (JU cP dh))) dA)
  (ae (cQ (aS fE (U (vt ">"))) (aL (U (mq cP dh))) dA)
  (aL (U (Bs cP dh))))))))
theorem wK:EQ "compared" 3 3 dI:=λ_=>by kernel_rfl
def fw (h:Str->GF):ES:=(ae (am 2 (U (ab bM cI)))
  (ae (cQ (aS i4 (U (vt "number"))) (aL (U (ab bM bX))) dA)
  (ae (cQ (aS i4 (U (vt "name"))) (aL (U (ab cP (ab bM bX)))) dA)
  (ae (am 3 (U (cy (h "value_of") (v2 (ab bM bX) cP))))
  (ae (am 4 (U (cy (h "value_of") (v2 (ab bM eW) cP))))
  (ae (cQ (aS i4 (U (vt "plus"))) (aL (U (ak dF gX))) dA)
  (ae (cQ (aS i4 (U (vt "minus"))) (aL (U (lq dF gX))) dA)
  (aL (U (dY dF gX))))))))))
theorem kJ:EQ "value_of" 2 5 fw:=λ_=>by kernel_rfl
def jd (h:Str->GF):ES:=(ae (am 2 (U (ab bM cI)))
  (ae (cQ (aS i4 (U (vt "true"))) (aL (U (vC (.bl true)))) dA)
  (ae (cQ (aS i4 (U (vt "not"))) (aL (U (vB (pZ (bV (cy (h "holds") (v2 (ab bM bX) cP))))))) dA)
  (ae (cQ (aS i4 (U (vt "and"))) (aL (U (vB (kc (bV (cy (h "holds") (v2 (ab bM bX) cP))) (bV (cy (h "holds") (v2 (ab bM eW) cP))))))) dA)
  (ae (cQ (aS i4 (U (vt "or"))) (aL (U (vB (uS (bV (cy (h "holds") (v2 (ab bM bX) cP))) (bV (cy (h "holds") (v2 (ab bM eW) cP))))))) dA)
  (aL (U (cy (h "compared") (v3 (ab bM bX) (cy (h "value_of") (v2 (ab bM eW) cP)) (cy (h "value_of") (v2 (ab bM gp) cP)))))))))))
theorem jZ:EQ "holds" 2 3 jd:=λ_=>by kernel_rfl
def gR(h:Str->GF):ES:=(aL (U (bE (fG (vE (i_ (fh (aT Att) fE "members") dh))) [] 1 (af 3) (cU oO gq) dF)))
theorem kK:EQ "Board.hands_beside" 3 3 gR:=λ_=>by kernel_rfl
def fY (h:Str->GF):ES:=(ae (am 6 (x2 (fh (aT Att) fE "places") (v2 jB dh)))
  (ae (am 7 (i_ (i_ (i_ (fh (aT Att) fE "pairs") ig) cI) eW))
  (ae (am 8 (U (ab cP ig)))
  (ae (am 9 (U (N1 (aS yF (U (vt "row"))) (i5 (N0 (dP DL)) cY (cV bX)) (cy (h "unlike_spots") (v2 iC lc)))))
  (cj (gK lZ (bE (fG jf) [] 1 (af 10) (aS (U (ab (ab lc ku) cI)) (U (ab dF cI))) (aI (v2 jB ku)))))))))
def kP (h:Str->GF):ES:=(ae (cQ (bV (eC mj oO (U (vC (.non))))) (aL (U (bf (v1 (vC (.non)))))) dA)
  (ae (am 4 (dB aY))
  (ae (bq (fG (vE (fg (mT Tb h) fE "hands_beside" (rY i4 (U (ab dF bX)))))) (af 5) (fY h))
  (aL lZ))))
theorem oe:EQ "takeable" 4 10 kP:=λ_=>by kernel_rfl
def iV(h:Str->GF):ES:=(fF lZ jB (cy (h "value_of") (v2 ig dF)))
def bR (h:Str->GF):ES:=(ae (am 10 (U (Es gX (ab jf cI) (ab cP lc))))
  (ae (cQ (kc (bV (eC xS (U (ab jf cI)) lZ)) (pZ (bV (oR Pr Pr (ab jf bX) ku (ab jf eW))))) (aL (U (vC (.non)))) dA)
  (cj (bH yF jM))))
def hV (h:Str->GF):ES:=(ae (am 4 mB)
  (ae (bq (fG (ab dh nH)) (aP [af 5,af 6]) (iV h))
  (ae (cQ (kc (bV (eC cD (U (ab dh gp)) (U (vC (.non))))) (cU (U (ab (ab dh gp) eW)) (U (vt "")))) (fF lZ (ab (ab dh gp) eW) (ab dF (vt "it"))) dA)
  (ae (am 7 (dB aY))
  (ae (bq (iD (ab bM gp)) (aP [af 8,af 9]) (bR h))
  (aL (U (bS bO (v1 iC)))))))))
theorem pa:EQ "cells_behind" 4 11 hV:=λ_=>by kernel_rfl
def fX (h:Str->GF):ES:=(ae (cQ (uS (bV (eC mj i4 (U (vC (.non))))) (aS (U (ab dh gp)) (U (vt "")))) (aL gq) dA)
  (aL (U (cy (h "replaced") (v3 cP (oQ (ab bM nH) (ab dh gp)) (ab dF cI))))))
theorem iH:EQ "whos_behind" 4 4 fX:=λ_=>by kernel_rfl
def gL (h:Str->GF):ES:=(ae (cQ (aS i4 (U (vt "who"))) (aL (U (bf (v1 (aI (v2 (aI aY) (bf (v1 (ab gX (oQ (ab (vE (fg (mT Tb h) fE "family_of" (HV gq))) nH) dF)))))))))) dA)
  (ae (am 5 (fg (mT Tb h) fE "hands_beside" (rY gq oO)))
  (ae (cQ (aS i4 (U (vt "all"))) (aL (U (bf (v1 (aI (v2 (aI aY) jB)))))) dA)
  (aL (U (bE (fG jB) [] 1 (af 6) fm (aI (v2 (aI (v1 ig)) (bf (v1 ig))))))))))
theorem js:EQ "targets_of" 5 6 gL:=λ_=>by kernel_rfl
def il (h:Str->GF):ES:=(ae (am 6 (uF (fh (aT Att) fE "places") (v2 dh jB)))
  (ae (cQ (uS (bV (eC mj lY (U (vC (.non))))) (bV (mq (bS pN (v1 (ab gX bX))) (vi 999)))) (aL (U (vC (.non)))) dA)
  (ae (am 7 (i_ (i_ (fh (aT Att) fE "pairs") ig) cI))
  (ae (cQ (bV (Bs (dP (U (ab cP ig))) (ab iC gp))) (aL (U (vC (.non)))) dA)
  (ae (am 8 (U (ak (ab cP ig) (aI (v1 gX)))))
  (ae (cQ (aS (U (ab iC eW)) (U (vt "heap"))) (am 8 (U (bS bO (v1 (ug DL))))) dA)
  (am 1 (U (cy (h "replaced") (v3 cP ig lc))))))))))
def tj (h:Str->GF):ES:=(ae (bq (fG dF) (af 5) (il h))
  (aL gq))
theorem zh:EQ "posted" 5 9 tj:=λ_=>by kernel_rfl
def iM (h:Str->GF):ES:=(ae (am 17 (U (cz (h "posted") (KG fE (a_ 14) gq (a_ 16) (a_ 11)))))
  (cQ (bV (eC cD (a_ 17) (U (vC (.non))))) (cj (bH (a_ 12) (U (aI (v2 (ak kt (vv 15)) (vv 17)))))) dA))
def fZ(h:Str->GF):ES:=(bq (fG (cz (h "targets_of") (KG fE gq (a_ 9) jM (a_ 5)))) (aP [af 15,af 16]) (iM h))
def iL (h:Str->GF):ES:=(ae (am 11 (U (aI (v2 iC (cy (h "value_of") (v2 lc dF))))))
  (ae (am 12 (dB aY))
  (ae (bq (fG ig) (aP [af 13,af 14]) (fZ h))
  (am 6 (a_ 12)))))
def ou (h:Str->GF):ES:=(ae (am 6 (U (bf (v1 (aI (v2 (aI aY) gX))))))
  (ae (bq (fG dh) (aP [af 7,af 8,af 9,af 10]) (iL h))
  (aL lY)))
theorem wC:EQ "sendings" 6 18 ou:=λ_=>by kernel_rfl
def j8(h:Str->GF):ES:=(cj (bH (a_ 13) (U (aI (v2 (aI (v5 (vt "step") dh (ab dF cI) gX (vv 14))) (aI (v2 mi (vv 15))))))))
def fM (h:Str->GF):ES:=(ae (am 5 (fg (mT Tb h) fE "family_of" (HV i4)))
  (ae (xm (aP [af 6,af 7,af 8]) (ab (ab cP cI) dh))
  (ae (am 9 (U (ab cP bX)))
  (ae (am 10 (iI (h "values_of") (rY (a_ 5) yF)))
  (ae (cQ (bV (eC cD lZ (U (vC (.non))))) (ae (am 11 (x2 (fh (aT Att) fE "places") (v2 (ab gX cI) dh)))
  (ae (fF jM (vt "it") (ab (ab (ab jf gm) (ab gX bX)) bX))
  (am 9 (U (cy (h "replaced") (v3 jf gm (cy (h "without") (v2 (ab jf gm) (ab gX bX))))))))) dA)
  (ae (am 7 (U (cy (h "cells_behind") (v4 jB iC dF ku))))
  (ae (cQ (bV (eC mj yF (U (vC (.non))))) (aL (U (bf aY))) dA)
  (ae (am 8 (U (cy (h "whos_behind") (v4 jB lc (ab dF gp) gX))))
  (ae (am 12 (U (cy (h "replaced") (v3 (ab cP cI) dh (aI (v3 (oQ (ab jB eW) (ab dF (vi 6))) iC lc))))))
  (ae (am 13 (dB aY))
  (ae (bq (fG (cz (h "sendings") (Sh fE i4 (U (ab dF qX)) jM (a_ 9) DL))) (aP [af 14,af 15]) (j8 h))
  (aL (a_ 13)))))))))))))
theorem my:EQ "step_ends" 5 16 fM:=λ_=>by kernel_rfl
def ka(h:Str->GF):ES:=(cj (gK DL (cz (h "step_ends") (KG fE gq i4 (a_ 9) jM))))
def fC(h:Str->GF):ES:=(cQ (kc (aS (U (ab jf bX)) (U (ab (ab dF eW) gX))) (bT (U (cy (h "holds") (v2 (ab jf eW) iC))))) (bq (fG (cz (h "takeable") (Si fE (U (ab cP bX)) i4 (U (ab jf gp))))) (af 10) (ka h)) dA)
def im (h:Str->GF):ES:=(ae (am 3 (fg (mT Tb h) fE "family_of" (HV i4)))
  (ae (xm (aP [af 4,af 5,af 6]) (ab (ab cP cI) dh))
  (ae (am 7 (U (cy (h "values_of") (v2 dF jB))))
  (ae (am 8 (dB aY))
  (ae (bq (fG (ab dF qX)) (af 9) (fC h))
  (aL DL))))))
theorem t6:Ph 13 "hand_ends"=jS 3 11 (im (Ph 12)):=by kernel_rfl
def lK(h:Str->GF):ES:=(cj (gK i4 (cz (h "hand_ends") (KH fE gq oO))))
def lL (h:Str->GF):ES:=(ae (am 2 (dB aY))
  (ae (bq (jw (dP (fh (aT Att) fE "homes"))) (af 3) (lK h))
  (ae (cj (gK i4 (cz (h "flaw_ends") (KH fE gq (U (vt "lose"))))))
  (ae (cj (gK i4 (cz (h "flaw_ends") (KH fE gq (U (vt "double"))))))
  (aL i4)))))
theorem xZ:Ph 14 "ends_on"=jS 2 4 (lL (Ph 13)):=by kernel_rfl
def cX(h:Str->GF):ES:=(cj (bH (oh (fh (aT Att) (a_ 0) "members") (qY tG (vE (fg (mT Tb h) (a_ 0) "family_of" (cN (a_ 4) j3))) (vi 0)) (dB aY)) (a_ 4)))
def gQ(h:Str->GF):ES:=(E3 (fh (aT Att) fE "places") (v2 (ab dF bX) (ab dF eW)) dh)
def jv (h:Str->GF):ES:=(ae (pu (aT Att) fE "families" (U (ab cP cI)))
  (ae (pu (aT Att) fE "homes" (iI (h "families_of") (HV gq)))
  (ae (pu (aT Att) fE "pairs" (iI (h "pairs_of") (HV gq)))
  (ae (pu (aT Att) fE "places" zj)
  (ae (bq (iD (vE (fh (aT Att) fE "pairs"))) (aP [af 2,af 3]) (gQ h))
  (ae (pu (aT Att) fE "members" mB)
  (bq (jw (dP (fh (aT Att) fE "homes"))) (af 4) (cX h))))))))
theorem sZ:EQ "Board.__init__" 2 5 jv:=λ_=>by kernel_rfl
def mM(x h:Str->GF):ES:=(aL (iI (x "ends_on") (rY (uE (h "Board.__init__") "Board" (HV fE)) gq)))
theorem t_(n:Nat):Ph (n+2) "ends_from"=jS 2 2 (mM (Ph (n+1)) (Ph n)):=by kernel_rfl
def uQ(h:Str->GF):ES:=(aL (Cs (bE (fG (cy (h "ends_from") (v2 bM cP))) [] 1 (af 2) fm (ab dh cI))))
theorem Dw:EQ "deeds" 2 2 uQ:=λ_=>by kernel_rfl
def ja(h:Str->GF):ES:=(cQ (aS oO i4) (aL lZ) dA)
def pj (h:Str->GF):ES:=(ae (bq (fG (cz (h "ends_on") (rY fE gq))) (aP [af 3,af 4]) (ja h))
  v_)
theorem Dv:EQ "do_on" 3 5 pj:=λ_=>by kernel_rfl
def GX(x h:Str->GF):ES:=(aL (U (cz (x "do_on") (KH (uE (h "Board.__init__") "Board" (HV fE)) gq i4))))
theorem MJ(n:Nat):Ph (n+2) "do"=jS 3 3 (GX (Ph (n+1)) (Ph n)):=by kernel_rfl
def m9(h:Str->GF):ES:=(cQ (cU (U (cy (h "do") (v3 dh dF iC))) DL) (aL (U (vC (.bl false)))) dA)
def kS (h:Str->GF):ES:=(ae (am 6 (Cq (rY (iI (h "ends_from") (rY i4 oO)) (iI (h "deeds") (rY i4 oO)))))
  (ae (cQ (uS (pZ (bT (U (k4 "list" (i_ lY cI))))) (pZ (bT (U (k4 "list" (i_ lY bX)))))) (aL (U (vC (.bl false)))) dA)
  (ae (cQ (uS (cU (U (pQ (i_ lY cI) cY (cV (dP lZ)))) lZ) (cU (U (mR (i_ lY cI) [7,8] 0 (aP [af 7,af 8]) fm iC)) (i_ lY bX))) (aL (U (vC (.bl false)))) dA)
  (ae (cQ (cU (U (bE (fG (pQ (i_ lY bX) (cV (dP lZ)) cY)) [7] 0 (af 7) (aS (U (ab iC cI)) (U (vt "step"))) iC)) (U (bf aY))) (aL (U (vC (.bl false)))) dA)
  (ae (cj (wL (i_ lY cI)))
  (cj (bH (i_ lY bX) (U (aI (v4 (vt "lose") cI bX cI))))))))))
def m7 (h:Str->GF):ES:=(ae (am 4 (U (cy (h "_law_steps") (v2 cP dF))))
  (ae (bq (jw eW) (af 5) (kS h))
  (bq (fG (i5 gX cY (cV (vi 12)))) (aP [af 7,af 8]) (m9 h))))
def wX (h:Str->GF):ES:=(ae (am 1 (U (cy (h "_law_plan") (v2 bM gp))))
  (ae (am 2 (U (aI (v3 (bS gb (v1 (ab cP cI))) (bS gb (v1 (ab cP bX))) (bS gb (v1 (ab cP eW)))))))
  (ae (bq (fG (bf (v2 (cy (h "_law_standing") (v2 bM cP)) (cy (h "begin") (v1 cP))))) (af 3) (m7 h))
  (aL (U (eC Dp i4 gq))))))
theorem Jx:EQ "law" 1 9 wX:=λ_=>by kernel_rfl
variable{a:Type}{m:List a}{n:Nat}
theorem RE(h:m.length=n+1):∃a r,m=a::r/\r.length=n:=by
 cases m with
 |nil=>cases h
 |cons a r=>exact⟨a,r,rfl,Nat.succ.inj h⟩
theorem Ts(h:m.length=1):∃a,m=[a]:=by obtain⟨a,r,rfl,x⟩:=RE h;exact⟨a,by rw[iX x]⟩
theorem RF(h:m.length=2):∃a b,m=[a,b]:=by obtain⟨a,r,rfl,x⟩:=RE h;obtain⟨b,rfl⟩:=Ts x;exact⟨a,b,rfl⟩
theorem Tq(h:m.length=3):∃a b c,m=[a,b,c]:=by obtain⟨a,r,rfl,x⟩:=RE h;obtain⟨b,c,rfl⟩:=RF x;exact⟨a,b,c,rfl⟩
theorem w5:∀{s:LS}{m:LV},s.Nodup->m.length=s.length->(s.filterMap λn=>((s.zip m).lookup n).map (n,·))=s.zip m/\∀n ∈ s,((s.zip m).lookup n).isNone=false
 | [],m,_,l=>by cases iX l;simp
 |p::s,[],_,l=>by cases l
 |p::s,u::m,x,l=>by
  obtain⟨k,f⟩:=b_.mp x;obtain⟨i,t⟩:=w5 f (Nat.succ.inj l);have a:∀n ∈ s,(n == p)=false:=λn h=>yE λz=>k (z ▸ h);refine⟨?_,λn r=>?_⟩
  .have c:∀{qs:LS},(∀n ∈ qs,(n == p)=false)->(qs.filterMap λn=>(((p,u)::s.zip m).lookup n).map (n,·))=qs.filterMap λn=>((s.zip m).lookup n).map (n,·):=λ{qs} h=>by
    induction qs with
    |nil=>rfl
    |cons q qs v=>rw[lU,lU,v λn x=>h n (ao _ x)];simp[gB,h q ar]
   rw[AU,List.filterMap_cons_some (b:=(p,u)) (by simp[List.lookup_cons_self]),c a,i]
  .rw [AU];by_cases e:n=p
   .subst e;simp[gB]
   .simp only[gB,yE e];exact t n ((aW.mp r).resolve_left e)
noncomputable def yX(a:Arguments)(p:LS):Bool:=a.posonlyargs.isEmpty && a.kwonlyargs.isEmpty && a.vararg.isNone && a.kwarg.isNone && decide (a.args.map (·.arg)=p) && decide p.Nodup
theorem GU{f:FuncData}{p:LS}(h:yX f.params p=true)(hd:f.defaults=.none){m:LV}(l:m.length=p.length):bindArgs f ⟨m,[]⟩=pure (p.zip m):=by
 simp only[yX,aD,decide_eq_true_eq,nz,Option.isNone_iff_eq_none]at h;obtain⟨⟨⟨⟨⟨x,a⟩,e⟩,s⟩,k⟩,b⟩:=h;obtain⟨t,q⟩:=w5 b l;have c:(p.filter λn=>((p.zip m).lookup n).isNone)=[]:=vp.mpr λn r=>by simp[q n r]
 have v:p.take p.length=p:=nA;have z:p.drop p.length=[]:=qE;unfold bindArgs;simp only[x,a,e,s,k,hd,eE,cH,eQ,l];simp[seqItems?,c,t,z];rfl
theorem sc:Tb.all P4=true:=by decide +kernel
theorem un:(Tb.map (·.name)).Nodup:=by decide +kernel
inductive Fn(K:FG)(x:Str)(st:Stmt):Prop
 |mk (f:Addr) (oc:Value) (od:Option Addr) (kV dc pm:Value) (an:Option Addr) (cd ct:Value) (sl:Array (OV)):nG K mainGlobals x=some (some (.ref f))->K.lookup f=some ⟨oc,od,.func (jL x x (i' st) (fW st) (bw st) .none kV dc pm an cd ct),sl⟩->rF K cd x=true->iA K (.ref f)=true->Fn K x st
def L6(d:Df):Bool:=d.cls.cps.isEmpty && decide (d.short=d.name) && !Ha.contains d.cls && yX (i' d.st) d.ps
theorem Rx:Nw.all L6=true:=by decide +kernel
structure Ck(K:FG)(x:Str)(C:Addr):Prop where
 ns:nG K mainGlobals x=some (some (.ref C))
 get:rG K C Str.empty=true
 dct:uV K C=true
 ovr:vJ K C=true
 set:eO K (.ref C) "__setattr__"=some (some (.builtin "object.__setattr__"))
 mak:vG K C=true
 kp:iA K (.ref C)=true
inductive Mt(K:FG)(C:Addr)(st:Stmt)(m q:Str)(dV:Value):Prop
 |mk (f:Addr) (oc:Value) (od:Option Addr) (kV dc pm:Value) (an:Option Addr) (cd ct:Value) (sl:Array (OV)):eO K (.ref C) m=some (some (.ref f))->qV K (.ref f)=true->K.lookup f=some ⟨oc,od,.func (jL m q (i' st) (fW st) (bw st) dV kV dc pm an cd ct),sl⟩->rF K cd q=true->iA K (.ref f)=true->Mt K C st m q dV
section
variable{K:FG}{h:Heap}{b:SV}(X:K.In h)(G:h.Ns mainGlobals b)
include X G
theorem dk{d:Df}(H:Fn K d.name d.st)(hp:L6 d=true):∃f s,DOk K b d f s:=by obtain⟨x,F,e,st,N,z,j,g,S⟩:=d;simp only[L6,aD,vc,decide_eq_true_eq]at hp;obtain⟨⟨⟨n,rfl⟩,r⟩,t⟩:=hp;obtain⟨f,o,i,kV,u,y,q,v,w,P,a,l,c,k⟩:=H;exact⟨_,_,⟨Gj l c k,.all λm p=>GU t rfl p,λ_=>⟨_,_,_,_,_,_,rfl⟩,λ_ (h:Ha.contains e=true)=>absurd h (by rw[r];decide),λ_=>vF X G a,λ(h:e.cps.isEmpty=false)=>absurd h (by rw[n];decide)⟩⟩
theorem dm(c:Ck K x C)(M:Mt K C st e q r)(j:x.cps.isEmpty=false)
  (m:∀(kV o p:Value)(n:Option Addr)(d t:Value),Binds K (jL e q (i' st) (fW st) (bw st) r kV o p n d t) u []/\(e=("__init__":Str)->Ha.contains x=true->Binds K (jL e q (i' st) (fW st) (bw st) r kV o p n d t) u [.none])):∃f i,DOk K b ⟨q,e,x,st,N,u,A,y,B⟩ f i:=by
 obtain⟨f,H,S,kV,s,p,n,h,t,F,a,w,l,g,k⟩:=M;have v:x.cps.isEmpty=true->False:=λz=>by rw[j]at z;cases z
 exact⟨_,_,⟨Gj l g k,(m kV s p n h t).1,λz=>(v z).elim,(m kV s p n h t).2,λz=>(v z).elim,λ_=>⟨C,c.ns,vF X G c.ns,⟨c.get,c.dct,c.ovr,c.set⟩,λz=>⟨c.mak,z ▸ a,w,c.kp⟩,λ_=>⟨a,w,k⟩⟩⟩⟩
end
def Gi(K:FG)(x:Str)(i:Int):Prop:=∃t,nG K mainGlobals x=some (some (.int i t))
variable{x:Str}
theorem Kj(X:K.In h)(G:h.Ns mainGlobals b){i:Int}(H:Gi K x i):oH w K b x (.int i):=by obtain⟨t,a⟩:=H;exact .plain ⟨_,.int i,vF X G a,⟨_,rfl⟩,λ_ _=>rfl⟩ rfl
structure BoardOk(K:FG)(C:Addr):Prop where
 ck:Ck K "Board" C
 a_families:eO K (.ref C) "families"=some none
 a_homes:eO K (.ref C) "homes"=some none
 a_members:eO K (.ref C) "members"=some none
 a_pairs:eO K (.ref C) "pairs"=some none
 a_places:eO K (.ref C) "places"=some none
 m_Board_family_of:Mt K C (L2.mf (J0 10) 1) "family_of" "Board.family_of" .none
 m_Board_hands_beside:Mt K C (L2.mf (J0 10) 2) "hands_beside" "Board.hands_beside" .none
 m_Board_init:Mt K C (L2.mf (J0 10) 0) "__init__" "Board.__init__" .none
open PySem.W in
theorem M4{w:World}{K:Frag}{h:Heap}{b:SV}(X:K.In h)(G:h.Ns mainGlobals b){C:Addr}(a:BoardOk K C)
  (u:∀d ∈ Nw,Fn K d.name d.st)
  (g:Gi K "HIGHEST_LETTER" 999) (p:Gi K "NOBODY" (-1)) (z:∀x ∈ JH,nsIn K mainGlobals x=some none):TOk w Gv Att Tb K b:=by
 refine⟨λd hd=>?_,sc,un,λx k=>mg_none_of X G (z x k),λx v s=>?_,λc f q=>?_⟩
 .rcases b9.mp hd with hd|hd
  .exact dk X G (u d hd) (bK.mp Rx d hd)
  simp only[SK,aW,de,gy]at hd;rcases hd with rfl|rfl|rfl;all_goals first
   |exact dm X G a.ck a.m_Board_family_of (by decide +kernel) λ_ _ _ _ _ _=>⟨.all λm l=>by obtain⟨_,_,rfl⟩:=RF l;rfl,λh n=>by first|exact absurd h (by decide +kernel)|exact absurd n (by decide +kernel)⟩
   |exact dm X G a.ck a.m_Board_hands_beside (by decide +kernel) λ_ _ _ _ _ _=>⟨.all λm l=>by obtain⟨_,_,_,rfl⟩:=Tq l;rfl,λh n=>by first|exact absurd h (by decide +kernel)|exact absurd n (by decide +kernel)⟩
   |exact dm X G a.ck a.m_Board_init (by decide +kernel) λ_ _ _ _ _ _=>⟨.all λm l=>by obtain⟨_,_,rfl⟩:=RF l;rfl,λh n=>by first|exact absurd h (by decide +kernel)|exact absurd n (by decide +kernel)⟩
 .unfold Gv at s;by_cases e:x=("HIGHEST_LETTER":Str)
  .rw [aj e]at s;subst e;cases s;exact Kj X G g
  rw[al e]at s;clear e;by_cases e:x=("NOBODY":Str)
  .rw [aj e]at s;subst e;cases s;exact Kj X G p
  rw[al e]at s;clear e;cases s
 .obtain⟨x,k,e⟩:=qD.mp q;rw[aD]at e;have t:=bC e.1;have r:f ∈ x.2:=by simpa using e.2
  subst t;simp only[Att,aW,de,gy]at k;rcases k with rfl
  .simp only[aW,de,gy]at r;rcases r with rfl|rfl|rfl|rfl|rfl
   .exact⟨_,a.ck.ns,⟨a.ck.get,a.ck.dct,a.ck.ovr,a.ck.set⟩,a.a_families⟩
   .exact⟨_,a.ck.ns,⟨a.ck.get,a.ck.dct,a.ck.ovr,a.ck.set⟩,a.a_homes⟩
   .exact⟨_,a.ck.ns,⟨a.ck.get,a.ck.dct,a.ck.ovr,a.ck.set⟩,a.a_members⟩
   .exact⟨_,a.ck.ns,⟨a.ck.get,a.ck.dct,a.ck.ovr,a.ck.set⟩,a.a_pairs⟩
   .exact⟨_,a.ck.ns,⟨a.ck.get,a.ck.dct,a.ck.ovr,a.ck.set⟩,a.a_places⟩
theorem log2_small{i:Int}(h:i.natAbs < 2 ^ 60):i.natAbs.log2 < 60:=by
 by_cases e:i.natAbs=0
 .rw [e];decide
 .exact (A_ e).mpr h
theorem cL{i j:Int}(h:i.natAbs < 2 ^ 60)(x:j.natAbs < 2 ^ 60):gJ i j=true:=by unfold gJ;have a:=log2_small h;have b:=log2_small x;exact jT (by lia)
theorem L7:∀(n:Nat)(v:P),cK n v=true->cK (n+1) v=true:=by
 intro n;induction n with
 |zero=>intro v h;cases v<;>first|rfl|exact h|cases h
 |succ n i=>
  intro v h;cases v with
  |tup s=>exact bK.mpr λx a=>i x (bK.mp h x a)
  |lst s=>exact bK.mpr λx a=>i x (bK.mp h x a)
  |ro s=>exact bK.mpr λx a=>i x (bK.mp h x a)
  |non=>rfl
  |bl _=>rfl
  |int _=>rfl
  |str _=>exact h
  |dct _ _=>cases h
variable{v:P}
theorem bY(h:cK n v=true)(m:n≤e):cK e v=true:=by
 obtain⟨k,rfl⟩:=Nat.exists_eq_add_of_le m;clear m;induction k with
 |zero=>exact h
 |succ k i=>exact L7 _ _ i
def strOk(x:Str):Prop:=aq x=true
@[simp] theorem BW(n:Nat)(i:Int):cK n (.int i)=true:=by cases n<;>rfl
@[simp] theorem Rw(n:Nat)(i:Bool):cK n (.bl i)=true:=by cases n<;>rfl
@[simp] theorem P_(n:Nat):cK n .non=true:=by cases n<;>rfl
@[simp] theorem wm(n:Nat)(x:Str):cK n (.str x)=aq x:=by cases n<;>rfl
@[simp] theorem P9(n:Nat)(s:List P):cK (n+1) (.tup s)=s.all (cK n):=rfl
@[simp] theorem P'(n:Nat)(s:List P):cK (n+1) (.lst s)=s.all (cK n):=rfl
theorem DO(h:∀x ∈ s,cK n x=true):cK (n+1) (.lst s)=true:=bK.mpr h
@[simp] theorem B5(c:Nat):nl ⟨#[c]⟩=1:=rfl
theorem CW(h:strOk x)(a:strOk y):strOk (x++y):=by show(x.cps++y.cps).all (λc=>decide (c < 0x110000))=true;rw[Aw,aD];exact⟨h,a⟩
theorem CV(e:strOk x)(n:Nat):strOk (eZ x n):=by
 have k:∀(n:Nat)(a:Array Nat),a.all (λc=>decide (c < 0x110000))=true->((List.replicate n x.cps).foldl (·++·) a).all (λc=>decide (c < 0x110000))=true:=by
  intro n;induction n with
  |zero=>intro a h;exact h
  |succ n i=>intro a h;rw[dw,gE];exact i _ (by rw[Aw,aD];exact⟨h,e⟩)
 exact k n #[] (by simp)
variable{k:Int}
theorem GD(f:strOk x)(a:0≤k)(s:k < x.length)(n:x.length≤1000000):∃c,strOk ⟨#[c]⟩/\tG (.str x) (.int k)=some (.str ⟨#[c]⟩):=by
 have l:k.toNat < x.cps.toList.length:=by simp only[np];unfold nl at s;lia
 have h:k.toNat < x.cps.size:=by simpa using l
 refine⟨x.cps.toList[k.toNat],?_,?_⟩
 .have:=Array.all_eq_true.mp f k.toNat h;show(#[x.cps.toList[k.toNat]].all λc=>decide (c < 0x110000))=true;simpa using this
 .have e:L2.atI x.cps.toList k=some (x.cps.toList[k.toNat]):=b6 a (by simp[h]);show(if jt x.length=true then (L2.atI x.cps.toList k).map λc=>P.str ⟨#[c]⟩ else none)=_;rw[aj (by simp only[oo];exact n),e];rfl
theorem DC(h:x.length+y.length≤1000000):wP (.str x) (.str y)=some (.str (x++y)):=by show(if jt (x.length+y.length)=true then some (P.str (x++y)) else none)=_;rw[aj (by rw[oo];exact h)]
variable{s:List a}
theorem iy(h:s≠[])(a:Int):∃x ∈ s,L2.atI s (a % (s.length:Int))=some x:=by
 have l:(0:Int) < (s.length:Int):=by cases s with|nil=>exact absurd rfl h|cons _ _=>simp
 have e:=dr a (Int.ne_of_gt l);have n:=dR a l;have k:(a % (s.length:Int)).toNat < s.length:=by lia
 exact⟨s[(a % (s.length:Int)).toNat],gF _,b6 e (by simp[k])⟩
theorem zy(h:0≤k)(e:k < (s.length:Int)):∃x ∈ s,L2.atI s k=some x:=by
 have a:k.toNat < s.length:=by lia
 exact⟨s[k.toNat],gF _,b6 h (by simp[a])⟩
theorem GY(h:s≠[]):∃x ∈ s,L2.atI s (-1)=some x:=by
 have l:0 < s.length:=AV.mpr h;refine⟨s[s.length-1],gF _,?_⟩;unfold L2.atI L2.B9;rw[al (by lia),aj (by lia)];have e:(-1+(s.length:Int)).toNat=s.length-1:=by lia
 simp[e,l]
theorem cE{g:kY}{b:ES}{Inv:Nat->Lc->az->Prop}:∀{s:List P}{k:Nat}{L:Lc}{S:az},(∀i v L S,s[i]? = some v->Inv (k+i) L S->∃f L2 n,g v L=some f/\b f S=some (.nx,L2,n)/\Inv (k+i+1) L2 n)->Inv k L S ->
  ∃x a,bb g b s L S=some (.nx,x,a)/\Inv (k+s.length) x a
 | [],k,L,S,_,h=>⟨L,S,rfl,h⟩
 |v::r,k,L,S,c,h=>by
  obtain⟨f,L2,n,m,t,d⟩:=c 0 v L S rfl h;obtain⟨x,a,p,u⟩:=cE (g:=g) (b:=b) (Inv:=Inv) (s:=r) (k:=k+1) (L:=L2) (S:=n) (λi w L S e q=>by have:=c (i+1) w L S (by simpa using e) (by rw[show k+(i+1)=k+1+i by lia];exact q);rwa [show k+(i+1)+1=k+1+i+1 by lia]at this) d
  exact⟨x,a,by rw[bo m t];exact p,by rw[aV,show k+(r.length+1)=k+1+r.length by lia];exact u⟩
theorem pe{g:kY}{c:EB}{e:EV}{Inv:Lc->Prop}{Q:P->Prop}{S:az}:∀{s:List P}{L:Lc},(∀v ∈ s,∀L,Inv L->∃x k,g v L=some x/\Inv x/\c x S=some (k,S)/\(k=true->∃y,e x S=some (y,S)/\Q y))->Inv L ->
  ∃a,bN g c e s L S=some (a,S)/\(∀y ∈ a,Q y)/\a.length≤s.length
 | [],L,_,h=>⟨[],rfl,λ_ z=>(by cases z),ah _⟩
 |v::r,L,t,h=>by
  obtain⟨x,k,n,i,f,d⟩:=t v ar L h;obtain⟨a,b,m,j⟩:=pe (s:=r) (L:=x) (λw hw=>t w (ao _ hw)) i;cases k with
  |false=>exact⟨a,by simp[bN,n,f,b],m,by simp;lia⟩
  |true=>obtain⟨y,p,q⟩:=d rfl;exact⟨y::a,by simp[bN,n,f,b,p],λz u=>(aW.mp u).elim (λe=>e ▸ q) (m z),by simp;lia⟩
theorem mY{g:kY}{e:EV}{Inv:Lc->Prop}{Q:P->Prop}{S:az}:∀{s:List P}{L:Lc},(∀v ∈ s,∀L,Inv L->∃x y,g v L=some x/\Inv x/\e x S=some (y,S)/\Q y)->Inv L ->
  ∃a,bN g fm e s L S=some (a,S)/\(∀y ∈ a,Q y)/\a.length=s.length
 | [],L,_,h=>⟨[],rfl,λ_ z=>(by cases z),rfl⟩
 |v::r,L,n,h=>by obtain⟨x,y,k,i,f,q⟩:=n v ar L h;obtain⟨a,b,c,m⟩:=mY (s:=r) (L:=x) (λw hw=>n w (ao _ hw)) i;exact⟨y::a,by simp[bN,k,f,b],λz t=>(aW.mp t).elim (λe=>e ▸ q) (c z),by simp[m]⟩
theorem bW{g:kY}{c:EB}{e:EV}{Inv:Lc->Prop}{S:az}{p:P->Bool}{f:P->P}:∀{s:List P}{L:Lc},(∀v ∈ s,∀L,Inv L->∃x,g v L=some x/\Inv x/\c x S=some (p v,S)/\(p v=true->e x S=some (f v,S)))->Inv L ->
  bN g c e s L S=some ((s.filter p).map f,S)
 | [],L,_,h=>rfl
 |v::r,L,m,h=>by
  obtain⟨x,n,i,a,t⟩:=m v ar L h;have b:=bW (s:=r) (L:=x) (λw hw=>m w (ao _ hw)) i;cases k:p v with
  |false=>rw[k]at a;simp[bN,n,a,b,k]
  |true=>rw[k]at a;simp[bN,n,a,b,k,t k]
theorem ints_get{lo:Int}{n i:Nat}{v:P}(h:(intsFrom lo n)[i]? = some v):v=.int (lo+i)/\i < n:=by
 unfold Ev.intsFrom at h;rw[dW]at h;cases e:(List.range n)[i]? with
 |none=>rw[e]at h;cases h
 |some j=>
  rw[e]at h;cases h;have:=bL.mp e
  obtain⟨x,a⟩:=this;simp at x a;subst a;exact⟨rfl,x⟩
theorem jq{lo:Int}{n:Nat}{v:P}(h:v ∈ intsFrom lo n):∃i:Nat,v=.int (lo+i)/\i < n:=by obtain⟨i,x,e⟩:=h_.mp h;exact⟨i,ints_get (by rw[bj x,e])⟩
theorem dj(lo:Int)(n:Nat):(intsFrom lo n).length=n:=by simp[Ev.intsFrom]
theorem FM(n k:Str->GF)(s:List P):∀(a:Int)(p t q:Option D),∃(r:Int)(e:Option D),bb (af 2) (ju n) s [Y a,p,t,q] []=some (.nx,[Y r,p,e,q],[]):=by
 induction s with
 |nil=>intro a p t q;exact⟨a,t,rfl⟩
 |cons x s i=>intro a p t q;obtain⟨r,e,h⟩:=i (a / 2147483648) p (O x) q;exact⟨r,e,by simpa[bb,ju] using h⟩
theorem wn(a:Int){p:Int}(s:0≤p)(k:p < 1000):∃r:Int,0≤r/\dM (Ph (n+2) "_law_mix") [.int a,.int p]=some (.int r):=by
 by_cases h:(1000000000000:Int)≤a
 .obtain⟨r,g,e⟩:=FM (Ph (n+1)) (Ph n) (intsFrom 0 (p % 61).toNat) (a / 1000000000000-1) (Y p) none none;refine⟨r % 2147483648,dr _ (by decide),?_⟩;have hp:(p % 61).natAbs < 1000000:=by lia
  rw[pG,aJ];simp[lH,h,hp,e]
 .have c:0≤p * p/\p * p≤1000000:=⟨Int.mul_nonneg s s,Int.le_trans (Int.mul_le_mul (zN k) (zN k) s (by decide)) (by decide)⟩;have q:gJ p p=true:=cL (by lia) (by lia);have v:gJ (p * p) 7919=true:=cL (by lia) (by decide);have d:gJ (a % 1000003+p * p * 7919+p) 48271=true:=cL (by lia) (by decide);generalize f:(a % 1000003+p * p * 7919+p) * 48271 % 2147483629=x;have m:0≤x/\x < 2147483629:=by subst f;exact⟨dr _ (by decide),dR _ (by decide)⟩
  have w:gJ x x=true:=cL (by lia) (by lia);generalize b:x * x % 2147483587=y;have t:0≤y/\y < 2147483587:=by subst b;exact⟨dr _ (by decide),dR _ (by decide)⟩
  have u:gJ y (y+2)=true:=cL (by lia) (by lia);refine⟨y * (y+2) % 2147483579 / 7,Int.ediv_nonneg (dr _ (by decide)) (by decide),?_⟩;rw[pG,aJ];simp[lH,h,q,v,d,f,w,b,u]
noncomputable def gn(n:List Int):P:=.ro (n.map .int)
theorem wS(s:List Int)(x:0≤k):∃r:Int,dM (Ph (n+2) "_law_cell_at") [gn s,.int k]=some (.int r):=by
 by_cases h:k < (s.length:Int)
 .have a:k.toNat < s.length:=by lia
  refine⟨s[k.toNat],?_⟩;have e:L2.atI (s.map P.int) k=some (.int s[k.toNat]):=b6 x (by simp[a]);rw[k7,aJ];simp[iQ,gn,dQ,eX,h,e]
 .refine⟨0,?_⟩;rw[k7,aJ];simp[iQ,gn,dQ,eX,h]
inductive Drw(n:Nat)(ns:List Int)(k p:Int):Prop
 |mk (c r:Int):0≤r->dM (Ph (n+2) "_law_cell_at") [gn ns,.int k]=some (.int c)->dM (Ph (n+2) "_law_mix") [.int c,.int p]=some (.int r)->Drw n ns k p
theorem kL{n:Nat}(s:List Int){k p:Int}(x:0≤k)(a:0≤p)(f:p < 1000):Drw n s k p:=by obtain⟨c,e⟩:=wS (n:=n) s x;obtain⟨r,b,h⟩:=wn (n:=n) c a f;exact⟨c,r,b,e,h⟩
theorem L5:strOk "xyz":=by unfold strOk;decide +kernel
theorem B4:("xyz":Str).length=3:=by decide +kernel
theorem PH:∀k:Nat,k < 16->tG (.str "abcdefghijklmnop") (.int (k:Int))=some (.str ⟨#[97+k]⟩):=by
 intro k h;have e:∀k:Nat,k < 16->L2.atI ((("abcdefghijklmnop":Str)).cps.toList) (k:Int)=some (97+k):=by decide +kernel
 show(if jt (("abcdefghijklmnop":Str)).length=true then (L2.atI ((("abcdefghijklmnop":Str)).cps.toList) (k:Int)).map λc=>P.str ⟨#[c]⟩ else none)=_;rw[e k h,aj (by decide +kernel)];rfl
noncomputable def hd(x:Str):Option Nat:=x.cps[0]?
theorem Lq(c n:Nat)(x:Str):hd (eZ ⟨#[c]⟩ (n+1)++x)=some c:=by
 have k:∀(n:Nat)(a:Array Nat),a[0]? = some c->((List.replicate n #[c]).foldl (·++·) a)[0]? = some c:=by
  intro n;induction n with
  |zero=>intro a h;exact h
  |succ n i=>intro a h;rw[dw,gE];refine i _ ?_;have s:0 < a.size:=(AB.mp h).1;rw[AA s];exact h
 have h:=k n (#[]++#[c]) (by simp);have s:0 < ((List.replicate n #[c]).foldl (·++·) (#[]++#[c])).size:=(AB.mp h).1;show(((List.replicate (n+1) #[c]).foldl (·++·) #[])++x.cps)[0]? = some c;rw[dw,gE,AA s];exact h
theorem re{n:Nat}(s:List Int){k:Nat}(r:k < 16):∃x:Str,strOk x/\hd x=some (97+k)/\dM (Ph (n+3) "_law_name") [gn s,.int (k:Int)]=some (.str x):=by
 obtain⟨c,a,q,e,b⟩:=kL (n:=n) s (k:=1) (p:=(k:Int)) (by lia) (by lia) (by lia);have u:=PH k r;obtain⟨d,h,f⟩:=GD (k:=a / 4 % 3) L5 (by lia) (by rw[B4];lia) (by rw[B4];lia);have t:strOk ⟨#[97+k]⟩:=by show(#[97+k].all λc=>decide (c < 0x110000))=true;simp;lia
 have m:wO (.str ⟨#[97+k]⟩) (.int (1+a % 4))=some (.str (eZ ⟨#[97+k]⟩ ((a % 4).toNat+1))):=by show(if (jt ((1+a % 4).toNat * 1) && decide ((1+a % 4).natAbs < 1000000))=true then some (P.str (eZ ⟨#[97+k]⟩ (1+a % 4).toNat)) else none)=_;rw[aj (by rw[aD,oo];exact⟨by lia,jT (by lia)⟩),show(1+a % 4).toNat=(a % 4).toNat+1 by lia]
 have z:=DC (x:=eZ ⟨#[97+k]⟩ ((a % 4).toNat+1)) (y:=⟨#[d]⟩) (by rw[mu,B5,B5];lia);refine⟨eZ ⟨#[97+k]⟩ ((a % 4).toNat+1)++⟨#[d]⟩,CW (CV t _) h,Lq _ _ _,?_⟩;rw[wI,aJ];simp[oC,e,b,u,f,m,z]
theorem ag(h:f L S=some (.nx,e,c)):ae f g L S=g e c:=by rw[ae,h]
theorem o0{c:EB}{x y:ES}{L:Lc}{S:az}(h:c L S=some (true,S)):cQ c x y L S=x L S:=by rw[cQ,h];rfl
theorem nV{c:EB}{x y:ES}{L:Lc}{S:az}(h:c L S=some (false,S)):cQ c x y L S=y L S:=by rw[cQ,h];rfl
theorem xl{A R:ES}{L:Lc}{S:az}{p:Lc->Prop}{G:BB->Prop}(h:∃x,p x/\A L S=some (.nx,x,S))(k:∀x,p x->G (R x S)):G (ae A R L S):=by obtain⟨x,a,e⟩:=h;rw[ag e];exact k x a
theorem RB(a:Int):∃r:Int,-1≤r/\r≤5/\L2.atI [P.int 0,.int 0,.int (-1),.int 5] (a % 4)=some (.int r):=by
 have h:a % 4=0\/a % 4=1\/a % 4=2\/a % 4=3:=by lia
 rcases h with h|h|h|h<;>rw[h]<;>simp
theorem O4(a:Int):∃r:Int,0≤r/\r≤2/\L2.atI [P.int 1,.int 2,.int 0,.int 1] (a % 4)=some (.int r):=by
 have h:a % 4=0\/a % 4=1\/a % 4=2\/a % 4=3:=by lia
 rcases h with h|h|h|h<;>rw[h]<;>simp
inductive isCel(v:P):Prop
 |mk (x:Str) (lo hi at':Int):strOk x->-1≤lo->lo≤at'->at'≤hi->hi≤7->v=.tup [.str x,.int lo,.int hi,.int at']->isCel v
noncomputable def mS:P->List P
 | .tup s=>s
 | .lst s=>s
 |_=>[]
def fV(v:P)(k:Nat):P:=(mS v)[k]?.getD .non
noncomputable def iv:P->Int
 | .int i=>i
 |_=>0
@[simp] theorem S_(s:List P):mS (.tup s)=s:=rfl
@[simp] theorem Ta(s:List P):mS (.lst s)=s:=rfl
@[simp] theorem Sr(s:List P)(k:Nat):fV (.tup s) k=s[k]?.getD .non:=rfl
@[simp] theorem RH(i:Int):iv (.int i)=i:=rfl
noncomputable def aX:P->Str
 | .tup (.str s::_)=>s
 |_=>""
def tz(v:List P):Prop:=(∀c ∈ v,isCel c)/\∀i c,v[i]? = some c->hd (aX c)=some (99+i)
@[simp] theorem EF(v:List P):toP 9 (.ref 0) [.lst (v.map .p)]=some (.lst v,[.fz (.lst v)]):=eS rfl
theorem d9(s:List P)(v:P):s.map D.p++[.p v]=(s++[v]).map .p:=by simp
theorem eM{Q:P->Prop}{s:List P}{v:P}(h:∀x ∈ s,Q x)(e:Q v):∀x ∈ s++[v],Q x:=λx a=>(b9.mp a).elim (h x) λa=>by rw[cS.mp a];exact e
theorem sT{Q:Nat->P->Prop}{s:List P}{v:P}(h:∀i x,s[i]? = some x->Q i x)(n:Q s.length v):∀i x,(s++[v])[i]? = some x->Q i x:=λi x a=>by
 by_cases e:i < s.length
 .rw [bA e]at a;exact h i x a
 .rw [ce (by lia)]at a;have:i-s.length=0:=by
   have:=(bL.mp a).1;simp at this;lia
  rw[this]at a;cases a;rw[show i=s.length by lia];exact n
theorem GL{n:Nat}(t:List Int){f m:Int}(h0:0≤f)(h1:0≤m)(h2:m≤3):∃r:List P,r.length≤m.toNat/\tz r/\dM (Ph (n+4) "_law_cells") [gn t,.int f,.int m]=some (.lst r):=by
 obtain⟨c,a,ha,G,I⟩:=kL (n:=n+1) t (k:=2+f) (p:=1) (by lia) (by lia) (by lia);have hm:a % (m+1) < m+1:=dR _ (by lia);have W:0≤a % (m+1):=dr _ (by lia);let Inv:Nat->Lc->az->Prop:=λi L S=>∃(r:List P)(H F K A:Option D),r.length=i/\tz r/\L=[O (gn t),Y f,Y m,qr 0,H,F,K,A]/\S=[.lst (r.map .p)]
 obtain⟨L',S',e,r,H,F,K,A,j,o,rfl,rfl⟩:=cE (g:=af 4) (b:=hJ (Ph (n+3))) (Inv:=Inv) (s:=Ev.intsFrom 0 (a % (m+1)).toNat) (k:=0)
  (L:=[O (gn t),Y f,Y m,qr 0,none,none,none,none]) (S:=[.lst []]) (fun i v L S hv R=>by
   obtain⟨rfl,hi⟩:=ints_get hv;obtain⟨r,H,F,K,A,j,o,rfl,rfl⟩:=R;obtain⟨c2,d,hd,C,E⟩:=kL (n:=n+1) t (k:=2+f) (p:=2+(i:Int)) (by lia) (by lia) (by lia);obtain⟨x,hx,y,Q⟩:=re (n:=n) t (k:=2+i) (by lia);obtain⟨lo,l,V,M⟩:=RB d;obtain⟨u,Z,B,N⟩:=O4 (d / 4);have z:0 < lo+u-lo+1:=by lia
   have T:r.length≤1000000:=by lia
   generalize hw:d / 16 % (lo+u-lo+1)=w;have hw0:0≤w/\w < lo+u-lo+1:=by subst hw;exact⟨dr _ (by lia),dR _ z⟩
   refine⟨_,[O (gn t),Y f,Y m,qr 0,Y (i:Int),Y d,Y lo,Y (lo+u)],[.lst ((r++[P.tup [.str x,.int lo,.int (lo+u),.int (lo+w)]]).map D.p)],rfl,?_,_,_,_,_,_,by simp;lia,⟨eM o.1 ⟨x,lo,lo+u,lo+w,hx,l,by lia,by lia,by lia,rfl⟩,sT o.2 ?_⟩,rfl,rfl⟩
   .rw [<- d9];have q:dM (Ph (n+3) "_law_name") [gn t,.int (2+(i:Int))]=some (.str x):=by rw[<- Q];rfl
    simp[hJ,C,E,q,M,N,z,d8,T,hw]
   .show My.hd x=_;rw[y,j];congr 1;lia) ⟨[],none,none,none,none,rfl,⟨λ_ h=>(by cases h),λ_ _ h=>(by cases h)⟩,rfl,rfl⟩
 refine⟨r,by rw[j,dj];lia,o,?_⟩;have X:(a % (m+1)).natAbs < 1000000:=by lia
 have z:0 < m+1:=by lia
 rw[t5,aJ];simp[mL,G,I,X,z,e]
@[simp] theorem P2:aq "number"=true/\aq "name"=true/\aq "plus"=true/\aq "minus"=true/\aq "times"=true/\aq "true"=true/\aq "not"=true/\aq "or"=true/\aq "and"=true/\aq "is"=true/\aq "="=true/\aq "!="=true/\aq "<"=true/\aq "<="=true/\aq ">"=true/\aq ">="=true/\aq "row"=true/\aq "heap"=true/\aq "ma"=true/\aq "mb"=true/\aq "who"=true/\aq "all"=true/\aq "any"=true/\aq ""=true/\aq "it"=true/\aq "weak"=true/\aq "strong"=true/\aq "step"=true/\aq "lose"=true/\aq "double"=true:=by decide +kernel
def kG(v:P):Prop:=∃s:Str,aq s=true/\v=.str s
theorem kG.ok(h:kG v)(n:Nat):cK n v=true:=by obtain⟨s,h,rfl⟩:=h;simpa using h
theorem gI{s:List P}(h:∀x ∈ s,kG x)(n:Nat):cK (n+1) (.lst s)=true:=DO λx a=>(h x a).ok n
theorem dN(h:s≠[]):s.isEmpty=false:=by cases s with|nil=>exact absurd rfl h|cons _ _=>rfl
theorem len_pos(h:s≠[]):0 < s.length:=AV.mpr h
noncomputable abbrev mV(k:Int):P:=.tup [.str "number",.int k]
noncomputable abbrev nO(y:P):P:=.tup [.str "name",y]
def sK(N:List P)(v:P):Prop:=(∃k,v=mV k)\/∃y ∈ N,v=nO y\/(∃k,v=.tup [.str "plus",nO y,mV k])\/(∃k j:Int,0≤k/\k≤2/\v=.tup [.str "minus",.tup [.str "times",nO y,mV k],mV j])\/v=.tup [.str "minus",mV 1,nO y]
variable{N:List P}
theorem sK.ok(a:∀x ∈ N,kG x)(h:sK N v):cK 4 v=true:=by
 rcases h with ⟨k,rfl⟩|⟨y,e,h⟩
 .simp
 .have o:∀k,cK k y=true:=λk=>(a y e).ok k;rcases h with rfl|⟨k,rfl⟩|⟨k,j,_,_,rfl⟩|rfl<;>simp[o]
theorem yO{n:Nat}(d:Int){s:List P}(c:∀x ∈ s,kG x):∃v,sK s v/\dM (Ph (n+2) "_law_sum") [.int d,.lst s]=some v:=by
 have e:=rj (gI c 19);by_cases k:s=[]
 .subst k;refine⟨mV (d / 5 % 3),.inl ⟨_,rfl⟩,?_⟩;rw[gi,aJ];simp[fj,e]
 rw[dN k]at e;have l:=len_pos k;obtain⟨y,f,a⟩:=iy k (d / 5);have b:d % 5=0\/d % 5=1\/d % 5=2\/d % 5=3\/d % 5=4:=by lia
 rcases b with h|h|h|h|h
 .refine⟨mV (d / 5 % 3),.inl ⟨_,rfl⟩,?_⟩;rw[gi,aJ];simp[fj,e,h]
 .refine⟨nO y,.inr ⟨y,f,.inl rfl⟩,?_⟩;rw[gi,aJ];simp[fj,e,h,dQ,eX,l,a]
 .refine⟨.tup [.str "plus",nO y,mV (d / 20 % 3)],.inr ⟨y,f,.inr (.inl ⟨_,rfl⟩)⟩,?_⟩;rw[gi,aJ];simp[fj,e,h,dQ,eX,l,a]
 .refine⟨.tup [.str "minus",.tup [.str "times",nO y,mV (d / 20 % 3)],mV (d / 60 % 2)],.inr ⟨y,f,.inr (.inr (.inl ⟨_,_,by lia,by lia,rfl⟩))⟩,?_⟩;rw[gi,aJ];simp[fj,e,h,dQ,eX,l,a]
 .refine⟨.tup [.str "minus",mV 1,nO y],.inr ⟨y,f,.inr (.inr (.inr rfl))⟩,?_⟩;rw[gi,aJ];simp[fj,e,h,dQ,eX,l,a]
def kH(N:List P)(v:P):Prop:=∃w y s,y ∈ N/\sK N s/\aq w=true/\v=.tup [.str "is",.str w,nO y,s]
def sO(N:List P)(v:P):Prop:=v=.tup [.str "true"]\/kH N v\/(∃p,kH N p/\v=.tup [.str "not",p])\/∃p z,kH N p/\z ∈ N/\v=.tup [.str "or",p,.tup [.str "and",.tup [.str "true"],.tup [.str "is",.str "=",mV 1,nO z]]]
theorem kH.ok(a:∀x ∈ N,kG x)(h:kH N v):cK 5 v=true:=by obtain⟨w,y,s,n,e,hw,rfl⟩:=h;have o:∀k,cK k y=true:=λk=>(a y n).ok k;simp[o,e.ok a,hw]
theorem sO.ok(a:∀x ∈ N,kG x)(h:sO N v):cK 7 v=true:=by
 rcases h with rfl|h|⟨p,h,rfl⟩|⟨p,z,h,e,rfl⟩
 .simp
 .exact bY (h.ok a) (by lia)
 .simp [bY (h.ok a) (show 5≤6 by lia)]
 .have o:∀k,cK k z=true:=λk=>(a z e).ok k;simp[bY (h.ok a) (show 5≤6 by lia),o]
theorem w6(a:Int):∃w:Str,aq w=true/\L2.atI [P.str "=",.str "!=",.str "<",.str "<=",.str ">",.str ">="] (a % 6)=some (.str w):=by obtain⟨w,hw,e⟩:=zy (s:=[P.str "=",.str "!=",.str "<",.str "<=",.str ">",.str ">="]) (k:=a % 6) (by lia) (by simp;lia);simp only[aW,de,gy]at hw;rcases hw with rfl|rfl|rfl|rfl|rfl|rfl<;>exact⟨_,by simp,e⟩
theorem cond_ok{n:Nat}(d:Int){s:List P}(m:∀x ∈ s,kG x):∃v,sO s v/\dM (Ph (n+3) "_law_condition") [.int d,.lst s]=some v:=by
 have e:=rj (gI m 19);by_cases a:s=[]
 .subst a;refine⟨.tup [.str "true"],.inl rfl,?_⟩;rw[dH,aJ];simp[cW,e]
 rw[dN a]at e;have l:=len_pos a;obtain⟨y,u,c⟩:=iy a (d / 30);obtain⟨z,g,r⟩:=zy (s:=s) (k:=0) (by lia) (by lia);obtain⟨w,hw,b⟩:=w6 (d / 5);obtain⟨v,q,f⟩:=yO (n:=n) (d / 90) m;have hp:kH s (.tup [.str "is",.str w,nO y,v]):=⟨w,y,v,u,q,hw,rfl⟩;by_cases t:d % 5 < 2
 .refine⟨.tup [.str "true"],.inl rfl,?_⟩;rw[dH,aJ];simp[cW,e,t]
 have p:d % 5=2\/d % 5=3\/d % 5=4:=by lia
 rcases p with h|h|h
 .refine⟨_,.inr (.inr (.inl ⟨_,hp,rfl⟩)),?_⟩;rw[dH,aJ];simp[cW,e,h,dQ,eX,l,c,b,f]
 .refine⟨_,.inr (.inr (.inr ⟨_,z,hp,g,rfl⟩)),?_⟩;rw[dH,aJ];simp[cW,e,h,dQ,eX,l,c,r,b,f]
 .refine⟨_,.inr (.inl hp),?_⟩;rw[dH,aJ];simp[cW,e,h,dQ,eX,l,c,b,f]
inductive isRoad(v:P):Prop
 |mk (a b k:Str) (c:Int) (d e:Bool):aq a=true->aq b=true->(k="row"\/k="heap")->1≤c->c≤3->v=.tup [.str a,.str b,.str k,.int c,.bl d,.bl e]->isRoad v
noncomputable def rA:P->Str
 | .tup (.str a::_)=>a
 |_=>""
noncomputable def rB:P->Str
 | .tup (_::.str b::_)=>b
 |_=>""
def RD(r h:P):Prop:=¬(rA r=rA h/\rB r=rB h)
def Kw(F:List P)(v:List P):Prop:=v.length≤8/\(∀r ∈ v,isRoad r/\.str (rA r) ∈ F/\.str (rB r) ∈ F)/\v.Pairwise RD
def Rj(F:List P)(v:List P)(i j:Nat):Prop:=∀r ∈ v,∃h x,F[h]? = some (.str (rA r))/\F[x]? = some (.str (rB r))/\(h < i\/(h=i/\x < j))
theorem Kb{a b:P}(d:Int):∃w,(w=a\/w=b)/\L2.atI [a,b] (d % 2)=some w:=by obtain⟨w,hw,e⟩:=zy (s:=[a,b]) (k:=d % 2) (by lia) (by simp;lia);exact⟨w,by simpa using hw,e⟩
theorem fL{s:List P}{i:Nat}{v:P}(h:(bJ 0 s)[i]? = some v):∃x,s[i]? = some x/\v=.tup [.int (i:Int),x]:=by obtain⟨x,a,e⟩:=mh h;exact⟨x,a,by rw[e];simp⟩
theorem bF{a:Type}{s:List a}{i:Nat}{x:a}(h:s[i]? = some x):i < s.length:=(bL.mp h).1
theorem E6{n:Nat}(A:List Int){s:List P}(hx:∀x ∈ s,kG x)(W:∀(i j:Nat) x,s[i]? = some x->s[j]? = some x->i=j)(hl:s.length≤4){m:Int}(h1:0 < m)(h3:m≤3):∃f:List P,Kw s f/\dM (Ph (n+3) "_law_roads") [gn A,.lst s,.int m]=some (.lst f):=by
 let I:Nat->Option D->Option D->Nat->Lc->az->Prop:=λii k B j L S=>∃(f:List P)(M N Q C:Option D),(Kw s f/\Rj s f ii j)/\L=[O (gn A),ql s,Y m,qr 0,k,B,M,N,Q,C]/\S=[.lst (f.map .p)]
 let Inv:Nat->Lc->az->Prop:=λi L S=>∃k B,I i k B 0 L S
 obtain⟨L',S',e,k0,one0,f,M,N,Q,C,⟨H,_⟩,rfl,rfl⟩:=cE (g:=aP [af 4,af 5]) (b:=hG (Ph (n+2))) (Inv:=Inv) (s:=bJ 0 s) (k:=0)
  (L:=[O (gn A),ql s,Y m,qr 0,none,none,none,none,none,none]) (S:=[.lst []]) (fun i v L S hv hI=>by
   obtain⟨x,q,rfl⟩:=fL hv;have hi:=bF q;have Z:=aZ q;obtain⟨a,ha,rfl⟩:=hx x Z;obtain⟨_,_,f,M,N,Q,C,H,rfl,rfl⟩:=hI;rw[dX]at H ⊢;obtain⟨L',S',e,hI2⟩:=cE (g:=aP [af 6,af 7]) (b:=ei (Ph (n+2))) (Inv:=I i (Y (i:Int)) (qs a)) (s:=bJ 0 s) (k:=0)
    (L:=[O (gn A),ql s,Y m,qr 0,Y (i:Int),qs a,M,N,Q,C]) (S:=[.lst (f.map .p)]) (fun j v L S hv hI=>by
     obtain⟨y,u,rfl⟩:=fL hv;have hj:=bF u;have hym:=aZ u;obtain⟨b,hb,rfl⟩:=hx y hym;obtain⟨f,M,N,Q,C,⟨H,t⟩,rfl,rfl⟩:=hI;rw[dX]at t ⊢;obtain⟨c,d,hd,R,T⟩:=kL (n:=n) A (k:=4) (p:=30+4 * (i:Int)+(j:Int)) (by lia) (by lia) (by lia);have m4:gJ 4 (i:Int)=true:=cL (by decide) (by lia);by_cases hg:0 < d % 4/\f.length < 8
     .obtain⟨w,hw,ew⟩:∃w:Str,(w="row"\/w="heap")/\L2.atI [P.str "row",.str "heap"] (d / 4 % 2)=some (.str w):=by
       obtain⟨w,hw,ew⟩:=Kb (a:=.str "row") (b:=.str "heap") (d / 4);rcases hw with rfl|rfl
       .exact⟨_,.inl rfl,ew⟩
       .exact⟨_,.inr rfl,ew⟩
      have X:f.length≤1000000:=by lia
      have c0:0≤d / 8 % m:=dr _ (by lia);have c1:d / 8 % m < m:=dR _ h1;refine⟨_,[O (gn A),ql s,Y m,qr 0,Y (i:Int),qs a,Y (j:Int),qs b,Y d,qs w],[.lst ((f++[P.tup [.str a,.str b,.str w,.int (1+d / 8 % m),.bl (decide (d / 24 % 3=1)),.bl (decide (d / 72 % 3=1))]]).map D.p)],rfl,?_,_,_,_,_,_,⟨⟨by simp;lia,eM H.2.1 ⟨⟨a,b,w,_,_,_,ha,hb,hw,by lia,by lia,rfl⟩,Z,hym⟩,List.pairwise_append.mpr ⟨H.2.2,List.pairwise_singleton _ _,λr K z hz=>?_⟩⟩,eM (λr K=>?_) ⟨i,j,q,u,.inr ⟨rfl,by lia⟩⟩⟩,rfl,rfl⟩;rotate_left
      .rw [cS.mp hz];rintro ⟨R,T⟩;obtain⟨E,G,l,o,g3⟩:=t r K;rw[R]at l;rw[T]at o;have:=W _ _ _ l q
       have:=W _ _ _ o u;lia
      .obtain⟨E,G,l,o,g3⟩:=t r K;exact⟨E,G,l,o,by lia⟩
      rw[<- d9];have F:(f.length:Int) < 8:=by lia
      simp[ei,R,T,m4,hg.1,dQ,F,ew,h1,d8,X]
     .refine⟨_,[O (gn A),ql s,Y m,qr 0,Y (i:Int),qs a,Y (j:Int),qs b,Y d,C],[.lst (f.map D.p)],rfl,?_,f,_,_,_,_,⟨H,λr K=>?_⟩,rfl,rfl⟩;rotate_left
      .obtain⟨E,G,l,o,g3⟩:=t r K;exact⟨E,G,l,o,by lia⟩
      by_cases V:0 < d % 4
      .have F:¬(f.length:Int) < 8:=by lia
       simp[ei,R,T,m4,V,dQ,F]
      .simp [ei,R,T,m4,V,dQ]) ⟨f,M,N,Q,C,H,rfl,rfl⟩
   obtain⟨vs',z6,z7,z8,z9,⟨hi1,hi2⟩,hi3,hi4⟩:=hI2;exact⟨_,L',S',rfl,by simpa[hG] using e,_,_,vs',z6,z7,z8,z9,⟨hi1,λr K=>by obtain⟨E,G,l,o,g3⟩:=hi2 r K;exact⟨E,G,l,o,by lia⟩⟩,hi3,hi4⟩) ⟨none,none,[],none,none,none,none,⟨⟨by simp,λ_ h=>(by cases h),List.Pairwise.nil⟩,λ_ h=>(by cases h)⟩,rfl,rfl⟩
 refine⟨f,H,?_⟩;rw[tX,aJ];simp[mI,e]
end My
namespace My
open PySem L2 Ev
variable{s:Str}{l:List P}
theorem yV(H:∀c ∈ l,isRoad c)(L:Lc)(j k:Nat)(t:j < L.length)(h:k≠j)(z:L[k]? = some (qs s))(S:az) :
  ∃f,bN (af j) (aS (U (ab (vv j) cI)) (a_ k)) (ab (vv j) bX) l L S=some (f,S)/\(∀y ∈ f,kG y/\∃r ∈ l,rA r=s/\y=.str (rB r))/\f.length≤l.length:=by
 refine pe (Inv:=λm=>∃d,m=L.set j d) (λv p m u=>?_) ⟨L[j],(fR t).symm⟩;obtain⟨d,rfl⟩:=u;obtain⟨a,b,n,c,x,e,F,i,o,_,_,rfl⟩:=H v p;have g:((L.set j d).set j (qt [.str a,.str b,.str n,.int c,.bl x,.bl e]))[j]? = some (qt [.str a,.str b,.str n,.int c,.bl x,.bl e]):=by rw[cc (by simpa using t)]
 have w:((L.set j d).set j (qt [.str a,.str b,.str n,.int c,.bl x,.bl e]))[k]? = some (qs s):=by rw[aG (aQ h),aG (aQ h)];exact z
 exact⟨_,decide (a=s),rfl,⟨_,b8 ..⟩,by simp[-b8,g,w],λq=>⟨.str b,by simp[-b8,g],⟨b,i,rfl⟩,_,p,bC q,rfl⟩⟩
theorem C0(H:∀c ∈ l,isRoad c)(L:Lc)(j k:Nat)(t:j < L.length)(h:k≠j)(z:L[k]? = some (qs s))(S:az) :
  ∃f,bN (af j) (aS (U (ab (vv j) bX)) (a_ k)) (ab (vv j) cI) l L S=some (f,S)/\(∀y ∈ f,kG y/\∃r ∈ l,rB r=s/\y=.str (rA r))/\f.length≤l.length:=by
 refine pe (Inv:=λm=>∃d,m=L.set j d) (λv p m u=>?_) ⟨L[j],(fR t).symm⟩;obtain⟨d,rfl⟩:=u;obtain⟨a,b,n,c,x,e,i,F,o,_,_,rfl⟩:=H v p;have g:((L.set j d).set j (qt [.str a,.str b,.str n,.int c,.bl x,.bl e]))[j]? = some (qt [.str a,.str b,.str n,.int c,.bl x,.bl e]):=by rw[cc (by simpa using t)]
 have w:((L.set j d).set j (qt [.str a,.str b,.str n,.int c,.bl x,.bl e]))[k]? = some (qs s):=by rw[aG (aQ h),aG (aQ h)];exact z
 exact⟨_,decide (b=s),rfl,⟨_,b8 ..⟩,by simp[-b8,g,w],λq=>⟨.str a,by simp[-b8,g],⟨a,i,rfl⟩,_,p,bC q,rfl⟩⟩
theorem xp(h:l.length≤8):l.length≤1000000:=by lia
theorem wd(d:Int):∃w:Str,(w=a\/w=b)/\L2.atI [P.str a,.str b] (d % 2)=some (.str w):=by
 obtain⟨w,hw,e⟩:=Kb (a:=.str a) (b:=.str b) d;rcases hw with rfl|rfl
 .exact⟨_,.inl rfl,e⟩
 .exact⟨_,.inr rfl,e⟩
inductive isSend(s:Str)(rs whos N:List P)(v:P):Prop
 |mk (m:Str) (t:P) (way nm:Str):aq m=true->aq nm=true->sK N t->((way="who"/\P.str nm ∈ whos)\/((way="all"\/way="any")/\∃r ∈ rs,rA r=s/\nm=rB r))->v=.tup [.str m,t,.str way,.str nm]->isSend s rs whos N v
variable{u:List P}
theorem isSend.ok(a:∀x ∈ N,kG x)(h:isSend s l u N v):cK 5 v=true:=by
 obtain⟨m,t,w,f,e,n,k,hw,rfl⟩:=h;have hw:aq w=true:=by rcases hw with ⟨rfl,_⟩|⟨rfl|rfl,_⟩<;>simp
 simp[e,n,hw,k.ok a]
variable{n:Nat}
theorem EX(d:Int)(hnm:∀x ∈ nm,kG x)(hw:∀x ∈ u,kG x)(hr:∀c ∈ l,isRoad c)(hrl:l.length≤8){m:Int}(h1:0≤m)(h2:m≤3) :
  ∃f:List P,f.length≤3/\(∀c ∈ f,isSend s l u nm c)/\dM (Ph (n+3) "_law_sends") [.int d,.str s,.lst nm,.lst u,.lst l,.int m]=some (.lst f):=by
 have hm:d % (m+1) < m+1:=dR _ (by lia);have hm0:0≤d % (m+1):=dr _ (by lia);obtain⟨gs,eg,Q,hgl⟩:=yV (s:=s) hr [Y d,qs s,ql nm,ql u,ql l,Y m,none,none,none,none,none,none,none] 12 1 (by simp) (by lia) rfl [];have W:=l7 (gI hw 19);have eG:=l7 (gI (λx hx=>(Q x hx).1) 19);let F:Option D->Option D->Option D->Option D->Lc:=λZ I t q=>[Y d,qs s,ql nm,ql u,ql l,Y m,ql gs,qr 0,Z,I,t,q]
 let Inv:Nat->Lc->az->Prop:=λi L S=>∃(f:List P)(Z I t q:Option D),f.length≤i/\(∀c ∈ f,isSend s l u nm c)/\L=F Z I t q/\S=[.lst (f.map .p)]
 obtain⟨L',S',e,f,Z,I,t,q,hc,ho,rfl,rfl⟩:=cE (g:=af 8) (b:=fy (Ph (n+2))) (Inv:=Inv) (s:=Ev.intsFrom 0 (d % (m+1)).toNat) (k:=0)
  (L:=F none none none none) (S:=[.lst []]) (fun i v L S hv hI=>by
   obtain⟨rfl,hi⟩:=ints_get hv;obtain⟨f,Z,I,t,q,hc,ho,rfl,rfl⟩:=hI;simp only[dq];obtain⟨dv,hdv,edv⟩:∃z:Int,(0 < z/\z < 1152921504606846976)/\L2.atI [P.int 4,.int 1000,.int 100000] (i:Int)=some (.int z):=by
    have:i=0\/i=1\/i=2:=by lia
    rcases this with rfl|rfl|rfl
    .exact⟨4,by decide,by simp⟩
    .exact⟨1000,by decide,by simp⟩
    .exact⟨100000,by decide,by simp⟩
   generalize hso:d / dv=p;obtain⟨tr,htr,etr⟩:=yO (n:=n) (p / 12 % 300) hnm;obtain⟨mk,hmk,emk⟩:=wd (a:="ma") (b:="mb") p;have omk:aq mk=true:=by rcases hmk with rfl|rfl<;>simp
   have j:f.length≤1000000:=by lia
   let T:=F (Y (i:Int)) (Y p) (O tr) (qs mk)
   let G:BB->Prop:=λx=>∃L2 S2,x=some (.nx,L2,S2)/\Inv (0+i+1) L2 S2
   have B:∀{x:BB}(y w:Str),aq w=true->((y="who"/\P.str w ∈ u)\/((y="all"\/y="any")/\∃r ∈ l,rA r=s/\w=rB r))->x=some (.nx,T,[.lst (f.map .p++[.p (.tup [.str mk,tr,.str y,.str w])])])->G x:=λy w ow h e=>⟨_,_,e,f++[.tup [.str mk,tr,.str y,.str w]],_,_,_,_,by simp;lia,eM ho ⟨mk,tr,y,w,omk,ow,htr,h,rfl⟩,rfl,by rw[d9]⟩
   suffices h:G (fy (Ph (n+2)) (F (Y (i:Int)) I t q) [.lst (f.map .p)]) by obtain⟨L2,S2,e,h⟩:=h;exact⟨_,L2,S2,rfl,e,h⟩
   unfold fy;rw[ag (e:=F (Y (i:Int)) (Y p) t q) (c:=[.lst (f.map .p)]) (by simp[F,edv,hdv,hso]),ag (e:=F (Y (i:Int)) (Y p) (O tr) q) (c:=[.lst (f.map .p)]) (by simp[F,etr]),ag (e:=T) (c:=[.lst (f.map .p)]) (by simp[F,T,emk])];by_cases M:u≠[]/\p / 2 % 3=1
   .obtain⟨w,A,ew⟩:=iy M.1 (p / 50);obtain⟨w,H,rfl⟩:=hw w A;have hl:=len_pos M.1;rw[dN M.1]at W;rw[o0 (by simp[F,T,W,M.2])];exact B "who" w H (.inl ⟨rfl,A⟩) (by simp[F,T,dQ,eX,hl,ew,d8,j])
   rw [nV (by
    cases E:u.isEmpty<;>rw[E]at W
    .have h3:¬p / 2 % 3=1:=λz=>M ⟨λz=>(by rw[z]at E;cases E),z⟩;simp[F,T,W,h3]
    .simp [F,T,W])]
   by_cases N:gs=[]
   .rw [N]at eG;exact⟨T,[.lst (f.map .p)],by rw[nV (by simp[F,T,N,eG])];rfl,f,_,_,_,_,by lia,ho,rfl,rfl⟩
   obtain⟨w,A,ew⟩:=iy N (p / 3);obtain⟨⟨w,H,rfl⟩,r,X,V,K⟩:=Q w A;have K:w=rB r:=by cases K;rfl
   have hl:=len_pos N;rw[dN N]at eG;rw[o0 (by simp[F,T,eG])];by_cases R:i < 2
   .have C:(i:Int) < 2:=by lia
    obtain⟨aa,haa,eaa⟩:=wd (a:="all") (b:="any") (p / 6);have mo:gJ (p / 6 % 2) 1=true:=cL (by lia) (by decide);exact B aa w H (.inr ⟨haa,r,X,V,K⟩) (by simp[F,T,R,C,dC,lF,mo,eaa,dQ,eX,hl,ew,d8,j])
   .have C:¬(i:Int) < 2:=by lia
    have mo:gJ (p / 6 % 2) 0=true:=cL (by lia) (by decide);exact B "all" w H (.inr ⟨.inl rfl,r,X,V,K⟩) (by simp[F,T,R,C,dC,lF,mo,dQ,eX,hl,ew,d8,j])) ⟨[],none,none,none,none,by simp,λ_ h=>(by cases h),rfl,rfl⟩
 refine⟨f,by rw[dj]at hc;lia,ho,?_⟩;have hq:(d % (m+1)).natAbs < 1000000:=by lia
 have hz:0 < m+1:=by lia
 rw[tW,aJ];simp[mH,bE,xp hrl,li,eg,hq,hz];simp[F]at e;simp[e]
@[simp] theorem xA(L:Lc)(S:az):cY L S=some (none,S):=rfl
@[simp] theorem xz(a:EV)(L:Lc)(S:az):cV a L S=cf (a L S) λv h=>match v with | .int i=>some (some i,h)|_=>none:=rfl
@[simp] theorem Po(o:List P)(lo h:Option Int):MQ (.lst o) lo h=some (.lst (cut o lo h)):=rfl
@[simp] theorem Pn(o:List P)(lo h:Option Int):MQ (.tup o) lo h=some (.tup (cut o lo h)):=rfl
variable{o:List P}
theorem Cy:(∀x ∈ cut o lo i,x ∈ o)/\(cut o lo i).length≤o.length:=by
 unfold cut;refine⟨λx h=>?_,?_⟩
 .first
   |exact nD (qL h)
   |exact qL (nD h)
 .simp only[hY,qG];lia
def kF(s:Str)(l u:List P)(v:P):Prop:=v=.non\/∃m a i w,aq m=true/\aq a=true/\aq i=true/\aq w=true/\(∃r ∈ l,rB r=s/\a=rA r)/\(w=""\/P.str w ∈ u)/\v=.tup [.str m,.str a,.str i,.str w]
noncomputable def more:P->List P
 | .non=>[]
 |_=>[.str "it"]
theorem kF.ok(h:kF s l u v):cK 2 v=true:=by
 rcases h with rfl|⟨m,a,i,w,x,e,n,k,_,_,rfl⟩
 .rfl
 .simp [x,e,n,k]
def ww(N f:List P)(t:P):Prop:=∀m a i w,t=.tup [m,a,.str i,w]->i=""\/(P.str i ∈ N/\P.str i ∉ f)
theorem GG:cut (o++[x]) none (some (-1))=o:=by
 unfold cut;have e:HT.fK (o++[x]).length (o++[x]).length (some (-1))=o.length:=by show(if (-1:Int) < 0 then ((-1:Int)+(((o++[x]).length:Nat):Int)).toNat else min ((-1:Int).toNat) (o++[x]).length)=o.length;rw[aj (by decide),bg,vn];lia
 rw[e,HT.sr,nw,vw,AK];rfl
theorem FT(h:o≠[])(n:o.Nodup)(e:L2.atI o (-1)=some x):x ∉ cut o none (some (-1)):=by
 rcases List.eq_nil_or_concat o with rfl|⟨s,y,rfl⟩
 .exact absurd rfl h
 rw[List.concat_eq_append] at *
 have:x=y:=by
  unfold L2.atI L2.B9 at e;rw[al (by decide),aj (by simp;lia)]at e;have a:(-1+(((s++[y]).length:Nat):Int)).toNat=s.length:=by simp;lia
  simp only[a,kl]at e;rw[ce (ah _)]at e;simp at e;exact e.symm
 subst this;rw[GG];intro k;have:=(lT.mp n).2.2
 exact this x k x (by simp) rfl
theorem step_if(ψ ι:Str->GF){d0:Int}(hn:∀x ∈ m,kG x)(Q:m.Nodup)(hw:∀x ∈ u,kG x)(hs:∀x ∈ d,kG x/\∃r ∈ l,rB r=s/\x=.str (rA r)) :
  ∃v f k t,kF s l u v/\(∀x ∈ f,x ∈ m)/\f.length≤m.length/\ww m f v /\
   f_ ψ [ql (.int d0::ds),qs s,O rooms,O cells,ql u,ql l,ql m,ql d,O .non,ql m,ql [],none,none,none,none,none,none,none] []
    = some (.nx,[ql (.int d0::ds),qs s,O rooms,O cells,ql u,ql l,ql m,ql d,O v,ql f,ql (more v),k,t,none,none,none,none,none],[]):=by
 have S:=l7 (gI (λx j=>(hs x j).1) 19);have N:=l7 (gI hn 19);have W:=l7 (gI hw 19);let F:Option D->List P->List P->Option D->Option D->Lc:=λq8 l9 Z k t=>[ql (.int d0::ds),qs s,O rooms,O cells,ql u,ql l,ql m,ql d,q8,ql l9,ql Z,k,t,none,none,none,none,none]
 let G:BB->Prop:=λx=>∃v f k t,kF s l u v/\(∀x ∈ f,x ∈ m)/\f.length≤m.length/\ww m f v/\x=some (.nx,F (O v) f (more v) k t,[])
 show G (f_ ψ (F (O .non) m [] none none) []);unfold f_;by_cases y:d≠[]/\d0 % 3=1
 .rw [dN y.1]at S;obtain⟨s1,V,es⟩:=iy y.1 (d0 / 24);have E:=len_pos y.1;obtain⟨mk,M,A⟩:=wd (a:="ma") (b:="mb") (d0 / 12);obtain⟨⟨sn,osn,rfl⟩,r,T,R,g⟩:=hs s1 V;have g:sn=rA r:=by cases g;rfl
  have omk:aq mk=true:=by rcases M with rfl|rfl<;>simp
  rw[o0 (by simp[F,S,y.2])];rw[ag (e:=F (O .non) m [] (qs "") none) (c:=[]) rfl];refine xl (G:=G) (p:=λL=>∃i f,aq i=true/\(∀x ∈ f,x ∈ m)/\f.length≤m.length/\(i=""\/(P.str i ∈ m/\P.str i ∉ f))/\L=F (O .non) f [] (qs i) none) ?_ λL ⟨i,f,hi,hf,B,C,e⟩=>?_
  .by_cases c:m≠[]/\d0 / 3 % 2=1
   .obtain⟨x,j,K⟩:=GY c.1;obtain⟨x,ox,rfl⟩:=hn x j;rw[dN c.1]at N;exact⟨_,⟨x,cut m none (some (-1)),ox,Cy.1,Cy.2,.inr ⟨j,FT c.1 Q K⟩,rfl⟩,by simp[F,N,c.2,K]⟩
   .refine⟨_,⟨"",m,by simp,λ_ h=>h,ah _,.inl rfl,rfl⟩,?_⟩;cases n:m.isEmpty<;>rw[n]at N
    .have o:¬d0 / 3 % 2=1:=λq=>c ⟨λz=>(by rw[z]at n;cases n),q⟩;simp[F,N,o]
    .simp [F,N]
  subst e;rw[ag (e:=F (O .non) f [] (qs i) (qs "")) (c:=[]) rfl];refine xl (G:=G) (p:=λL=>∃w,aq w=true/\(w=""\/P.str w ∈ u)/\L=F (O .non) f [] (qs i) (qs w)) ?_ λL ⟨w,H,X,e⟩=>?_
  .by_cases c:u≠[]/\d0 / 6 % 2=1
   .obtain⟨x,j,K⟩:=iy c.1 (d0 / 200);obtain⟨x,ox,rfl⟩:=hw x j;rw[dN c.1]at W;have I:=len_pos c.1;exact⟨_,⟨x,ox,.inr j,rfl⟩,by simp[F,W,c.2,dQ,eX,I,K]⟩
   .refine⟨_,⟨"",by simp,.inl rfl,rfl⟩,?_⟩;cases n:u.isEmpty<;>rw[n]at W
    .have o:¬d0 / 6 % 2=1:=λq=>c ⟨λz=>(by rw[z]at n;cases n),q⟩;simp[F,W,o]
    .simp [F,W]
  subst e;exact⟨.tup [.str mk,.str sn,.str i,.str w],f,qs i,qs w,.inr ⟨mk,sn,i,w,omk,osn,hi,H,⟨r,T,R,g⟩,X,rfl⟩,hf,B,λ_ _ _ _ q=>by cases q;exact C,by simp[F,more,dQ,eX,E,es,A]⟩
 .refine⟨.non,m,none,none,.inl rfl,λ_ h=>h,ah _,λ_ _ _ _ q=>(by cases q),?_⟩;cases n:d.isEmpty<;>rw[n]at S
  .have o:¬d0 % 3=1:=λq=>y ⟨λz=>(by rw[z]at n;cases n),q⟩;simp[F,more,S,o]
  .simp [F,more,S]
def gu(s:List P):List P:=s.map λc=>.str (aX c)
theorem lx(e:∀c ∈ a,isCel c):∀x ∈ gu a,kG x:=λx s=>by obtain⟨c,h,rfl⟩:=aM.mp s;obtain⟨x,_,_,_,o,_,_,_,_,rfl⟩:=e c h;exact⟨x,o,rfl⟩
theorem pf(m:∀c ∈ h,isCel c)(L:Lc)(j:Nat)(n:j < L.length)(S:az) :
  bN (af j) fm (ab (vv j) cI) h L S=some (gu h,S):=by
 have:=bW (g:=af j) (c:=fm) (e:=ab (vv j) cI) (S:=S) (p:=fun _=>true) (f:=fun c=>.str (aX c)) (s:=h) (L:=L) (Inv:=fun s=>∃d,s=L.set j d) (fun v r s b=>by
  obtain⟨d,rfl⟩:=b;obtain⟨x,lo,i,a,t,_,_,_,_,rfl⟩:=m v r;have k:((L.set j d).set j (qt [.str x,.int lo,.int i,.int a]))[j]? = some (qt [.str x,.int lo,.int i,.int a]):=by rw[cc (by simpa using n)]
  exact⟨_,rfl,⟨_,b8 ..⟩,rfl,λ_=>by simp[-b8,k,aX]⟩) ⟨L[j],(fR n).symm⟩
 rw[this,qK.mpr λ_ _=>rfl];rfl
def Ca(N:List P)(c:P):Prop:=∃x t,aq x=true/\sK N t/\c=.tup [.str x,t]
structure Stp(s:Str)(rooms cells whos rs:List P)(rm when tk:P)(chg sn:List P)(rm2:P):Prop where
 h1:rm ∈ rooms
 h2:rm2 ∈ rooms
 wh:sO (gu cells) when
 htk:kF s rs whos tk
 cl:chg.length≤3
 ch:∀c ∈ chg,Ca (gu cells++more tk) c
 cn:∀c ∈ chg,P.str (aX c) ∈ gu cells
 ci:ww (gu cells) (chg.map λc=>.str (aX c)) tk
 sl:sn.length≤3
 hsn:∀c ∈ sn,isSend s rs whos (gu cells++more tk) c
theorem y2(h:tz c):(gu c).Nodup:=by refine qP.mpr λi j x a n q=>?_;unfold gu at x a q;rw[aR]at x a;rw[qF,qF]at q;have e:=h.2 i _ (bj x);have s:=h.2 j _ (bj a);rw[P.str.inj q,s]at e;simp at e;lia
theorem nQ(v:P):∀x ∈ more v,kG x:=λx h=>by
 cases v with
 |non=>cases h
 |_=>exact⟨"it",by simp,by simpa[more] using h⟩
theorem FK(v:P):(more v).length≤1:=by cases v<;>simp[more]
theorem Iq(N E M H:Int)(hrm:∀x ∈ r,kG x)(I:r≠[])(T:tz f)(hcl:f.length≤3)(hw:∀x ∈ u,kG x)(hr:∀c ∈ l,isRoad c)(hrl:l.length≤8) :
  ∃rm wh B y sn rm2,Stp s r f u l rm wh B y sn rm2/\dM (Ph (n+4) "_law_step") [.lst [.int N,.int E,.int M,.int H],.str s,.lst r,.lst f,.lst u,.lst l]=some (.tup [rm,wh,B,.lst y,.lst sn,rm2]):=by
 have R:=T.1;have hnd:=y2 T;have e1:=pf R [ql [.int N,.int E,.int M,.int H],qs s,ql r,ql f,ql u,ql l,none,none,none,none,none,none,none,none,none,none,none,none,none] 18 (by simp) [];have p:=lx R;have hnl:(gu f).length=f.length:=by simp[gu]
 generalize Q:gu f=t at e1 p hnl hnd;obtain⟨snd,e2,hsn,_⟩:=C0 (s:=s) hr [ql [.int N,.int E,.int M,.int H],qs s,ql r,ql f,ql u,ql l,ql t,none,none,none,none,none,none,none,none,none,none,none,none] 18 1 (by simp) (by lia) rfl [];obtain⟨B,fr,q11,q12,htk,W,hfl,hio,e3⟩:=step_if (Ph (n+3)) (Ph (n+2)) (d0:=N) (ds:=[.int E,.int M,.int H]) (rooms:=.lst r) (cells:=.lst f) p hnd hw hsn;have hml:=FK B;have Z:=nQ B;generalize hM:more B=mo at e3 hml Z;have A:∀x ∈ t++mo,kG x:=λx hx=>(b9.mp hx).elim (p x) (Z x)
 have K:t.length+mo.length≤1000000:=by lia
 have hcf:f.length≤1000000:=by lia
 let F:Option D->Option D->Lc:=λd j=>[ql [.int N,.int E,.int M,.int H],qs s,ql r,ql f,ql u,ql l,ql t,ql snd,O B,ql fr,ql mo,q11,q12,qr 0,d,j,none,none]
 let Inv:Nat->Lc->az->Prop:=λi L S=>∃(C:List P)(d j:Option D),C.length≤i/\(∀c ∈ C,Ca (t++mo) c/\P.str (aX c) ∈ fr)/\L=F d j/\S=[.lst (C.map .p)]
 obtain⟨L',S',e4,y,d,j,V,G,rfl,rfl⟩:=cE (g:=aP [af 14,af 15]) (b:=f8 (Ph (n+3))) (Inv:=Inv) (s:=bJ 0 fr) (k:=0) (L:=F none none) (S:=[.lst []]) (fun i v L S hv hI=>by
   obtain⟨x,hx1,rfl⟩:=fL hv;have hi:=bF hx1;have hxf:=aZ hx1;obtain⟨x,ox,rfl⟩:=p x (W x hxf);obtain⟨C,d,j,R,ho,rfl,rfl⟩:=hI;have X:C.length≤1000000:=by lia
   obtain⟨a,b,ha,hb,ea,eb⟩:∃a b:Int,(0 < a/\a < 1152921504606846976)/\(0 < b/\b < 1152921504606846976)/\L2.atI [P.int 1,.int 1000,.int 1000000] (i:Int)=some (.int a)/\L2.atI [P.int 2,.int 2000,.int 2000000] (i:Int)=some (.int b):=by
    have:i=0\/i=1\/i=2:=by lia
    rcases this with rfl|rfl|rfl
    .exact⟨1,2,by decide,by decide,by simp,by simp⟩
    .exact⟨1000,2000,by decide,by decide,by simp,by simp⟩
    .exact⟨1000000,2000000,by decide,by decide,by simp,by simp⟩
   by_cases h:E / a % 2=1
   .obtain⟨tr,htr,etr⟩:=yO (n:=n+1) (E / b % 300) A;refine⟨_,F (Y (i:Int)) (qs x),[.lst ((C++[P.tup [.str x,tr]]).map D.p)],rfl,?_,_,_,_,by simp;lia,eM ho ⟨⟨x,tr,ox,htr,rfl⟩,hxf⟩,rfl,rfl⟩;rw[<- d9];simp[f8,F,ea,eb,ha,hb,h,K,etr,d8,X]
   .refine⟨_,F (Y (i:Int)) (qs x),[.lst (C.map D.p)],rfl,?_,C,_,_,by lia,ho,rfl,rfl⟩;simp[f8,F,ea,ha,h]) ⟨[],none,none,by simp,λ_ h=>(by cases h),rfl,rfl⟩
 rw[dD]at V;obtain⟨z,hz0,hz1,hz2⟩:∃z:Int,0≤z/\z≤1/\dC [.bl (decide (3 < (r.length:Int)))]=some (.int z):=by
  by_cases h:3 < (r.length:Int)
  .exact⟨1,by decide,by decide,by simp[h,dC,lF]⟩
  .exact⟨0,by decide,by decide,by simp[h,dC,lF]⟩
 obtain⟨sn,hsl,hsd,e5⟩:=EX (n:=n) M (s:=s) A hw hr hrl (m:=2+z) (by lia) (by lia);obtain⟨wh,hwh,e6⟩:=cond_ok (n:=n) (H % 27000) p;obtain⟨r1,hr1,e7⟩:=iy I (H / 27000);obtain⟨r2,hr2,e8⟩:=iy I (H / 216000);have hl:=len_pos I;refine⟨r1,wh,B,y,sn,r2,⟨hr1,hr2,Q ▸ hwh,htk,by lia,Q ▸ hM ▸ λc h=>(G c h).1,Q ▸ λc h=>W _ (G c h).2,Q ▸ λm a into who q=>(hio m a into who q).imp id λz=>⟨z.1,λw=>by obtain⟨c,R,e⟩:=aM.mp w;exact z.2 (e ▸ (G c R).2)⟩,hsl,Q ▸ hM ▸ hsd⟩,?_⟩
 rw[wF,aJ];simp only[F]at e4;simp[oA,bE,hcf,xp hrl,li,e1,e2,gb,e3,e4,K,dQ,eX,hz2,e5,e6,hl,e7,e8,eS]
inductive isStep(s:Str)(rooms cells whos rs:List P)(v:P):Prop
 |mk (x:Str) (rm wh tk:P) (chg sn:List P) (rm2:P):aq x=true->Stp s rooms cells whos rs rm wh tk chg sn rm2->v=.tup [.str x,rm,wh,tk,.lst chg,.lst sn,rm2]->isStep s rooms cells whos rs v
structure Fam(rs:List P)(nm:Str)(crew:Nat)(rooms cells whos steps:List P):Prop where
 hnm:aq nm=true
 hcr:1≤crew/\crew≤4
 hro:∀x ∈ rooms,kG x
 r0:rooms≠[]
 rl:rooms.length≤8
 hce:tz cells
 cl:cells.length≤3
 hwh:∀x ∈ whos,kG x
 wl:whos.length≤2
 s0:steps≠[]
 sl:steps.length≤8
 hst:∀x ∈ steps,isStep nm rooms cells whos rs x
 sd:steps.Pairwise λa b=>aX a≠aX b
inductive isFam(rs:List P)(v:P):Prop
 |mk (nm:Str) (crew:Nat) (rooms cells whos steps:List P):Fam rs nm crew rooms cells whos steps->v=.tup [.str nm,.int (crew:Int),.lst rooms,.lst cells,.lst whos,.lst steps]->isFam rs v
theorem sE(s:List Int)(j:Nat)(o:Nat)(L:Lc)(c:j < L.length)(r:L[0]? = some (O (gn s)))(h:0≠j)(u:o+m≤16)(S:az) :
  ∃a,bN (af j) fm (cy (Ph (n+3) "_law_name") (v2 bM (ak (vi (o:Int)) (vv j)))) (Ev.intsFrom 0 m) L S=some (a,S)/\(∀y ∈ a,kG y)/\a.length=(Ev.intsFrom 0 m).length:=by
 refine mY (Inv:=λf=>∃d,f=L.set j d) (λv p f t=>?_) ⟨L[j],(fR c).symm⟩;obtain⟨d,rfl⟩:=t;obtain⟨i,rfl,w⟩:=jq p;obtain⟨x,q,_,e⟩:=re (n:=n) s (k:=o+i) (by lia);have e:dM (Ph (n+3) "_law_name") [gn s,.int ((o:Int)+(i:Int))]=some (.str x):=by rw[<- e];rfl
 have g:((L.set j d).set j (Y (0+(i:Int))))[j]? = some (Y (0+(i:Int))):=by rw[cc (by simpa using c)]
 have b:((L.set j d).set j (Y (0+(i:Int))))[0]? = some (O (gn s)):=by rw[aG (aQ h),aG (aQ h)];exact r
 simp only[dq]at g b ⊢;exact⟨_,.str x,rfl,⟨_,b8 ..⟩,by simp[-b8,g,b,e],x,q,rfl⟩
theorem MK(s:List Int)(f:Int)(D:0≤f)(E:f < 900)(L:Lc)(A:L.length=14)(K:L[0]? = some (O (gn s)))(x:L[12]? = some (Y f))(S:az) :
  ∃l z H F:Int,bN (af 13) fm (cy (Ph (n+2) "_law_mix") (v2 (cy (Ph (n+2) "_law_cell_at") (v2 bM (ak qX (aH (ak mi kt) (vi 24))))) (ak (ak (vi 11) mi) kt))) (Ev.intsFrom 0 4) L S=some ([.int l,.int z,.int H,.int F],S):=by
 obtain⟨C,e,y,h⟩:=mY (Q:=fun v=>∃d:Int,v=.int d) (g:=af 13) (e:=cy (Ph (n+2) "_law_mix") (v2 (cy (Ph (n+2) "_law_cell_at") (v2 bM (ak qX (aH (ak mi kt) (vi 24))))) (ak (ak (vi 11) mi) kt))) (S:=S) (s:=Ev.intsFrom 0 4) (Inv:=fun m=>∃d,m=L.set 13 d) (L:=L) (fun v B m P=>by
  obtain⟨d,rfl⟩:=P;obtain⟨i,rfl,G⟩:=jq B;obtain⟨c,r,I,t,q⟩:=kL (n:=n) s (k:=5+(f+(0+(i:Int))) % 24) (p:=11+f+(0+(i:Int))) (by lia) (by lia) (by lia);have w:((L.set 13 d).set 13 (Y (0+(i:Int))))[13]? = some (Y (0+(i:Int))):=by rw[cc (by simp[A])]
  have u:((L.set 13 d).set 13 (Y (0+(i:Int))))[0]? = some (O (gn s)):=by rw[aG (by decide),aG (by decide)];exact K
  have j:((L.set 13 d).set 13 (Y (0+(i:Int))))[12]? = some (Y f):=by rw[aG (by decide),aG (by decide)];exact x
  simp only[dq]at w u j t q ⊢;exact⟨_,.int r,rfl,⟨_,b8 ..⟩,by simp[-b8,w,u,j,t,q],r,rfl⟩) ⟨L[13]'(by lia),(fR (by lia)).symm⟩
 rw[dj]at h;match C,h with
 | [a,b,c,d],_=>obtain⟨a,rfl⟩:=y a (by simp);obtain⟨b,rfl⟩:=y b (by simp);obtain⟨c,rfl⟩:=y c (by simp);obtain⟨d,rfl⟩:=y d (by simp);exact⟨a,b,c,d,e⟩
theorem Dt(C:List Int)(k:Nat)(hk:k≤3)(hnm:aq Q=true)(w:Nat)(hcr:1≤w/\w≤4)(wide:Bool)(hr:∀c ∈ l,isRoad c)(hrl:l.length≤8) :
  ∃v,isFam l v/\(∃tl,v=.tup (.str Q::.int (w:Int)::tl))/\dM (Ph (n+5) "_law_family") [gn C,.int (k:Int),.str Q,.int (w:Int),.bl wide,.lst l]=some v:=by
 obtain⟨z,t,hz0,hz1,M,ht1,ez,et⟩:∃z t:Int,0≤z/\z≤1/\0 < t/\t≤8/\dC [.bl wide]=some (.int z)/\L2.atI [P.int 3,.int 8] z=some (.int t):=by
  cases wide
  .exact⟨0,3,by decide,by decide,by decide,by decide,by simp[dC,lF],by simp⟩
  .exact⟨1,8,by decide,by decide,by decide,by decide,by simp[dC,lF],by simp⟩
 obtain⟨e,hcl,hc,ec⟩:=GL (n:=n) C (f:=(k:Int)) (m:=2+z) (by lia) (by lia) (by lia);obtain⟨c9,e91⟩:=wS (n:=n+2) C (k:=2+(k:Int)) (by lia);obtain⟨N,ha9,e92⟩:=wn (n:=n+2) c9 (p:=9) (by lia) (by lia);obtain⟨G,ha8,e82⟩:=wn (n:=n+2) c9 (p:=8) (by lia) (by lia);obtain⟨a7,ha7,e72⟩:=wn (n:=n+2) c9 (p:=7) (by lia) (by lia);have h9a:0≤N % t:=dr _ (by lia);have h9b:N % t < t:=dR _ M;have h7a:0≤a7 % t:=dr _ (by lia);have h7b:a7 % t < t:=dR _ M;have h8a:0≤G % (2+z):=dr _ (by lia);have h8b:G % (2+z) < 2+z:=dR _ (by lia);let A:List (Option D):=[O (gn C),Y (k:Int),qs Q,Y (w:Int),O (.bl wide),ql l]
 obtain⟨r,er,X,a⟩:=sE (n:=n+1) C 11 4 (A++[ql e,Y N,none,none,none,none,none]) (by simp[A]) rfl (by decide) (m:=(1+N % t).toNat) (by lia) [];obtain⟨u,ew,hw,hwl⟩:=sE (n:=n+1) C 11 10 (A++[ql e,Y G,ql r,none,none,none,none]) (by simp[A]) rfl (by decide) (m:=(G % (2+z)).toNat) (by lia) [];rw[dj]at a hwl;have W:r≠[]:=λq=>by rw[q]at a;simp at a;lia
 let F:Option D->Option D->Option D->Lc:=λR d y=>A++[ql e,R,ql r,ql u,qr 0,d,y]
 let Inv:Nat->Lc->az->Prop:=λi L S=>∃(H:List P)(R d y:Option D),H.length=i/\((∀c ∈ H,isStep Q r e u l c)/\∀k v,H[k]? = some v->hd (aX v)=some (105+k))/\L=F R d y/\S=[.lst (H.map .p)]
 obtain⟨L',S',e4,stp,R,d,y,I,⟨hst,Z⟩,rfl,rfl⟩:=cE (g:=af 11) (b:=gO (Ph (n+4))) (Inv:=Inv) (s:=Ev.intsFrom 0 (1+a7 % t).toNat) (k:=0) (L:=F (Y G) none none) (S:=[.lst []]) (fun i v L S B hI=>by
   obtain⟨rfl,hi⟩:=ints_get B;obtain⟨H,R,d,y,hc1,⟨ho,hon⟩,rfl,rfl⟩:=hI;simp only[dq];have m1:gJ 8 (k:Int)=true:=cL (by decide) (by lia);have m2:gJ 4 (8 * (k:Int)+(i:Int))=true:=cL (by decide) (by lia);obtain⟨d0,d1,d2,d3,ed⟩:=MK (n:=n+2) C (4 * (8 * (k:Int)+(i:Int))) (by lia) (by lia) (F R (Y (i:Int)) (Y (4 * (8 * (k:Int)+(i:Int))))++[none]) rfl rfl rfl [.lst (H.map .p)];obtain⟨x,hx,hxh,ex⟩:=re (n:=n+1) C (k:=8+i) (by lia);have ex:dM (Ph (n+4) "_law_name") [gn C,.int (8+(i:Int))]=some (.str x):=by rw[<- ex];rfl
   obtain⟨rm,wh,tk,K,sn,E,hys,es⟩:=Iq (n:=n) d0 d1 d2 d3 (s:=Q) X W hc (by lia) hw hr hrl;have V:H.length≤1000000:=by lia
   have T:lE (.tup [.str x]) (.tup [rm,wh,tk,.lst K,.lst sn,E])=some (.tup [.str x,rm,wh,tk,.lst K,.lst sn,E]):=rfl;refine⟨_,F (ql [.int d0,.int d1,.int d2,.int d3]) (Y (i:Int)) (Y (4 * (8 * (k:Int)+(i:Int)))),[.lst ((H++[P.tup [.str x,rm,wh,tk,.lst K,.lst sn,E]]).map D.p)],rfl,?_,_,_,_,_,by simp;lia,⟨eM ho ⟨x,rm,wh,tk,K,sn,E,hx,hys,rfl⟩,fun k v B=>by
    rcases A' k H.length with hk|hk
    .rw [bA hk]at B;exact hon k v B
    .rw [ce hk]at B;have hk0:k-H.length=0:=by
      rcases Bg (k-H.length) with h|h
      .exact h
      .rw [qM (by simp;lia)]at B;cases B
     rw[hk0]at B;cases B;show hd x=_;rw[hxh];congr 1;lia⟩,rfl,rfl⟩
   rw[<- d9];simp only[F,A,lS,cH]at ed;simp[gO,F,A,m1,m2,bE,dj,li,ed,ex,es,T,d8,V]) ⟨[],_,none,none,rfl,⟨λ_ h=>(by cases h),λ_ _ h=>(by simp at h)⟩,rfl,rfl⟩
 rw [dj] at I;refine⟨_,⟨Q,w,r,e,u,stp,⟨hnm,hcr,X,W,by lia,hc,by lia,hw,by lia,fun q=>by rw [q] at I;simp at I;lia,by lia,hst,qP.mpr fun i j hi hj hij q=>by
  have h1:=Z i _ (bj hi);have h2:=Z j _ (bj hj);rw[q,h2]at h1;have:=eP h1
  lia⟩,rfl⟩,⟨_,rfl⟩,?_⟩
 have hz2:0 < 2+z:=by lia
 have q1:(1+N % t).natAbs < 1000000:=by lia
 have q2:(1+a7 % t).natAbs < 1000000:=by lia
 have q3:(G % (2+z)).natAbs < 1000000:=by lia
 have q4:(1+N % t).toNat≤1000000:=by lia
 have q5:(G % (2+z)).toNat≤1000000:=by lia
 rw[sX,aJ];simp only[F,A,lS,cH]at e4 er ew;simp only[show((4:Nat):Int)=4 from rfl]at er;simp only[show((10:Nat):Int)=10 from rfl]at ew;simp[lJ,ez,et,ec,e91,e92,e82,e72,M,hz2,q1,q2,q3,q4,q5,bE,dj,li,er,ew,e4]
theorem xF(c:List Int)(j:Nat)(L:Lc)(o:j < L.length)(H:L[0]? = some (O (gn c)))(b:0≠j)(K:m≤16)(S:az) :
  ∃q,bN (af j) fm (cy (Ph (n+3) "_law_name") (v2 bM (vv j))) (Ev.intsFrom 0 m) L S=some (q,S)/\(∀y ∈ q,kG y)/\(∀(i:Nat) y,q[i]? = some y->∃x,y=.str x/\hd x=some (97+i))/\q.length=(Ev.intsFrom 0 m).length:=by
 let f:P->P:=λv=>(dM (Ph (n+3) "_law_name") [gn c,v]).getD .non
 have w:∀i,i < m->∃x,aq x=true/\hd x=some (97+i)/\dM (Ph (n+3) "_law_name") [gn c,.int (i:Int)]=some (.str x)/\f (.int (i:Int))=.str x:=λi e=>by obtain⟨x,t,u,r⟩:=re (n:=n) c (k:=i) (by lia);exact⟨x,t,u,r,by simp[f,r]⟩
 refine⟨(Ev.intsFrom 0 m).map f,?_,λy a=>?_,λi y a=>?_,by simp⟩
 .rw [bW (p:=λ_=>true) (f:=f) (Inv:=λg=>∃d,g=L.set j d) (λv h g F=>?_) ⟨L[j],(fR o).symm⟩,qK.mpr λ_ _=>rfl];obtain⟨d,rfl⟩:=F;obtain⟨i,rfl,e⟩:=jq h;obtain⟨x,t,_,r,s⟩:=w i e;have l:((L.set j d).set j (Y (0+(i:Int))))[j]? = some (Y (0+(i:Int))):=by
   rw[cc (by simpa using o)]
  have z:((L.set j d).set j (Y (0+(i:Int))))[0]? = some (O (gn c)):=by rw[aG (aQ b),aG (aQ b)];exact H
  simp only[dq]at l z ⊢;exact⟨_,rfl,⟨_,b8 ..⟩,rfl,λ_=>by rw[s];simp[-b8,l,z,r]⟩
 .obtain⟨v,h,rfl⟩:=aM.mp a;obtain⟨i,rfl,e⟩:=jq h;obtain⟨x,t,_,_,s⟩:=w i e;rw[dq,s];exact⟨x,t,rfl⟩
 .rw [dW]at a;cases h:(Ev.intsFrom 0 m)[i]? with
  |none=>rw[h]at a;cases a
  |some v=>rw[h]at a;cases a;obtain⟨rfl,e⟩:=ints_get h;obtain⟨x,_,u,_,s⟩:=w i e;exact⟨x,by rw[dq,s],u⟩
noncomputable def iJ:P->Nat
 | .tup (_::.int c::_)=>c.toNat
 |_=>0
def Ms(v:P):Prop:=∃(k f s:Str),(k="weak"\/k="strong")/\aq f=true/\aq s=true/\v=.tup [.str k,.str f,.str s]
structure Pln(fams roads wishes:List P):Prop where
 hf:∀f ∈ fams,isFam roads f
 cr:∃c,(∀f ∈ fams,iJ f≤c)/\fams.length * c≤4
 f0:1≤fams.length/\fams.length≤4
 hr:∀r ∈ roads,isRoad r
 ra:∀r ∈ roads,(∃f ∈ fams,aX f=rA r)/\∃f ∈ fams,aX f=rB r
 rl:roads.length≤8
 hw:∀w ∈ wishes,Ms w
 wl:wishes.length≤6
 rd:roads.Pairwise RD
 fd:∀f ∈ fams,∀g ∈ fams,aX f=aX g->f=g
theorem JK(f:h->x)(o:List h)(i:Int):L2.atI (o.map f) i=(L2.atI o i).map f:=by
 unfold L2.atI;rw[aR];cases L2.B9 o.length i with
 |none=>rfl
 |some j=>simp
theorem IQ(M:List Int):∃s d u,Pln s d u/\dM (Ph (n+6) "_law_plan") [gn M,.int 3]=some (.tup [.lst s,.lst d,.lst u]):=by
 obtain⟨w,e0⟩:=wS (n:=n+3) M (k:=0) (by lia);generalize hwd:decide (w / 64 % 8=1)=wide;obtain⟨z,t,hz0,hz1,ht0,ht1,ez,et⟩:∃z t:Int,0≤z/\z≤1/\0 < t/\t≤4/\dC [.bl wide]=some (.int z)/\L2.atI [P.int 2,.int 4] z=some (.int t):=by
  cases wide
  .exact⟨0,2,by decide,by decide,by decide,by decide,by simp[dC,lF],by simp⟩
  .exact⟨1,4,by decide,by decide,by decide,by decide,by simp[dC,lF],by simp⟩
 have hm0:0≤w % t:=dr _ (by lia);have hm1:w % t < t:=dR _ ht0;obtain⟨m,hm⟩:∃m:Nat,1+w % t=(m:Int):=⟨(1+w % t).toNat,by lia⟩;have hm2:1≤m/\m≤4:=by lia
 obtain⟨p,en,hnm,G,hnl⟩:=xF (n:=n+2) M 8 [O (gn M),Y 3,Y w,O (.bl wide),Y (m:Int),none,none,none,none,none,none] (by simp) rfl (by decide) (m:=m) (by lia) [];rw [dj] at hnl;obtain⟨d,⟨hrl,hr,hrd⟩,er⟩:=E6 (n:=n+2) M hnm (fun i j x A C=>by
  obtain⟨a,rfl,Q⟩:=G i _ A;obtain⟨b,e,hb⟩:=G j _ C;cases e;rw[Q]at hb;have:=eP hb
  lia) (by lia) (m:=2+z) (by lia) (by lia)
 obtain⟨b,R,hb1,hbm,eb⟩:∃b:Int,0 < b/\b≤4/\m * b.toNat≤4/\L2.atI [P.int (3+z),.int 2,.int 1,.int 1] ((m:Int)-1)=some (.int b):=by
  have:m=1\/m=2\/m=3\/m=4:=by lia
  rcases this with rfl|rfl|rfl|rfl
  .exact⟨3+z,by lia,by lia,by lia,by simp⟩
  .exact⟨2,by decide,by decide,by decide,by simp⟩
  .exact⟨1,by decide,by decide,by decide,by simp⟩
  .exact⟨1,by decide,by decide,by decide,by simp⟩
 let F:Option D->Option D->Option D->Lc:=λq8 q9 K=>[O (gn M),Y 3,Y w,O (.bl wide),Y (m:Int),ql p,ql d,qr 0,q8,q9,K]
 let Inv:Nat->Lc->az->Prop:=λi L S=>∃(N:List P)(q8 q9 K:Option D),N.length=i/\(∀c ∈ N,isFam d c/\iJ c≤b.toNat)/\(∀j x,p[j]? = some x->j < i->∃f,N[j]? = some f/\x=.str (aX f))/\L=F q8 q9 K/\S=[.lst (N.map .p)]
 obtain⟨L',S',e1,s,q8,q9,K,hfl,T,W,rfl,rfl⟩:=cE (g:=aP [af 8,af 9]) (b:=iN (Ph (n+5))) (Inv:=Inv) (s:=bJ 0 p) (k:=0) (L:=F none none none) (S:=[.lst []]) (fun i v L S hv hI=>by
   obtain⟨x,I,rfl⟩:=fL hv;have hi:=bF I;obtain⟨nm,hnm1,rfl⟩:=hnm x (aZ I);obtain⟨N,q8,q9,K,hc,ho,hon,rfl,rfl⟩:=hI;obtain⟨a,Q,ea⟩:∃a:Int,(0 < a/\a < 1152921504606846976)/\L2.atI [P.int 4,.int 12,.int 16,.int 16] (i:Int)=some (.int a):=by
    have:i=0\/i=1\/i=2\/i=3:=by lia
    rcases this with rfl|rfl|rfl|rfl
    .exact⟨4,by decide,by simp⟩
    .exact⟨12,by decide,by simp⟩
    .exact⟨16,by decide,by simp⟩
    .exact⟨16,by decide,by simp⟩
   have hb2:0≤w / a % b:=dr _ (by lia);have hb3:w / a % b < b:=dR _ R;obtain⟨cr,hcr⟩:∃cr:Nat,1+w / a % b=(cr:Int):=⟨(1+w / a % b).toNat,by lia⟩;obtain⟨v,hv2,⟨tl,hv3⟩,ev⟩:=Dt (n:=n) M i (by lia) hnm1 cr (by lia) wide (λr h=>(hr r h).1) hrl;have Z:N.length≤1000000:=by lia
   refine⟨_,F (Y (i:Int)) (qs nm) (Y (cr:Int)),[.lst ((N++[v]).map D.p)],rfl,?_,_,_,_,_,by simp;lia,eM ho ⟨hv2,?_⟩,λj x X hji=>?_,rfl,rfl⟩
   .rw [<- d9];simp[iN,F,ea,Q,ez,eb,R,hcr,ev,d8,Z]
   .rw [hv3];simp[iJ];lia
   .by_cases hjj:j < i
    .obtain⟨f,H,e⟩:=hon j x X (by lia);exact⟨f,by rw[bA (bF H)];exact H,e⟩
    .have:j=i:=by lia
     subst this;rw[I]at X;cases X;exact⟨v,by rw[ce (by lia),hc];simp,by rw[hv3];rfl⟩) ⟨[],none,none,none,rfl,λ_ h=>(by cases h),λ_ _ _ h=>(by lia),rfl,rfl⟩
 have E:s.length=m:=by rw[hfl,dD,hnl];lia
 have hf0:s≠[]:=λq=>by rw[q]at E;simp at E;lia
 have B:∀x ∈ p,∃f ∈ s,x=.str (aX f):=λx hx=>by obtain⟨j,X,e⟩:=h_.mp hx;obtain⟨f,H,e⟩:=W j x (by rw[bj X,e]) (by rw[dD];lia);exact⟨f,aZ H,e⟩
 have V:∀f ∈ s,∃a:Nat,s[a]? = some f/\hd (aX f)=some (97+a):=λf H=>by obtain⟨a,Q,e⟩:=h_.mp H;have A:=bj Q;rw[e]at A;have C:=bj (l:=p) (i:=a) (by lia);obtain⟨g,hg,e2⟩:=W a _ C (by rw[dD];lia);rw[A]at hg;cases hg;obtain⟨y,e3,hy⟩:=G a _ C;rw[e2]at e3;cases e3;exact⟨a,A,hy⟩
 refine⟨s,d,[],⟨λf h=>(T f h).1,⟨b.toNat,λf h=>(T f h).2,by rw[E];exact hbm⟩,by lia,λr h=>(hr r h).1,λr h=>⟨?_,?_⟩,hrl,λ_ h=>(by cases h),by simp,hrd,λf H g hg q=>?_⟩,?_⟩
 .obtain⟨f,H,e⟩:=B _ (hr r h).2.1;exact⟨f,H,(P.str.inj e).symm⟩
 .obtain⟨f,H,e⟩:=B _ (hr r h).2.2;exact⟨f,H,(P.str.inj e).symm⟩
 .obtain⟨a,A,C⟩:=V f H;obtain⟨a',h3,h4⟩:=V g hg;rw[q,h4]at C;have:=eP C
  rw[show a=a' by lia,h3]at A;exact(eP A).symm
 have q3:m < 1000000:=by lia
 have q4:m≤1000000:=by lia
 have t0:toP 9 (.ref 0) [.lst (s.map .p)]=some (.lst s,[.fz (.lst s)]):=eS rfl;rw[wH,aJ];simp only[F]at e1;simp[oB,e0,hwd,ez,et,ht0,hm,q3,q4,bE,dj,li,en,er,e1,t0]
end My
set_option tactic.hygienic true
namespace My
open PySem L2 Ev
section
variable{m:List P}
def hw:Nat->List P->List (Nat×P)
 |_,[]=>[]
 |k,f::r=>List.replicate (iJ f) (k,f)++hw (k+1) r
theorem isFam.crew{f:P}(h:isFam m f):iJ f≤4:=by obtain⟨n,c,r,e,w,s,x,rfl⟩:=h;simpa[iJ] using x.hcr.2
theorem zb:∀{a:List P}(k:Nat),(∀f ∈ a,isFam m f)->(hw k a).length≤4 * a.length
 | [],k,_=>by simp[hw]
 |f::r,k,h=>by have:=zb (a:=r) (k+1) λx e=>h x (ao _ e);have c:=(h f ar).crew;simp[hw];lia
theorem o4:∀{a:List P}{k:Nat}{x:Nat×P},x ∈ hw k a->∃j,x.1=k+j/\a[j]? = some x.2
 | [],k,x,h=>by simp[hw]at h
 |f::r,k,x,h=>by
  unfold hw at h;rcases b9.mp h with h|h
  .obtain⟨_,rfl⟩:=qJ.mp h;exact⟨0,by simp,by simp⟩
  .obtain⟨j,s,e⟩:=o4 h;exact⟨j+1,by lia,by simpa using e⟩
def homes(f:List P):List P:=(hw 0 f).map λx=>.int (x.1:Int)
def aN(f:List P):List P:=(hw 0 f).map (·.2)
theorem gS(S:az)(x:SO):(S++[x])[S.length]? = some x:=by simp
theorem j6(k:Nat):((k+1:Nat):Int)=(k:Int)+1:=by lia
theorem Cf(y K:Str->GF)(S:az)(d:P):∀(n:List P)(k:Nat)(a:List P)(g i:Option D),(∀f ∈ n,isFam m f)->a.length+4 * n.length≤1000 ->
  ∃q t,bb (aP [af 2,af 3]) (gf y) (bJ (k:Int) n) [O d,qr S.length,g,i] (S++[.lst (a.map .p)])=some (.nx,[O d,qr S.length,q,t],S++[.lst ((a++(hw k n).map λx=>P.int (x.1:Int)).map .p)])
 | [],k,a,g,i,_,_=>⟨g,i,by simp[bJ,bb,hw]⟩
 |f::r,k,a,g,i,h,H=>by
  obtain⟨u,c,o,l,w,s,z,rfl⟩:=h f ar;have A:=z.hcr.2;simp only[aV]at H;obtain⟨q,t,e⟩:=Cf y K S d r (k+1) (a++List.replicate c (P.int (k:Int))) (Y (k:Int)) (qt [.str u,.int (c:Int),.lst o,.lst l,.lst w,.lst s]) (λx F=>h x (ao _ F)) (by simp;lia);refine⟨q,t,?_⟩;have j:(hw k (.tup [.str u,.int (c:Int),.lst o,.lst l,.lst w,.lst s]::r)).map (λx=>P.int (x.1:Int))=List.replicate c (P.int (k:Int))++(hw (k+1) r).map (λx=>P.int (x.1:Int)):=by simp[hw,iJ]
  rw[j,<- cR];unfold bJ;rw[j6]at e;refine(bo (h:=[O d,qr S.length,Y (k:Int),qt [.str u,.int (c:Int),.lst o,.lst l,.lst w,.lst s]]) (L2:=[O d,qr S.length,Y (k:Int),qt [.str u,.int (c:Int),.lst o,.lst l,.lst w,.lst s]]) (x:=S++[.lst ((a++List.replicate c (P.int (k:Int))).map .p)]) rfl ?_).trans e;have v:c≤1000000:=by lia
  have p:c < 1000000:=by lia
  have b:a.length+c≤1000000:=by lia
  simp[gf,d8,v,p,b]
theorem Kn{n:Nat}{a:List P}(h:∀f ∈ a,isFam m f)(l:a.length≤4)(r w:P)(S:az):Ph (n+2) "families_of" [.p (.tup [.lst a,r,w])] S=some (.ref S.length,S++[.lst ((homes a).map .p)]):=by obtain⟨q,s,e⟩:=Cf (Ph (n+1)) (Ph n) S (.tup [.lst a,r,w]) a 0 [] none none h (by simp;lia);rw[pX];simp only[cH,eE]at e;have x:=e;rw[show((0:Nat):Int)=0 from rfl]at x;simp[jS,k9,x,homes]
theorem Ce{n:Nat}{a:List P}(h:∀f ∈ a,isFam m f)(l:a.length≤4)(r w:P):dM (Ph (n+2) "families_of") [.tup [.lst a,r,w]]=some (.lst (homes a)):=by unfold dM;rw[aE,eE,Kn (n:=n) h l r w []];simp
def aC(f:List P):LS:=(aN f).map aX
theorem iw{a:List P}(h:∀f ∈ a,isFam m f){f:P}(s:f ∈ aN a):isFam m f:=by unfold aN at s;obtain⟨x,n,rfl⟩:=aM.mp s;obtain⟨j,_,e⟩:=o4 n;exact h _ (aZ e)
noncomputable def bQ(N:LS)(s:Str):List Nat:=(List.range N.length).filter λi=>decide (N[i]? = some s)
theorem Co:∀(s:List P)(k:Nat),bJ (k:Int) s=(AF k s.length).map λi=>.tup [.int (i:Int),(s[i-k]?).getD .non]
 | [],k=>rfl
 |x::r,k=>by
  unfold bJ;have h:=Co r (k+1);rw[j6]at h;rw[h,aV,vk,aE];simp only[Nat.sub_self];congr 1;refine AW λi a=>?_
  have:=(List.mem_range'_1.mp a).1;rw[show i-k=(i-(k+1))+1 by lia,A0]
theorem Cp(x:List P):bJ 0 x=(List.range x.length).map λi=>.tup [.int (i:Int),(x[i]?).getD .non]:=by have:=Co x 0;rw[List.range_eq_range'];simpa using this
noncomputable def pr(road:P)(n o:Nat):P:=.tup [road,.int (n:Int),.int (o:Int)]
def yk(N:LS)(road:P):List P:=(bQ N (rA road)).flatMap λn=>((bQ N (rB road)).filter λo=>!decide (n=o)).map λo=>pr road n o
def bt(N:LS)(r:List P):List P:=r.flatMap (yk N)
noncomputable def bu(s:List Nat):List P:=s.map λ(i:Nat)=>P.int (i:Int)
theorem dE(N:LS)(s:Str):(bQ N s).length≤N.length:=by unfold bQ;exact aF (ib _ _) (by simp)
theorem vW(n:Nat)(road:P)(os:List Nat):((os.filter λo=>!decide (n=o)).map λo=>pr road n o).length≤os.length:=by rw[aR];exact ib _ _
theorem wc(N:LS)(road:P)(os:List Nat)(h:os.length≤16):∀(s:List Nat),(s.flatMap λn=>(os.filter λo=>!decide (n=o)).map λo=>pr road n o).length≤16 * s.length
 | []=>by simp
 |i::s=>by
  have:=wc N road os h s;have:=vW i road os
  simp only[dU,bg,aV];lia
theorem Cc{c:Nat}:∀{a:List P}(k:Nat),(∀f ∈ a,iJ f≤c)->(hw k a).length≤a.length * c
 | [],k,_=>by simp[hw]
 |f::r,k,h=>by have:=Cc (a:=r) (k+1) λx e=>h x (ao _ e);have s:=h f ar;simp[hw,Nat.add_mul];lia
theorem jb{f r w:List P}(h:Pln f r w):(aN f).length≤4:=by
 obtain⟨c,x,a⟩:=h.cr;have:=Cc 0 x
 unfold aN;simp;lia
theorem kI{f r w:List P}(h:Pln f r w):(aC f).length≤4:=by unfold aC;rw[aR];exact jb h
end
end My
namespace My
open PySem L2 Ev
section
variable{m:List P}
theorem Gd{a:List P}{v:P}(h:v ∈ homes a):∃p f,v=.int ((p:Nat):Int)/\a[p]? = some f/\f ∈ aN a:=by unfold homes at h;obtain⟨x,e,rfl⟩:=aM.mp h;obtain⟨j,s,n⟩:=o4 e;exact⟨x.1,x.2,rfl,by rw[s,dX];exact n,aM.mpr ⟨x,e,rfl⟩⟩
theorem Dl{a:List P}{g:P->P}{f:P->P}(h:∀p x,a[p]? = some x->g (.int ((p:Nat):Int))=f x):(homes a).map g=(aN a).map f:=by
 unfold homes aN;rw[gC,gC];refine AW λx n=>?_
 obtain⟨j,e,s⟩:=o4 n;exact h x.1 x.2 (by rw[e,dX];exact s)
theorem ff{h:Type}(x:List h):x.filter (λ_=>true)=x:=qK.mpr λ_ _=>rfl
theorem o5{f:List P}:(homes f).length=(aN f).length:=by simp[homes,aN]
theorem ba{a:Type}{s:List a}{p:Nat}{x:a}(h:s[p]? = some x):L2.atI s ((p:Nat):Int)=some x:=b6 (by lia) (by simpa using h)
theorem Fg{a:List P}(b:∀f ∈ a,isFam m f)(r w:P)(S:az):bN (af 7) fm (ab (ab (ab bM cI) iC) cI) (homes a) [qt [.lst a,r,w],none,none,none,none,none,none,none] S=some ((aC a).map .str,S):=by
 rw[bW (p:=λ_=>true) (f:=λv=>match v with | .int i=>(match a[i.toNat]? with|some f=>.str (aX f)|none=>.non)|_=>.non) (Inv:=λL=>∃d,L=[qt [.lst a,r,w],none,none,none,none,none,none,d]) (λv q L k=>?_) ⟨none,rfl⟩]
 .rw [ff,Dl (f:=λf=>.str (aX f)) λp x u=>by simp[u]];simp[aC]
 .obtain⟨d,rfl⟩:=k;obtain⟨p,f,rfl,hp,h⟩:=Gd q;obtain⟨g,c,o,l,n,s,t,rfl⟩:=iw b h;have e:=ba hp;exact⟨[qt [.lst a,r,w],none,none,none,none,none,none,Y (p:Int)],rfl,⟨_,rfl⟩,rfl,λ_=>by simp[e,hp,aX]⟩
def oth(N:LS)(s:Str)(n:Nat):List Nat:=(bQ N s).filter λo=>!decide (n=o)
theorem C4(N:LS)(a b:Str)(k:P)(c:Int)(x s:Bool)(l r:D)(o:Nat)(q n:Option D)(S:az):bN (af 7) (kc (cU yF lZ) (aS (U (ab cP iC)) (U (ab dF bX)))) iC (Ev.intsFrom 0 N.length)
  [some l,ql (N.map .str),some r,qt [.str a,.str b,k,.int c,.bl x,.bl s],Y (o:Int),q,n,none] S=some (bu (oth N b o),S):=by
 rw[bW (p:=λv=>match v with | .int i=>(!decide (o=i.toNat)) && decide (N[i.toNat]? = some b)|_=>false) (f:=id) (Inv:=λL=>∃d,L=[some l,ql (N.map .str),some r,qt [.str a,.str b,k,.int c,.bl x,.bl s],Y (o:Int),q,n,d]) (λv j L w=>?_) ⟨none,rfl⟩]
 .congr 2;unfold Ev.intsFrom bu oth bQ;rw[km,nv,AR];simp only[dq];congr 1
 .obtain⟨d,rfl⟩:=w;obtain⟨i,rfl,u⟩:=jq j;simp only[dq];have g:N[i]? = some N[i]:=bj u;have e:L2.atI (N.map P.str) (i:Int)=some (.str N[i]):=ba (by rw[dW,g];rfl);refine⟨[some l,ql (N.map .str),some r,qt [.str a,.str b,k,.int c,.bl x,.bl s],Y (o:Int),q,n,Y (i:Int)],rfl,⟨_,rfl⟩,?_,λ_=>by simp⟩;by_cases h:o=i
  .simp [h]
  .have m:¬(i:Int)=(o:Int):=by lia
   have t:¬i=o:=λz=>h z.symm;simp[h,m,t,e,g];first|done|exact decide_eq_decide.mpr Iff.rfl
theorem IK(road:P)(n:Nat)(L:Lc)(l:L.length=8)(g:L[3]? = some (O road))(x:L[4]? = some (Y (n:Int)))(os:List Nat)(S:az):bN (af 7) fm (aI (v3 dF gX iC)) (bu os) L S=some (os.map λo=>pr road n o,S):=by
 rw[bW (p:=λ_=>true) (f:=λv=>.tup [road,.int (n:Int),v]) (Inv:=λh=>∃d,h=L.set 7 d) (λv b h a=>?_) ⟨L[7],(fR (by lia)).symm⟩]
 .rw [ff];unfold bu pr;rw[gC];rfl
 .obtain⟨d,rfl⟩:=a;have k:((L.set 7 d).set 7 (O v))[7]? = some (O v):=by rw[cc (by simp[l])]
  have e:((L.set 7 d).set 7 (O v))[3]? = some (O road):=by rw[aG (by decide),aG (by decide)];exact g
  have s:((L.set 7 d).set 7 (O v))[4]? = some (Y (n:Int)):=by rw[aG (by decide),aG (by decide)];exact x
  exact⟨_,rfl,⟨_,b8 ..⟩,rfl,λ_=>by simp[-b8,k,e,s]⟩
def pA(N:LS)(road:P)(n:Nat):List P:=if decide (N[n]? = some (rA road))=true then (oth N (rB road) n).map λo=>pr road n o else []
theorem C8(N:LS)(road:P)(o:Nat)(h:N.length≤16):(pA N road o).length≤16:=by
 unfold pA;split
 .have x:=vW o road (bQ N (rB road));have a:=dE N (rB road);unfold oth;lia
 .simp
theorem Ro(E Q:Str->GF)(S:az)(l:D)(N:LS)(y:N.length≤16){road:P}(v:isRoad road):∀(r:List Nat)(x:List P)(d w k:Option D),(∀i ∈ r,i < N.length)->x.length+16 * r.length≤50000 ->
  ∃q s n,bb (aP [af 4,af 5]) (f6 E) (r.map λ(i:Nat)=>P.tup [.int (i:Int),((N.map P.str)[i]?).getD .non]) [some l,ql (N.map .str),qr S.length,O road,d,w,k] (S++[.lst (x.map .p)]) =
   some (.nx,[some l,ql (N.map .str),qr S.length,O road,q,s,n],S++[.lst ((x++r.flatMap (pA N road)).map .p)])
 | [],x,d,w,k,_,_=>⟨d,w,k,by simp[bb]⟩
 |i::r,x,d,w,k,F,V=>by
  simp only[aV]at V;have t:=C8 N road i y;have K:=F i ar;have z:N[i]? = some N[i]:=bj K;have H:((N.map P.str)[i]?).getD .non=.str N[i]:=by rw[dW,z];rfl
  rw[dU,<- cR,aE,H];by_cases h:N[i]=rA road
  .have g:pA N road i=(oth N (rB road) i).map λo=>pr road i o:=by unfold pA;rw[z,h];simp
   rw[g]at t ⊢;obtain⟨q,s,n,e⟩:=Ro E Q S l N y v r (x++(oth N (rB road) i).map λo=>pr road i o) (Y (i:Int)) (qs (N[i])) (ql (bu (oth N (rB road) i))) (λj A=>F j (ao _ A)) (by rw[bg];lia);refine⟨q,s,n,?_⟩;refine(bo (h:=[some l,ql (N.map .str),qr S.length,O road,Y (i:Int),qs (N[i]),k]) rfl ?_).trans e;have p:x.length+(oth N (rB road) i).length≤1000000:=by rw[aR]at t;lia
   have f:(oth N (rB road) i).length≤1000000:=by lia
   have m:(bu (oth N (rB road) i)).length=(oth N (rB road) i).length:=by simp[bu]
   have W:N.length < 1000000:=by lia
   have C:N.length≤1000000:=by lia
   have u:=IK road i [some l,ql (N.map .str),qr S.length,O road,Y (i:Int),qs (N[i]),ql (bu (oth N (rB road) i)),none] rfl rfl rfl (oth N (rB road) i) (S++[.lst (x.map .p)]);obtain⟨a,b,M,c,G,I,R,T,B,_,_,rfl⟩:=v;have L:=C4 N a b (.str M) c G I l (.ref S.length) i (qs (N[i])) k (S++[.lst (x.map .p)]);simp only[rA,rB]at h p f m u ⊢;simp[f6,h,bE,dQ,eX,W,C,dj,li,d8,m,f,p];simp[h]at L u;simp[L,u,m,f,p]
  .have g:pA N road i=[]:=by unfold pA;rw[z];simp[h]
   rw[g,eQ];obtain⟨q,s,n,e⟩:=Ro E Q S l N y v r x (Y (i:Int)) (qs (N[i])) k (λj A=>F j (ao _ A)) (by lia);refine⟨q,s,n,?_⟩;refine(bo (h:=[some l,ql (N.map .str),qr S.length,O road,Y (i:Int),qs (N[i]),k]) rfl ?_).trans e;obtain⟨a,b,M,c,G,I,R,T,B,_,_,rfl⟩:=v;simp only[rA]at h;simp[f6,h]
end
end My
namespace My
open PySem L2 Ev
section
variable{m:List P}
theorem jI{a e:Type}(p:a->Bool)(f:a->List e):∀s:List a,(s.filter p).flatMap f=s.flatMap λx=>if p x=true then f x else []
 | []=>rfl
 |x::r=>by
  by_cases h:p x=true
  .rw [qO h,dU,dU,jI p f r,aj h]
  .rw [qN h,dU,jI p f r,al h,cH]
theorem LC(N:LS)(road:P):(List.range N.length).flatMap (pA N road)=yk N road:=by unfold yk;rw[show bQ N (rA road)=(List.range N.length).filter (λi=>decide (N[i]? = some (rA road))) from rfl,jI];rfl
theorem oV(N:LS)(road:P)(h:N.length≤16):(yk N road).length≤256:=by
 have x:=dE N (rA road);have a:=dE N (rB road);have:=wc N road (bQ N (rB road)) (by lia) (bQ N (rA road))
 unfold yk;lia
theorem Sq(u l:Str->GF)(S:az)(p:D)(N:LS)(d:N.length≤16):∀(o:List P)(a:List P)(t q e n:Option D),(∀r ∈ o,isRoad r)->a.length+256 * o.length≤10000 ->
  ∃w x s k,bb (af 3) (k8 u) o [some p,ql (N.map .str),qr S.length,t,q,e,n] (S++[.lst (a.map .p)]) =
   some (.nx,[some p,ql (N.map .str),qr S.length,w,x,s,k],S++[.lst ((a++bt N o).map .p)])
 | [],a,t,q,e,n,_,_=>⟨t,q,e,n,by simp[bb,bt]⟩
 |road::o,a,t,q,e,n,j,H=>by simp only[aV]at H;obtain⟨x,s,k,v⟩:=Ro u l S p N d (j road ar) (List.range N.length) a q e n (λi z=>by simpa using z) (by simp;lia);have F:=oV N road d;obtain⟨f,b,c,m,y⟩:=Sq u l S p N d o (a++yk N road) (O road) x s k (λr h=>j r (ao _ h)) (by rw[bg];lia);refine⟨f,b,c,m,?_⟩;rw[show bt N (road::o)=yk N road++bt N o by simp[bt],<- cR];refine(bo (h:=[some p,ql (N.map .str),qr S.length,O road,q,e,n]) rfl ?_).trans y;rw[LC]at v;have g:=Cp (N.map P.str);rw[aR]at g;rw[<- g]at v;show bq _ _ _ _ _=_;simp only[bq];rw[show iD cP [some p,ql (N.map .str),qr S.length,O road,q,e,n] (S++[.lst (a.map .p)])=some (bJ 0 (N.map P.str),S++[.lst (a.map .p)]) by simp];exact v
theorem Ka{n:Nat}{f r w:List P}(h:Pln f r w)(S:az):Ph (n+3) "pairs_of" [.p (.tup [.lst f,.lst r,.lst w])] S=some (.ref S.length,S++[.lst ((bt (aC f) r).map .p)]):=by
 have:=h.rl;have x:=Ce (n:=n) h.hf h.f0.2 (.lst r) (.lst w);have a:=Fg h.hf (.lst r) (.lst w) S;obtain⟨q,s,k,b,e⟩:=Sq (Ph (n+2)) (Ph (n+1)) S (.p (.tup [.lst f,.lst r,.lst w])) (aC f) (aF (kI h) (by decide)) r [] none none none none h.hr (by simp;lia);have l:(homes f).length≤1000000:=by rw[o5];have:=jb h;lia
 rw[wE];simp only[cH,eE]at e;simp[jS,oz,x,bE,l,li,a,e]
theorem IM{n:Nat}{f r w:List P}(h:Pln f r w):dM (Ph (n+3) "pairs_of") [.tup [.lst f,.lst r,.lst w]]=some (.lst (bt (aC f) r)):=by unfold dM;rw[aE,eE,Ka (n:=n) h []];simp
def o6(v:P):P:=fV v 3
def iR(f:P):P:=.tup [.int 0,.tup ((mS (fV f 3)).map o6),.tup (List.replicate (mS (fV f 4)).length (.int (-1)))]
theorem Jr{e:List P}(k:∀c ∈ e,isCel c)(L:Lc)(j:Nat)(s:j < L.length)(S:az):bN (af j) fm (ab (vv j) gp) e L S=some (e.map o6,S):=by
 rw[bW (p:=λ_=>true) (f:=o6) (Inv:=λh=>∃d,h=L.set j d) (λv b h n=>?_) ⟨L[j],(fR s).symm⟩]
 .rw [ff]
 .obtain⟨d,rfl⟩:=n;obtain⟨x,lo,i,a,m,_,_,_,_,rfl⟩:=k v b;have g:((L.set j d).set j (qt [.str x,.int lo,.int i,.int a]))[j]? = some (qt [.str x,.int lo,.int i,.int a]):=by
   rw[cc (by simpa using s)]
  exact⟨_,rfl,⟨_,b8 ..⟩,rfl,λ_=>by simp[-b8,g,o6]⟩
theorem Hc(a b c d e f:P):L2.atI [a,b,c,d,e,f] 3=some d:=b6 (by decide) rfl
theorem Nu(a b c d e f:P):L2.atI [a,b,c,d,e,f] 4=some e:=b6 (by decide) rfl
theorem CG(K G:Str->GF){a:List P}(S:∀f ∈ a,isFam m f)(o i:P):∀(n:List (Nat×P))(h:List P)(u v d:Option D),(∀x ∈ n,a[x.1]? = some x.2)->h.length+n.length≤1000 ->
  ∃q b t,bb (af 2) (kU K) (n.map λx=>P.int (x.1:Int)) [qt [.lst a,o,i],qr 0,u,v,d] [.lst (h.map .p)] =
   some (.nx,[qt [.lst a,o,i],qr 0,q,b,t],[.lst ((h++n.map λx=>iR x.2).map .p)])
 | [],h,u,v,d,_,_=>⟨u,v,d,by simp[bb]⟩
 |x::n,h,u,v,d,F,C=>by
  simp only[aV]at C;obtain⟨p,f⟩:=x;have hp:a[p]? = some f:=F (p,f) ar;obtain⟨H,c,r,l,w,s,k,rfl⟩:=S f (aZ hp);have B:=ba hp;obtain⟨q,b,t,e⟩:=CG K G S o i n (h++[iR (.tup [.str H,.int (c:Int),.lst r,.lst l,.lst w,.lst s])]) (Y (p:Int)) (ql l) (ql w) (λy E=>F y (ao _ E)) (by simp;lia);refine⟨q,b,t,?_⟩;rw[aE,aE,show h++iR (.tup [.str H,.int (c:Int),.lst r,.lst l,.lst w,.lst s])::n.map (λx=>iR x.2)=h++[iR (.tup [.str H,.int (c:Int),.lst r,.lst l,.lst w,.lst s])]++n.map (λx=>iR x.2) by simp];refine(bo (h:=[qt [.lst a,o,i],qr 0,Y (p:Int),v,d]) rfl ?_).trans e;have A:=Jr k.hce.1 [qt [.lst a,o,i],qr 0,Y (p:Int),ql l,ql w,none] 5 (by simp) [.lst (h.map .p)];have j:l.length≤1000000:=by have:=k.cl;lia
  have z:w.length≤1000000/\w.length < 1000000:=by have:=k.wl;lia
  have g:h.length≤1000000:=by lia
  rw[<- d9];simp[kU,B,Hc,Nu,bE,j,li,A,bO,dQ,eX,z,d8,g,iR]
theorem GW{n:Nat}{f o w:List P}(h:Pln f o w):dM (Ph (n+4) "begin") [.tup [.lst f,.lst o,.lst w]]=some (.tup [.tup ((aN f).map iR),.tup (List.replicate (bt (aC f) o).length (.tup []))]):=by
 have b:=Ce (n:=n+1) h.hf h.f0.2 (.lst o) (.lst w);have a:=IM (n:=n) h;have t:=zb 0 h.hf;have l:=h.f0.2;obtain⟨g,y,z,e⟩:=CG (Ph (n+3)) (Ph (n+2)) h.hf (.lst o) (.lst w) (hw 0 f) [] none none none (λx v=>by obtain⟨j,a,c⟩:=o4 v;rw[a,dX];exact c) (by simp;lia);have q:(bt (aC f) o).length≤2048:=by
  have N:(aC f).length≤16:=aF (kI h) (by decide);have k:∀m:List P,(bt (aC f) m).length≤256 * m.length:=by
   intro m;induction m with
   |nil=>simp[bt]
   |cons r m u=>have:=oV (aC f) r N;rw[show bt (aC f) (r::m)=yk (aC f) r++bt (aC f) m by simp[bt],bg,aV];lia
  have:=k o;have:=h.rl
  lia
 have p:(bt (aC f) o).length≤1000000:=by lia
 have s:(bt (aC f) o).length < 1000000:=by lia
 rw[Dx,aJ];simp only[cH,eE]at e;rw[show(hw 0 f).map (λx=>P.int (x.1:Int))=homes f from rfl,show(hw 0 f).map (λx=>iR x.2)=(aN f).map iR by simp[aN]]at e;have i:∀vs:List P,toP 9 (.ref 0) [.lst (vs.map .p)]=some (.lst vs,[.fz (.lst vs)]):=EF;generalize (aN f).map iR=d at e ⊢;simp[uR,b,a,e,bO,dQ,eX,p,s]
end
end My
namespace My
open PySem L2 Ev
section
variable{m:List P}
theorem lA{a:List P}(h:∀f ∈ a,isFam m f)(l:a.length≤4):(aN a).length≤16:=by have:=zb 0 h;unfold aN;simp;lia
theorem B3(y A:Str->GF)(v:P):∀(s:List P)(k:Nat)(a:List P)(d:Option D),(∀f ∈ s,isFam m f)->a.length+4 * s.length≤1000 ->
  ∃q,bb (af 2) (fI y) s [O v,ql a,d] []=some (.nx,[O v,ql (a++(hw k s).map (·.2)),q],[])
 | [],k,a,d,_,_=>⟨d,by simp[bb,hw]⟩
 |f::r,k,a,d,h,H=>by
  obtain⟨K,c,o,l,w,t,z,rfl⟩:=h f ar;have B:=z.hcr.2;simp only[aV]at H;generalize j:P.tup [.str K,.int (c:Int),.lst o,.lst l,.lst w,.lst t]=F;have i:tG F (.int 1)=some (.int (c:Int)):=by rw[<- j];simp
  have u:iJ F=c:=by rw[<- j];simp[iJ]
  obtain⟨q,e⟩:=B3 y A v r (k+1) (a++List.replicate c F) (O F) (λx S=>h x (ao _ S)) (by simp;lia);refine⟨q,?_⟩;have g:(hw k (F::r)).map (·.2)=List.replicate c F++(hw (k+1) r).map (·.2):=by simp[hw,u]
  rw[g,<- cR];refine(bo (h:=[O v,ql a,O F]) (L2:=[O v,ql (a++List.replicate c F),O F]) (x:=[]) rfl ?_).trans e;have b:c≤1000000:=by lia
  have p:c < 1000000:=by lia
  have n:a.length+c≤1000000:=by lia
  simp[fI,i,b,p,n]
theorem nT{n:Nat}{a:List P}(h:∀f ∈ a,isFam m f)(l:a.length≤4)(r w:P):dM (Ph (n+2) "_law_families") [.tup [.lst a,r,w]]=some (.lst (aN a)):=by obtain⟨q,e⟩:=B3 (Ph (n+1)) (Ph n) (.tup [.lst a,r,w]) a 0 [] none h (by simp;lia);rw[o_,aJ];simp only[cH]at e;simp[j',e,aN]
theorem j4{n:Nat}{x:List P}(h:∀f ∈ x,isFam m f)(d:x.length≤4)(o k:P)(s:Str) :
  dM (Ph (n+3) "_law_crew") [.tup [.lst x,o,k],.str s]=some (.lst ((bQ (aC x) s).map λ(i:Nat)=>P.int (i:Int))):=by
 have g:=nT (n:=n) h d o k;have u:=lA h d;have j:bN (aP [af 2,af 3]) (aS (U (ab dF cI)) gq) dh (bJ 0 (aN x)) [qt [.lst x,o,k],qs s,none,none] [] =
   some (((bJ 0 (aN x)).filter λv=>match v with | .tup [_,f]=>decide (aX f=s)|_=>false).map (λv=>match v with | .tup [i,_]=>i|_=>.non),[]):=by
  refine bW (Inv:=λL=>∃a b,L=[qt [.lst x,o,k],qs s,a,b]) (λv F L y=>?_) ⟨none,none,rfl⟩;obtain⟨a,b,rfl⟩:=y;obtain⟨i,p,e⟩:=h_.mp F;obtain⟨f,z,rfl⟩:=fL (s:=aN x) (i:=i) (v:=v) (by rw[bj p,e]);obtain⟨K,c,r,l,w,t,H,rfl⟩:=iw h (aZ z);exact⟨[qt [.lst x,o,k],qs s,Y (i:Int),qt [.str K,.int (c:Int),.lst r,.lst l,.lst w,.lst t]],rfl,⟨_,_,rfl⟩,by simp[aX];first|done|exact decide_eq_decide.mpr Iff.rfl,λ_=>by simp⟩
 have S:(bJ 0 (aN x)).length≤1000000:=by rw[dD];lia
 rw[wJ,aJ];simp[oD,bE,g,S,li,j];rw[Cp];unfold bQ aC;rw[km,gC,aR];congr 1;refine nB λi p=>?_;have q:i < (aN x).length:=by simpa using p
 simp[q]
theorem RA(k f:Str->GF)(p road:P)(n:Nat):∀(os:List Nat)(a:List P)(x:Option D),a.length+os.length≤100000->∃q,bb (af 4) (fA k) (bu os) [O p,qr 0,O road,Y (n:Int),x] [.lst (a.map .p)] =
   some (.nx,[O p,qr 0,O road,Y (n:Int),q],[.lst ((a++(os.filter λo=>!decide (n=o)).map λo=>pr road n o).map .p)])
 | [],a,x,_=>⟨x,by simp[bu,bb]⟩
 |o::os,a,x,b=>by
  simp only[aV]at b;by_cases h:n=o
  .obtain⟨q,e⟩:=RA k f p road n os a (Y (o:Int)) (by lia);refine⟨q,?_⟩;have s:(o::os).filter (λo=>!decide (n=o))=os.filter λo=>!decide (n=o):=by simp[h]
   rw[s];refine(bo (h:=[O p,qr 0,O road,Y (n:Int),Y (o:Int)]) (L2:=[O p,qr 0,O road,Y (n:Int),Y (o:Int)]) (x:=[.lst (a.map .p)]) rfl ?_).trans e;simp[fA,h]
  .obtain⟨q,e⟩:=RA k f p road n os (a++[pr road n o]) (Y (o:Int)) (by simp;lia);refine⟨q,?_⟩;have s:((o::os).filter (λo=>!decide (n=o))).map (λo=>pr road n o)=pr road n o::(os.filter λo=>!decide (n=o)).map λo=>pr road n o:=by simp[h]
   rw[s,show a++pr road n o::(os.filter λo=>!decide (n=o)).map (λo=>pr road n o)=a++[pr road n o]++(os.filter λo=>!decide (n=o)).map (λo=>pr road n o) by simp];refine(bo (h:=[O p,qr 0,O road,Y (n:Int),Y (o:Int)]) (L2:=[O p,qr 0,O road,Y (n:Int),Y (o:Int)]) (x:=[.lst ((a++[pr road n o]).map .p)]) rfl ?_).trans e;have z:¬(n:Int)=(o:Int):=by lia
   have l:a.length≤1000000:=by lia
   rw[<- d9];simp[fA,h,z,d8,l,pr]
theorem Sv{n:Nat}{s:List P}(d:∀f ∈ s,isFam m f)(l:s.length≤4)(r w:P){road:P}(g:isRoad road):∀(k:List Nat)(h:List P)(v x:Option D),h.length+16 * k.length≤50000->∃q e,bb (af 3) (j_ (Ph (n+3))) (bu k) [qt [.lst s,r,w],qr 0,O road,v,x] [.lst (h.map .p)] =
   some (.nx,[qt [.lst s,r,w],qr 0,O road,q,e],[.lst ((h++k.flatMap λt=>((bQ (aC s) (rB road)).filter λo=>!decide (t=o)).map λo=>pr road t o).map .p)])
 | [],h,v,x,_=>⟨v,x,by simp[bu,bb]⟩
 |i::k,h,v,x,K=>by simp only[aV]at K;have S:(bQ (aC s) (rB road)).length≤16:=aF (dE _ _) (by unfold aC;rw[aR];exact lA d l);obtain⟨e,u⟩:=RA (Ph (n+3)) (Ph (n+2)) (.tup [.lst s,r,w]) road i (bQ (aC s) (rB road)) h x (by lia);have A:=vW i road (bQ (aC s) (rB road));obtain⟨q,p,z⟩:=Sv (n:=n) d l r w g k (h++((bQ (aC s) (rB road)).filter λo=>!decide (i=o)).map λo=>pr road i o) (Y (i:Int)) e (by rw[bg];lia);refine⟨q,p,?_⟩;rw[dU,<- cR];refine(bo (h:=[qt [.lst s,r,w],qr 0,O road,Y (i:Int),x]) rfl ?_).trans z;obtain⟨a,b,B,c,j,y,C,E,F,_,_,rfl⟩:=g;have H:=j4 (n:=n) d l r w b;simp only[rB]at u;show bq _ _ _ _ _=_;rw[bq];rw[show fG (cy (Ph (n+3) "_law_crew") (v2 bM (ab dh bX))) [qt [.lst s,r,w],qr 0,qt [.str a,.str b,.str B,.int c,.bl j,.bl y],Y (i:Int),x] [.lst (h.map .p)]=some (bu (bQ (aC s) b),[.lst (h.map .p)]) by simp[H,bu]];exact u
theorem Su{n:Nat}{s:List P}(i:∀f ∈ s,isFam m f)(l:s.length≤4)(p w:P):∀(o:List P)(x:List P)(j q k:Option D),(∀r ∈ o,isRoad r)->x.length+256 * o.length≤10000->∃z e t,bb (af 2) (j9 (Ph (n+3))) o [qt [.lst s,p,w],qr 0,j,q,k] [.lst (x.map .p)] =
   some (.nx,[qt [.lst s,p,w],qr 0,z,e,t],[.lst ((x++bt (aC s) o).map .p)])
 | [],x,j,q,k,_,_=>⟨j,q,k,by simp[bt,bb]⟩
 |road::o,x,j,q,k,S,G=>by
  simp only[aV]at G;have N:(aC s).length≤16:=by unfold aC;rw[aR];exact lA i l
  have C:(bQ (aC s) (rA road)).length≤16:=aF (dE _ _) N;have y:(bQ (aC s) (rB road)).length≤16:=aF (dE _ _) N;have v:=S road ar;obtain⟨e,t,H⟩:=Sv (n:=n) i l p w v (bQ (aC s) (rA road)) x q k (by lia);have I:(yk (aC s) road).length≤256:=by have:=wc (aC s) road _ y (bQ (aC s) (rA road));unfold yk;lia
  obtain⟨d,u,g,A⟩:=Su (n:=n) i l p w o (x++yk (aC s) road) (O road) e t (λr h=>S r (ao _ h)) (by rw[bg];lia);refine⟨d,u,g,?_⟩;rw[show bt (aC s) (road::o)=yk (aC s) road++bt (aC s) o by simp[bt],<- cR];refine(bo (h:=[qt [.lst s,p,w],qr 0,O road,q,k]) rfl ?_).trans A;obtain⟨a,b,L,c,F,K,M,Q,E,_,_,rfl⟩:=v;have B:=j4 (n:=n) i l p w a;simp only[rA]at H;show bq _ _ _ _ _=_;rw[bq];rw[show fG (cy (Ph (n+3) "_law_crew") (v2 bM (ab dh cI))) [qt [.lst s,p,w],qr 0,qt [.str a,.str b,.str L,.int c,.bl F,.bl K],q,k] [.lst (x.map .p)]=some (bu (bQ (aC s) a),[.lst (x.map .p)]) by simp[B,bu]];exact H
theorem rf{n:Nat}{f r w:List P}(h:Pln f r w):dM (Ph (n+4) "_law_pairs") [.tup [.lst f,.lst r,.lst w]]=some (.lst (bt (aC f) r)):=by have:=h.rl;obtain⟨q,x,a,e⟩:=Su (n:=n) h.hf h.f0.2 (.lst r) (.lst w) r [] none none none h.hr (by simp;lia);rw[tY,aJ];simp only[cH,eE]at e;simp[mJ,e]
end
end My
namespace My
open PySem L2 Ev
def lN(S:az)(j:Nat)(x:List P):Prop:=S[j]? = some (.lst (x.map .p))\/S[j]? = some (.fz (.lst x))
theorem FN{x y:List P}(h:x.map D.p=y.map D.p):x=y:=(AT (f:=D.p) λ_ _ h=>D.p.inj h).mp h
theorem lN.lt{S:az}{j:Nat}{x:List P}(h:lN S j x):j < S.length:=by rcases h with h|h<;>exact(bL.mp h).1
theorem lN.frz{S:az}{j:Nat}{x:List P}(h:lN S j x):toP 9 (.ref j) S=some (.lst x,S.set j (.fz (.lst x))):=by
 rcases h with h|h
 .exact eS h
 .have:S.set j (.fz (.lst x))=S:=by
   obtain⟨e,a⟩:=bL.mp h;rw[<- a,fR]
  rw[this];simp[toP,h]
theorem lN.ix{S:az}{j:Nat}{s:List P}(h:lN S j s){r:EE}{k:EV}{L:Lc}{i:Int}{x:P}(n:r L S=some (.ref j,S))(a:k L S=some (.int i,S))(e:L2.atI s i=some x):i_ r k L S=some (.p x,S):=by
 rw[i_,n,av,a,av];rcases h with h|h
 .simp only[h];rw[JK,e];rfl
 .simp only[h];show(L2.atI s i).map _=_;rw[e];rfl
theorem lN.len{S:az}{j:Nat}{x:List P}(h:lN S j x):dQ (.ref j) S=some x.length:=by rcases h with h|h<;>simp[dQ,h,eX]
structure Fr(b:Nat)(S S':az):Prop where
 len:S.length≤S'.length
 low:∀k o,k < b->S[k]? = some o->S'[k]? = some o\/∃xs,o=.lst (xs.map .p)/\S'[k]? = some (.fz (.lst xs))
 hi:∀k o,b≤k->S[k]? = some o->S'[k]? = some o
theorem Fr.refl(b:Nat)(S:az):Fr b S S:=⟨ah _,λ_ _ _ h=>.inl h,λ_ _ _ h=>h⟩
theorem Fr.trans{b:Nat}{S n a:az}(h:Fr b S n)(g:Fr b n a):Fr b S a:=by
 refine⟨aF h.len g.len,λk o x e=>?_,λk o x e=>g.hi k o x (h.hi k o x e)⟩;rcases h.low k o x e with s|⟨f,rfl,s⟩
 .exact g.low k o x s
 .rcases g.low k _ x s with s|⟨y,q,_⟩
  .exact .inr ⟨f,rfl,s⟩
  .cases q
theorem Fr.app(b:Nat)(S T:az):Fr b S (S++T):=by
 have y:∀k o,S[k]? = some o->(S++T)[k]? = some o:=λk o e=>by rw[bA (bF e)];exact e
 exact⟨by simp,λk o _ e=>.inl (y k o e),λk o _ e=>y k o e⟩
theorem Fr.set{b:Nat}{S a:az}(h:Fr b S a)(s:b≤S.length){k:Nat}(n:S.length≤k)(o:SO):Fr b S (a.set k o):=by
 refine⟨by rw[fq];exact h.len,λj u x e=>?_,λj u x e=>?_⟩
 .rw [aG (by lia)];exact h.low j u x e
 .have:=bF e;rw[aG (by lia)];exact h.hi j u x e
theorem Fr.frz{b:Nat}{S:az}{j:Nat}{x:List P}(s:j < b)(h:lN S j x):Fr b S (S.set j (.fz (.lst x))):=by
 refine⟨by simp,λk o a e=>?_,λk o a e=>?_⟩
 .by_cases q:j=k
  .subst q;rw[cc h.lt];rcases h with h|h<;>(rw[h]at e;cases e)
   .exact .inr ⟨x,rfl,rfl⟩
   .exact .inl rfl
  .rw [aG q];exact .inl e
 .rw [aG (by lia)];exact e
theorem Fr.trunc{b:Nat}{S a:az}(h:Fr b S a):Fr b S (trunc S.length a):=by
 unfold Ev.trunc;split
 .refine⟨by rw[hY];have:=h.len;lia,λk o x e=>?_,λk o x e=>?_⟩
  .rw [iW (bF e)];exact h.low k o x e
  .rw [iW (bF e)];exact h.hi k o x e
 .exact h
theorem lN.fr{b:Nat}{S a:az}(h:Fr b S a){j:Nat}{x:List P}(g:lN S j x):lN a j x:=by
 by_cases s:j < b
 .rcases g with g|g
  .rcases h.low j _ s g with e|⟨y,q,e⟩
   .exact .inl e
   .have:x=y:=FN (SO.lst.inj q);subst this;exact .inr e
  .rcases h.low j _ s g with e|⟨y,q,e⟩
   .exact .inr e
   .cases q
 .rcases g with g|g
  .exact .inl (h.hi j _ (by lia) g)
  .exact .inr (h.hi j _ (by lia) g)
def tB(S h:az)(d:D)(y:List P):Prop:=d=.p (.lst y)\/∃k,S.length≤k/\d=.ref k/\lN h k y
theorem tB.toP{b:Nat}{S a:az}{d:D}{y:List P}(h:tB S a d y)(f:Fr b S a)(e:b≤S.length):∃x,toP 9 d a=some (.lst y,x)/\Fr b S x:=by
 rcases h with rfl|⟨k,s,rfl,h⟩
 .exact⟨a,by simp,f⟩
 .exact⟨_,h.frz,f.set e s _⟩
theorem ti{b:Nat}{g:GF}{s:pP}{n:List D}{L:Lc}{S a:az}{d:D}{y:List P}(k:s L S=some (n,S))(m:g n S=some (d,a))(r:Fr b S a)(c:b≤S.length)(h:tB S a d y):∃x,cz g s L S=some (.lst y,x)/\Fr b S x:=by obtain⟨t,e,f⟩:=h.toP r c;exact⟨_,by rw[cz,k,av,m,av,e,av],f.trunc⟩
theorem Kt{b:Nat}{g:GF}{a:pP}{d:List D}{L:Lc}{S x:az}{v:P}(e:a L S=some (d,S))(s:g d S=some (.p v,x))(f:Fr b S x):∃h,cz g a L S=some (v,h)/\Fr b S h:=
 ⟨_,by rw[cz,e,av,s,av];rfl,f.trunc⟩
structure BD where
 fams:List P
 roads:List P
 wishes:List P
 ks:List (List bG)
 vs:List D
abbrev BP(B:BD):Prop:=Pln B.fams B.roads B.wishes
def BD.N(B:BD):LS:=aC B.fams
def BD.PR(B:BD):List P:=bt B.N B.roads
def fields:LS:=["families","homes","pairs","places","members"]
structure Bat(B:BD)(b i jh jp jl jm:Nat)(mk:List bG)(mv:List D)(S:az):Prop where
 ins:S[i]? = some (.ins "Board" fields [.p (.lst B.fams),.ref jh,.ref jp,.ref jl,.ref jm])
 ho:lN S jh (homes B.fams)
 pr:lN S jp B.PR
 pl:S[jl]? = some (.dtt B.ks B.vs)
 me:S[jm]? = some (.dct mk mv)
 mm:∀s ∈ B.N,∃j,j < b/\bx (.inr s) mk mv=qr j/\lN S j (bu (bQ B.N s))
 bi:i < b
 bh:jh < b
 bp:jp < b
 bl:jl < b
 bm:jm < b
 bs:b≤S.length
inductive Bd(B:BD)(b i:Nat)(S:az):Prop
 |mk (jh jp jl jm:Nat) (mk:List bG) (mv:List D):Bat B b i jh jp jl jm mk mv S->Bd B b i S
theorem Bat.fr{B:BD}{b i n c x a:Nat}{r:List bG}{t:List D}{S k:az}(h:Bat B b i n c x a r t S)(f:Fr b S k):Bat B b i n c x a r t k where
 ins:=by rcases f.low i _ h.bi h.ins with e|⟨_,q,_⟩;exact e;cases q
 ho:=h.ho.fr f
 pr:=h.pr.fr f
 pl:=by rcases f.low x _ h.bl h.pl with e|⟨_,q,_⟩;exact e;cases q
 me:=by rcases f.low a _ h.bm h.me with e|⟨_,q,_⟩;exact e;cases q
 mm:=λs d=>by obtain⟨j,m,p,v⟩:=h.mm s d;exact⟨j,m,p,v.fr f⟩
 bi:=h.bi
 bh:=h.bh
 bp:=h.bp
 bl:=h.bl
 bm:=h.bm
 bs:=aF h.bs f.len
theorem Bd.fr{B:BD}{b i:Nat}{S e:az}(h:Bd B b i S)(f:Fr b S e):Bd B b i e:=by obtain⟨n,c,x,a,r,t,h⟩:=h;exact⟨n,c,x,a,r,t,h.fr f⟩
theorem Bd.le{B:BD}{b i:Nat}{S:az}(h:Bd B b i S):b≤S.length:=by obtain⟨n,c,x,a,r,t,h⟩:=h;exact h.bs
section
variable{B:BD}{b i n c x a:Nat}{r:List bG}{t:List D}{S:az}{L:Lc}{o:EE}
theorem Bat.fld(h:Bat B b i n c x a r t S)(ho:o L S=some (.ref i,S)){f:Str}{d:D}(e:aT Att "Board" f=true)(s:jG f fields [.p (.lst B.fams),.ref n,.ref c,.ref x,.ref a]=some d):fh (aT Att) o f L S=some (d,S):=by rw[fh,ho,av];simp only[h.ins];rw[aj e,s];rfl
end
theorem mn:aT Att "Board" "families"=true/\aT Att "Board" "homes"=true/\aT Att "Board" "pairs"=true/\aT Att "Board" "places"=true/\aT Att "Board" "members"=true:=by decide +kernel
theorem Je{a b c d e:D}:jG "families" fields [a,b,c,d,e]=some a/\jG "homes" fields [a,b,c,d,e]=some b/\jG "pairs" fields [a,b,c,d,e]=some c/\jG "places" fields [a,b,c,d,e]=some d/\jG "members" fields [a,b,c,d,e]=some e:=by simp[fields,jG]
section
variable{B:BD}{b i n c x a:Nat}{r:List bG}{t:List D}{S:az}(h:Bat B b i n c x a r t S){L:Lc}{o:EE}(ho:o L S=some (.ref i,S))
include h ho
theorem Bat.families:fh (aT Att) o "families" L S=some (.p (.lst B.fams),S):=h.fld ho mn.1 Je.1
theorem Bat.homes:fh (aT Att) o "homes" L S=some (.ref n,S):=h.fld ho mn.2.1 Je.2.1
theorem Bat.pairs:fh (aT Att) o "pairs" L S=some (.ref c,S):=h.fld ho mn.2.2.1 Je.2.2.1
theorem Bat.places:fh (aT Att) o "places" L S=some (.ref x,S):=h.fld ho mn.2.2.2.1 Je.2.2.2.1
theorem Bat.members:fh (aT Att) o "members" L S=some (.ref a,S):=h.fld ho mn.2.2.2.2 Je.2.2.2.2
theorem Bat.meth{m:Str}{a:pP}{g:GF}{M:Str->Str->Option GF}{d:List D}(e:M "Board" m=some g)(n:fields.contains m=false)(x:a L S=some (d,S)):fg M o m a L S=g (.ref i::d) S:=by rw[fg,ho,av];simp only[h.ins,e,n,x,av];rfl
end
end My
namespace My
open PySem L2 Ev
theorem eN{s y:List P}(h:s.length+y.length≤1000000):lE (.tup s) (.tup y)=some (.tup (s++y)):=by
 cases s with
 |nil=>rfl
 |cons x r=>show(if (!(x::r).isEmpty && jt ((x::r).length+y.length))=true then some (P.tup ((x::r)++y)) else none)=_;rw[aj (by rw[aD,oo];exact⟨rfl,h⟩)]
theorem kM{x:List P}(k:Nat):cut x none (some (k:Int))=x.take k:=by
 unfold cut;rw[HT.sr,HT.BI,nw,vw];by_cases h:k≤x.length
 .rw [vx h]
 .rw [Be (by lia),nA,AZ (by lia)]
theorem ol{x:List P}(k:Nat):cut x (some (k:Int)) none=x.drop k:=by
 unfold cut;rw[HT.sr,HT.BI];by_cases h:k≤x.length
 .rw [vx h,AZ (by simp)]
 .rw [Be (by lia),qE,List.drop_of_length_le (by lia)];simp
theorem jc{x:List P}(k:Nat):cut x (some ((k:Int)+1)) none=x.drop (k+1):=ol (k+1)
theorem JB{x:List P}(k:Nat):cut x none (some ((k:Int)+1))=x.take (k+1):=kM (k+1)
theorem ss{n:Nat}{x:List P}{k:Nat}(a:k < x.length)(l:x.length≤900000)(v:P):dM (Ph (n+2) "replaced") [.tup x,.int (k:Int),v]=some (.tup (x.set k v)):=by have e:=eN (s:=x.take k) (y:=[v]) (by simp;lia);have h:=eN (s:=x.take k++[v]) (y:=x.drop (k+1)) (by simp;lia);rw[wD,aJ];simp[oy,kM,jc,e,-cR];rw[h];simp[A8,a]
theorem JX{n:Nat}{x:List P}{k:Nat}(h:x.length≤900000):dM (Ph (n+2) "without") [.tup x,.int (k:Int)]=some (.tup (x.eraseIdx k)):=by have e:=eN (s:=x.take k) (y:=x.drop (k+1)) (by simp;lia);rw[xY,aJ];simp[pO,kM,jc,e,A7]
def pF(l:P):Prop:=∃m i,aq m=true/\i.natAbs≤999/\l=.tup [.str m,.int i]
theorem pF.ok{l:P}(h:pF l):cK 1 l=true:=by obtain⟨m,i,x,_,rfl⟩:=h;simp[x]
def lg(s:List P):Prop:=s.length≤3/\∀l ∈ s,pF l
noncomputable def Pd(w:Str)(x:List P)(k:Nat):List P:=if w="lose" then x.eraseIdx k else x.take (k+1)++x.drop k
theorem Pe{n:Nat}{w:Str}(hw:w="lose"\/w="double"){x:List P}{k:Nat}(a:lg x)(s:w="double"->x.length≤2)(b:k < x.length):lg (Pd w x k)/\dM (Ph (n+3) "flawed") [.str w,.tup x,.int (k:Int)]=some (.tup (Pd w x k)):=by
 have:=a.1;unfold Pd;rcases hw with rfl|rfl
 .refine⟨⟨aF (A1 ..) this,λl h=>a.2 l (A2 h)⟩,?_⟩;have e:=JX (n:=n) (x:=x) (k:=k) (by lia);rw[sY,aJ];simp[m_,e]
 .have f:=s rfl;rw[al (by decide +kernel)];refine⟨⟨by simp;lia,λl h=>?_⟩,?_⟩
  .rcases b9.mp h with h|h
   .exact a.2 l (nD h)
   .exact a.2 l (qL h)
  .have e:=eN (s:=x.take (k+1)) (y:=x.drop k) (by simp;lia);rw[sY,aJ];simp[m_,JB,ol,e]
noncomputable def Jo(w:Str)(r:P)(x:List P):Bool:=match r with
 | .tup [_,_,_,.int c,.bl d,.bl h]=>if w="lose" then d else h && decide ((x.length:Int) < c)
 |_=>false
theorem O5{n:Nat}{w:Str}(hw:w="lose"\/w="double"){r:P}(v:isRoad r)(s:List P):(w="double"->Jo w r s=true->s.length≤2)/\dM (Ph (n+2) "has_flaw") [r,.str w,.tup s]=some (.bl (Jo w r s)):=by
 obtain⟨a,b,k,c,x,d,u,g,q,t,p,rfl⟩:=v;have e:L2.atI [P.str a,.str b,.str k,.int c,.bl x,.bl d] 3=some (.int c):=b6 (by decide) rfl;have f:L2.atI [P.str a,.str b,.str k,.int c,.bl x,.bl d] 4=some (.bl x):=b6 (by decide) rfl;have m:L2.atI [P.str a,.str b,.str k,.int c,.bl x,.bl d] 5=some (.bl d):=b6 (by decide) rfl;unfold Jo;rcases hw with rfl|rfl
 .refine⟨λh=>?_,?_⟩
  .have:¬("lose":Str)="double":=by decide +kernel
   exact absurd h this
  .rw [og,aJ];simp[kT,f]
 .dsimp only;rw[al (by decide +kernel)];refine⟨λ_ h=>?_,?_⟩
  .have:=(aD _ _ ▸ h).2;have:=bC this
   lia
  .rw [og,aJ];cases d<;>simp[kT,e,m,dQ,eX]
theorem nW{s:List P}{x:P}(h:∀y ∈ s,cK 19 y=true)(a:x ∈ s):∃i:Nat,i < s.length/\jP s x=some i:=by
 unfold jP;have n:(s.all (cK 19) && cK 19 x)=true:=by rw[aD];exact⟨bK.mpr h,h x a⟩
 rw[aj n];have m:pd x ∈ jW s:=by
  clear n h;induction s with
  |nil=>cases a
  |cons y r k=>
   rcases aW.mp a with rfl|a
   .exact ar
   .exact ao _ (k a)
 have e:bz (pd x) (pd x)=true:=p9 _ (fU 20 x (bY (h x a) (by lia))).1;cases q:(jW s).findIdx? λz=>bz z (pd x) with
 |none=>have:=vr.mp q (pd x) m;rw[e]at this;cases this
 |some i=>
  refine⟨i,?_,rfl⟩;have:=(qQ.mp q).1
  rwa [wg]at this
def RJ(n:Nat)(y:P):Prop:=∃i:Nat,i < n/\y=.int (i:Int)
theorem Cb(n:Nat):intsFrom 0 n=bu (List.range n):=by unfold Ev.intsFrom bu;simp only[dq]
def Eu(k:Str)(x:List P):List Nat:=(List.range x.length).filter λi=>decide (k="row") ||decide (jP x (x[i]?.getD .non)=some i)
theorem JY{n:Nat}(k:Str){s:List P}(t:lg s):dM (Ph (n+2) "unlike_spots") [.str k,.tup s]=some (.lst (bu (Eu k s))):=by
 have H:=t.1;have r:s.length < 1000000:=by lia
 have c:s.length≤1000000:=by lia
 by_cases h:k="row"
 .have e:Eu k s=List.range s.length:=by unfold Eu;rw[qK.mpr λ_ _=>by simp[h]]
  rw[e,<- Cb,jY,aJ];simp[g7,h,dQ,eX,r]
 .have e:bN (af 3) (aS (U (oQ cP (ab cP dF))) oO) dF (intsFrom 0 s.length) [qs k,qt s,ql (intsFrom 0 s.length),none] []=some (bu (Eu k s),[]):=by
   rw[bW (p:=λv=>match v with | .int z=>decide (jP s (s[z.toNat]?.getD .non)=some z.toNat)|_=>false) (f:=id) (Inv:=λL=>∃d,L=[qs k,qt s,ql (intsFrom 0 s.length),d]) (λv u L w=>?_) ⟨none,rfl⟩,nv]
   .rw [Cb];unfold bu Eu;rw[km];congr 3;refine nB λi _=>?_;simp[h]
   obtain⟨d,rfl⟩:=w;obtain⟨i,rfl,b⟩:=jq u;simp only[dq];have g:s[i]? = some s[i]:=bj b;have m:=ba g;obtain⟨j,S,a⟩:=nW (s:=s) (x:=s[i]) (λy l=>bY (t.2 y l).ok (by lia)) (gF _);refine⟨[qs k,qt s,ql (intsFrom 0 s.length),Y (i:Int)],rfl,⟨_,rfl⟩,?_,λ_=>by simp⟩;by_cases q:j=i
   .rw [q]at a;simp[m,a,g]
   .have o:¬(j:Int)=(i:Int):=by lia
    simp[m,a,g,q,o]
  rw[jY,aJ];simp[g7,h,dQ,eX,r,c,bE,dj,li,e]
end My
set_option tactic.hygienic false
namespace My
open PySem L2 Ev
def k_(N:List P)(ks:List bG)(vs:List P):Prop:=∀x:Str,P.str x ∈ N->∃i:Int,i.natAbs≤999/\bx (.inr x) ks vs=some (.int i)
section
variable{N:List P}{ks:List bG}{vs:List P}
theorem NX{n:Nat}(k:Int):dM (Ph (n+2) "value_of") [mV k,.dct ks vs]=some (.int k):=by rw[kJ,aJ];simp[fw]
theorem NY{n:Nat}{x:Str}{i:Int}(h:bx (.inr x) ks vs=some (.int i)):dM (Ph (n+2) "value_of") [nO (.str x),.dct ks vs]=some (.int i):=by rw[kJ,aJ];simp[fw,h]
theorem NZ{n:Nat}{o:Str}{a b:P}{i j:Int}(k:dM (Ph (n+2) "value_of") [a,.dct ks vs]=some (.int i))(f:dM (Ph (n+2) "value_of") [b,.dct ks vs]=some (.int j))(m:o="plus"\/o="minus"\/gJ i j=true)(x:o≠"number")(e:o≠"name"):dM (Ph (n+3) "value_of") [.tup [.str o,a,b],.dct ks vs]=some (.int (if o="plus" then i+j else if o="minus" then i-j else i * j)):=by
 rw[kJ,aJ];by_cases h:o="plus"
 .simp [fw,x,e,k,f,h]
 by_cases s:o="minus"
 .simp [fw,x,e,k,f,h,s]
 simp[fw,x,e,k,f,h,s,(m.resolve_left h).resolve_left s]
def Dk(ks:List bG)(vs:List P)(d:D)(S:az):Prop:=d=.p (.dct ks vs)\/∃j,d=.ref j/\(S[j]? = some (.dct ks (vs.map .p))\/S[j]? = some (.fz (.dct ks vs)))
theorem sH(k:bG):∀(ks:List bG)(vs:List P),bx k ks (vs.map D.p)=(bx k ks vs).map .p
 | [],_=>by simp[bx]
 |_::_,[]=>by simp[bx]
 |h::ks,v::vs=>by
  simp only[aE,bx];split
  .rfl
  .exact sH k ks vs
theorem eY(S:az):trunc S.length S=S:=by simp[trunc]
section
variable{d:D}{S:az}
theorem NT{n:Nat}(k:Int):Ph (n+2) "_law_value" [.p (mV k),d] S=some (.p (.int k),S):=by rw[jQ];simp[jS,df]
theorem NU{n:Nat}(hd:Dk ks vs d S){x:Str}{i:Int}(h:bx (.inr x) ks vs=some (.int i)):Ph (n+2) "_law_value" [.p (nO (.str x)),d] S=some (.p (.int i),S):=by
 rw[jQ];rcases hd with rfl|⟨j,rfl,a|a⟩
 .simp [jS,df,h]
 .simp [jS,df,h,a,cZ,sH]
 .simp [jS,df,h,a]
theorem NV{n:Nat}{o:Str}{a b:P}{i j:Int}(k:Ph (n+2) "_law_value" [.p a,d] S=some (.p (.int i),S))(f:Ph (n+2) "_law_value" [.p b,d] S=some (.p (.int j),S))(m:o="plus"\/o="minus"\/gJ i j=true)(x:o≠"number")(e:o≠"name"):Ph (n+3) "_law_value" [.p (.tup [.str o,a,b]),d] S=some (.p (.int (if o="plus" then i+j else if o="minus" then i-j else i * j)),S):=by
 rw[jQ];by_cases h:o="plus"
 .simp [jS,df,x,e,k,f,h,eY]
 by_cases s:o="minus"
 .simp [jS,df,x,e,k,f,h,s,eY]
 simp[jS,df,x,e,k,f,h,s,(m.resolve_left h).resolve_left s,eY]
end
def yh(ks:List bG)(vs:List P)(c:Nat)(t:P)(r:Int):Prop:=∀n,dM (Ph (n+c) "value_of") [t,.dct ks vs]=some (.int r)/\∀d S,Dk ks vs d S->Ph (n+c) "_law_value" [.p t,d] S=some (.p (.int r),S)
theorem uT(k:Int):yh ks vs 2 (mV k) k:=λ_=>⟨NX k,λ_ _ _=>NT k⟩
theorem G4{x:Str}{i:Int}(h:bx (.inr x) ks vs=some (.int i)):yh ks vs 2 (nO (.str x)) i:=λ_=>⟨NY h,λ_ _ hd=>NU hd h⟩
theorem CK{c:Nat}{o:Str}{a b:P}{i j:Int}(e:yh ks vs (c+2) a i)(s:yh ks vs (c+2) b j)(m:o="plus"\/o="minus"\/gJ i j=true)(h:o≠"number")(x:o≠"name"):yh ks vs (c+3) (.tup [.str o,a,b]) (if o="plus" then i+j else if o="minus" then i-j else i * j):=λn=>⟨NZ (n:=n+c) (e n).1 (s n).1 m h x,λd S hd=>NV (n:=n+c) ((e n).2 d S hd) ((s n).2 d S hd) m h x⟩
theorem yh.up{c:Nat}{t:P}{r:Int}(h:yh ks vs c t r)(k:Nat):yh ks vs (c+k) t r:=λn=>by rw[show n+(c+k)=n+k+c by lia];exact h (n+k)
theorem lu(s:∀x ∈ N,kG x)(n:k_ N ks vs){t:P}(h:sK N t):∃r:Int,yh ks vs 4 t r:=by
 rcases h with ⟨k,rfl⟩|⟨y,a,h⟩
 .exact⟨k,(uT k).up 2⟩
 obtain⟨x,_,rfl⟩:=s y a;obtain⟨i,m,e⟩:=n x a;have v:=G4 e;rcases h with rfl|⟨k,rfl⟩|⟨k,j,f,b,rfl⟩|rfl
 .exact⟨i,v.up 2⟩
 .exact⟨_,(CK (c:=0) v (uT k) (.inl rfl) (by simp) (by simp)).up 1⟩
 .exact⟨_,CK (c:=1) (CK (c:=0) v (uT k) (.inr (.inr (cL (by lia) (by lia)))) (by simp) (by simp)) ((uT j).up 1) (.inr (.inl rfl)) (by simp) (by simp)⟩
 .exact⟨_,(CK (c:=0) (uT 1) v (.inr (.inl rfl)) (by simp) (by simp)).up 1⟩
theorem Px(w:Str)(i j:Int):∃b,∀h,dM (jS 3 3 (dI h)) [.str w,.int i,.int j]=some (.bl b):=by
 by_cases x:w="="
 .exact⟨decide (i=j),λh=>by rw[aJ];simp[dI,x]⟩
 by_cases a:w="!="
 .exact⟨!decide (i=j),λh=>by rw[aJ];simp[dI,x,eq_true a]⟩
 by_cases e:w="<"
 .exact⟨decide (i < j),λh=>by rw[aJ];simp[dI,x,a,eq_true e]⟩
 by_cases s:w="<="
 .exact⟨decide (i≤j),λh=>by rw[aJ];simp[dI,x,a,e,eq_true s]⟩
 by_cases n:w=">"
 .exact⟨decide (j < i),λh=>by rw[aJ];simp[dI,x,a,e,s,eq_true n]⟩
 exact⟨decide (j≤i),λh=>by rw[aJ];simp[dI,x,a,e,s,n]⟩
theorem Mw{n:Nat}:dM (Ph (n+2) "holds") [.tup [.str "true"],.dct ks vs]=some (.bl true):=by rw[jZ,aJ];simp[jd]
theorem O7{n:Nat}{a:P}{r:Bool}(h:dM (Ph (n+2) "holds") [a,.dct ks vs]=some (.bl r)):dM (Ph (n+3) "holds") [.tup [.str "not",a],.dct ks vs]=some (.bl !r):=by rw[jZ,aJ];simp[jd,h]
theorem O8{n:Nat}{a b:P}{r s:Bool}(h:dM (Ph (n+2) "holds") [a,.dct ks vs]=some (.bl r))(x:dM (Ph (n+2) "holds") [b,.dct ks vs]=some (.bl s)):dM (Ph (n+3) "holds") [.tup [.str "and",a,b],.dct ks vs]=some (.bl (r && s)):=by rw[jZ,aJ];cases r<;>simp[jd,h,x]
theorem RN{n:Nat}{a b:P}{r s:Bool}(h:dM (Ph (n+2) "holds") [a,.dct ks vs]=some (.bl r))(x:dM (Ph (n+2) "holds") [b,.dct ks vs]=some (.bl s)):dM (Ph (n+3) "holds") [.tup [.str "or",a,b],.dct ks vs]=some (.bl (r ||s)):=by rw[jZ,aJ];cases r<;>simp[jd,h,x]
section
variable{d:D}{S:az}
theorem KI{n:Nat}:Ph (n+2) "_law_true" [.p (.tup [.str "true"]),d] S=some (.p (.bl true),S):=by rw[i9];simp[jS,gN]
theorem NH{n:Nat}{a:P}{r:Bool}(h:Ph (n+2) "_law_true" [.p a,d] S=some (.p (.bl r),S)):Ph (n+3) "_law_true" [.p (.tup [.str "not",a]),d] S=some (.p (.bl !r),S):=by rw[i9];simp[jS,gN,h,eY]
theorem JV{n:Nat}{a b:P}{r s:Bool}(h:Ph (n+2) "_law_true" [.p a,d] S=some (.p (.bl r),S))(x:Ph (n+2) "_law_true" [.p b,d] S=some (.p (.bl s),S)):Ph (n+3) "_law_true" [.p (.tup [.str "and",a,b]),d] S=some (.p (.bl (r && s)),S)/\Ph (n+3) "_law_true" [.p (.tup [.str "or",a,b]),d] S=some (.p (.bl (r ||s)),S):=by rw[i9];cases r<;>simp[jS,gN,h,x,eY]
end
def HOk(ks:List bG)(vs:List P)(c:Nat)(t:P)(r:Bool):Prop:=∀n,dM (Ph (n+c) "holds") [t,.dct ks vs]=some (.bl r)/\∀d S,Dk ks vs d S->Ph (n+c) "_law_true" [.p t,d] S=some (.p (.bl r),S)
theorem PX(w:Str){a b:P}{i j:Int}(x:yh ks vs 5 a i)(s:yh ks vs 5 b j):∃r,HOk ks vs 6 (.tup [.str "is",.str w,a,b]) r:=by
 obtain⟨r,e⟩:=Px w i j;refine⟨r,λn=>⟨?_,λd S hd=>?_⟩⟩
 .have h:dM (Ph (n+5) "compared") [.str w,.int i,.int j]=some (.bl r):=by rw[wK];exact e _
  rw[jZ,aJ];simp[jd,(x n).1,(s n).1,h]
 .have h:dM (Ph (n+5) "_law_relation") [.str w,.int i,.int j]=some (.bl r):=by rw[o9];exact e (Ph (n+4))
  rw[i9];simp[jS,gN,(x n).2 d S hd,(s n).2 d S hd,h,eY]
theorem HOk.up{c:Nat}{t:P}{r:Bool}(h:HOk ks vs c t r)(k:Nat):HOk ks vs (c+k) t r:=λn=>by rw[show n+(c+k)=n+k+c by lia];exact h (n+k)
theorem Ge(k:∀x ∈ N,kG x)(f:k_ N ks vs){t:P}(h:sO N t):∃r,HOk ks vs 9 t r:=by
 have l:∀{t:P},kH N t->∃r,HOk ks vs 6 t r:=λ{t} h=>by obtain⟨w,y,s,m,u,_,rfl⟩:=h;obtain⟨x,_,rfl⟩:=k y m;obtain⟨i,_,a⟩:=f x m;obtain⟨j,v⟩:=lu k f u;exact PX w ((G4 a).up 3) (v.up 1)
 have b:HOk ks vs 6 (.tup [.str "true"]) true:=λn=>⟨Mw,λd S _=>KI⟩;rcases h with rfl|h|⟨p,h,rfl⟩|⟨p,z,h,q,rfl⟩
 .exact⟨_,b.up 3⟩
 .obtain⟨r,e⟩:=l h;exact⟨r,e.up 3⟩
 .obtain⟨r,e⟩:=l h;exact⟨!r,λn=>⟨O7 (e.up 2 n).1,λd S hd=>NH ((e.up 2 n).2 d S hd)⟩⟩
 .obtain⟨r,e⟩:=l h;obtain⟨x,_,rfl⟩:=k z q;obtain⟨i,_,a⟩:=f x q;obtain⟨s,c⟩:=PX (ks:=ks) (vs:=vs) "=" ((uT 1).up 3) ((G4 a).up 3);exact⟨r ||(true && s),λn=>⟨RN (e.up 2 n).1 (O8 (b.up 1 n).1 (c.up 1 n).1),λd S hd=>(JV ((e.up 2 n).2 d S hd) (JV ((b.up 1 n).2 d S hd) ((c.up 1 n).2 d S hd)).1).2⟩⟩
end
def bv(e:List P):List bG:=e.map λc=>.inr (aX c)
def CellsOk(e s:List P):Prop:=s.length=e.length/\∀c ∈ s,∃i:Int,i.natAbs≤999/\c=.int i
theorem iu{c:List P}(h:tz c):(bv c).Nodup:=by
 unfold bv;refine qP.mpr λi j a e n q=>?_
 rw[aR]at a e;rw[qF,qF]at q;have x:=h.2 i _ (bj a);have s:=h.2 j _ (bj e);rw[ko q,s]at x;simp at x;lia
theorem y7(e:List P):eJ (gu e)=some (bv e):=by
 unfold gu bv;induction e with
 |nil=>rfl
 |cons c r i=>simp[eJ,cZ,i]
theorem wt:∀{l n:List P},CellsOk l n->k_ (gu l) (bv l) n
 | [],_,_=>λx h=>by cases h
 |c::r,[],h=>by have:=h.1;simp at this
 |c::r,d::s,h=>λx t=>by
  obtain⟨i,b,rfl⟩:=h.2 d ar;show ∃i:Int,_/\(if (Sum.inr (aX c):bG)=.inr x then some _ else bx (.inr x) (bv r) s)=_;by_cases e:aX c=x
  .exact⟨i,b,by rw[aj (by rw[e])]⟩
  .have a:P.str x ∈ gu r:=by
    rcases aW.mp t with q|q
    .exact absurd (P.str.inj q).symm e
    .exact q
   obtain⟨j,m,k⟩:=wt (l:=r) (n:=s) ⟨by have:=h.1;simpa using this,λc f=>h.2 c (ao _ f)⟩ x a;exact⟨j,m,by rw[al λq=>e (ko q)];exact k⟩
theorem Bw{n:Nat}{m:List P}{a:Str}{e:Nat}{r c w s:List P}(f:Fam m a e r c w s){h:List P}(p:CellsOk c h)(S:az) :
  Ph (n+2) "values_of" [.p (.tup [.str a,.int (e:Int),.lst r,.lst c,.lst w,.lst s]),.p (.tup h)] S=some (.ref S.length,S++[.dct (bv c) (h.map .p)]):=by
 have q:=f.cl;have d:c.length≤1000000:=by lia
 have x:(gu c).length≤1000000:=by simp[gu];lia
 have b:=pf f.hce.1 [qt [.str a,.int (e:Int),.lst r,.lst c,.lst w,.lst s],qt h,none] 2 (by simp) S;have v:=iu f.hce;have k:(bv c).length=h.length:=by rw[p.1];simp[bv]
 have l:(bv c).length≤h.length:=qT k;have t:h.take (bv c).length=h:=by rw[k,nA]
 rw[tT];simp[jS,mF,Hc,bE,d,li,b,y7,v,x,l,t,vh];first|done|(rw[<- vh,t])
theorem CO{n:Nat}{m:List P}{x:Str}{e:Nat}{r c w s:List P}(f:Fam m x e r c w s){h:List P}(a:CellsOk c h) :
  dM (Ph (n+2) "values_of") [.tup [.str x,.int (e:Int),.lst r,.lst c,.lst w,.lst s],.tup h]=some (.dct (bv c) h):=by
 unfold dM;rw[aE,aE,eE,Bw (n:=n) f a []];have:tN (toP 8) (h.map .p) [SO.dct (bv c) (h.map .p)]=some (h,[SO.dct (bv c) (h.map .p)]):=l8 ..;simp[toP,this]
end My
namespace My
open PySem L2 Ev
theorem mU(h:f L S=some (.rt d,a,e)):ae f g L S=some (.rt d,a,e):=by rw[ae,h]
noncomputable def N8(a b:Bool):Nat->Nat->Option Bool
 |0,0=>some false
 |0,1=>some a
 |1,0=>some b
 |1,1=>some false
 |_,_=>none
noncomputable def N7(a b c d e f:Bool):Nat->Nat->Option Bool
 |0,0=>some false
 |0,1=>some a
 |0,2=>some b
 |1,0=>some c
 |1,1=>some false
 |1,2=>some d
 |2,0=>some e
 |2,1=>some f
 |2,2=>some false
 |_,_=>none
noncomputable def xQ(n:Nat)(o:Option (Array Nat)):Bool:=match o with
 |some p=>decide (p.size=n) && p.all λi=>decide (i < n)
 |none=>false
theorem Ol:∀a b,xQ 2 (Ju (N8 a b) (uU 2))=true:=by decide +kernel
theorem Oj:∀a b c d e f,xQ 3 (Ju (N7 a b c d e f) (uU 3))=true:=by decide +kernel
variable{x:P}
theorem jF(h:pF x)(a:pF y):∃b,Rz x y=some b:=by obtain⟨m,i,_,_,rfl⟩:=h;obtain⟨s,e,_,_,rfl⟩:=a;exact⟨_,rfl⟩
theorem nR(h:pF x):Rz x x=some false:=by obtain⟨m,i,_,_,rfl⟩:=h;show some (if m=m then decide (i < i) else _)=_;rw[aj rfl,cG (zO _)]
theorem Do(h:xQ a o=true):∃p,o=some p/\p.size=a/\∀i ∈ p.toList,i < a:=by
 cases o with
 |none=>cases h
 |some p=>
  unfold xQ at h;rw[aD]at h;refine⟨p,rfl,bC h.1,λi x=>?_⟩;have:=Array.all_eq_true'.mp h.2 i (by simpa using x)
  exact bC this
theorem uj(h:lg k):∃t,lg t/\oq k=some (.lst t):=by
 have E:sortable k=true:=by refine bK.mpr λx r=>?_;obtain⟨m,i,_,_,rfl⟩:=h.2 x r;rfl
 have o:∃t,lg t/\pq k=some t:=by
  unfold pq;by_cases q:k.length < 2
  .exact⟨k,h,by rw[aj q]⟩
  .rw [al q,aj (by have:=h.1;lia)];have s:∀n,k.length=n->n≤3->xQ n (Ju (nS k) (uU n))=true->∃t,lg t/\((Ju (nS k) (uU k.length)).bind λp=>if p.size < 64 then some (p.toList.map λi=>k.getD i .non) else none)=some t:=λn C D P=>by
    obtain⟨p,e,G,q⟩:=Do P;refine⟨p.toList.map λi=>k.getD i .non,⟨by simp;lia,λl B=>?_⟩,by rw[C,e];simp[show p.size < 64 by lia]⟩;obtain⟨i,A,rfl⟩:=aM.mp B;have:=q i A
    rw[ie,bj (by lia)];exact h.2 _ (gF _)
   match k,h,q,s with
   | [x,y],h,_,s=>
    refine s 2 rfl (by lia) ?_;have r:=h.2 x (by simp);have v:=h.2 y (by simp);obtain⟨a,u⟩:=jF r v;obtain⟨b,g⟩:=jF v r;have:nS [x,y]=N8 a b:=by
     funext i j;match i,j with
     |0,0=>exact nR r
     |0,1=>exact u
     |1,0=>exact g
     |1,1=>exact nR v
     |0,j+2=>rfl
     |1,j+2=>rfl
     |i+2,0=>rfl
     |i+2,1=>rfl
     |i+2,j+2=>rfl
    rw[this];exact Ol a b
   | [x,y,z],h,_,s=>
    refine s 3 rfl (by lia) ?_;have r:=h.2 x (by simp);have v:=h.2 y (by simp);have w:=h.2 z (by simp);obtain⟨a,u⟩:=jF r v;obtain⟨b,g⟩:=jF r w;obtain⟨c,H⟩:=jF v r;obtain⟨d,S⟩:=jF v w;obtain⟨e,F⟩:=jF w r;obtain⟨f,K⟩:=jF w v;have:nS [x,y,z]=N7 a b c d e f:=by
     funext i j;match i,j with
     |0,0=>exact nR r
     |0,1=>exact u
     |0,2=>exact g
     |1,0=>exact H
     |1,1=>exact nR v
     |1,2=>exact S
     |2,0=>exact F
     |2,1=>exact K
     |2,2=>exact nR w
     |0,j+3=>rfl
     |1,j+3=>rfl
     |2,j+3=>rfl
     |i+3,0=>rfl
     |i+3,1=>rfl
     |i+3,2=>rfl
     |i+3,j+3=>rfl
    rw[this];exact Oj a b c d e f
   | [],_,q,_=>simp at q
   | [_],_,q,_=>simp at q
   |_::_::_::_::_,h,_,_=>have:=h.1;simp at this
 obtain⟨t,w,e⟩:=o;exact⟨t,w,by unfold oq;rw[aj E,e];rfl⟩
variable{N:LS}
theorem j5:i ∈ bQ N a↔N[i]? = some a:=by
 unfold bQ;rw[eR];constructor
 .exact λh=>bC h.2
 .exact λh=>⟨lQ.mpr (bF h),jT h⟩
variable{B:BD}
theorem tq(h:x ∈ B.PR):∃r ∈ B.roads,∃a b:Nat,x=pr r a b:=by unfold BD.PR bt at h;obtain⟨r,e,h⟩:=dt.mp h;unfold yk at h;obtain⟨a,_,h⟩:=dt.mp h;obtain⟨b,_,rfl⟩:=aM.mp h;exact⟨r,e,a,b,rfl⟩
theorem PL{B:BD}{r:P}{a b:Nat}(s:r ∈ B.roads)(x:B.N[a]? = some (rA r))(e:B.N[b]? = some (rB r))(h:a≠b):pr r a b ∈ B.PR:=by unfold BD.PR bt;refine dt.mpr ⟨r,s,?_⟩;unfold yk;refine dt.mpr ⟨a,j5.mpr x,aM.mpr ⟨b,?_,rfl⟩⟩;rw[eR];exact⟨j5.mpr e,by simpa using h⟩
def i8(p:P):List bG:=[.inl (iv (fV p 1)),.inl (iv (fV p 2))]
def DN(B:BD)(x y:Int):Option Nat:=B.PR.findIdx? λp=>decide (i8 p=[.inl x,.inl y])
structure Places(B:BD):Prop where
 ex:∀x y:Int,dn [.inl x,.inl y] B.ks B.vs=(DN B x y).map λ(k:Nat)=>D.p (.int (k:Int))
theorem sI(r:P)(a b:Nat):i8 (pr r a b)=[.inl (a:Int),.inl (b:Int)]:=rfl
theorem yW{B:BD}{x y:Int}{k:Nat}(h:DN B x y=some k):∃(r:P)(a b:Nat),r ∈ B.roads/\x=(a:Int)/\y=(b:Int)/\B.PR[k]? = some (pr r a b):=by obtain⟨t,f,_⟩:=qQ.mp h;have s:=bj t;obtain⟨r,p,a,b,e⟩:=tq (aZ s);rw[e]at f s;have c:=bC f;rw[sI]at c;injection c with m n;injection n with n;exact⟨r,a,b,p,(w1 m).symm,(w1 n).symm,s⟩
variable{r:P}
theorem IP(h:pr r a b ∈ B.PR):∃k,DN B a b=some k:=by
 cases e:DN B a b with
 |some k=>exact⟨k,rfl⟩
 |none=>have:=vr.mp e _ h;rw[sI,jT rfl]at this;cases this
theorem Cm(a b x y:Int):zg (.tup [.int a,.int b]) (.tup [.int x,.int y])=some (decide (([.inl a,.inl b]:List bG)=[.inl x,.inl y])):=by have e:zg (.tup [.int a,.int b]) (.tup [.int x,.int y])=some (bz (pd (.tup [.int a,.int b])) (pd (.tup [.int x,.int y]))):=rfl;rw[e];simp[pd,jW,bz,hX,Bool.decide_and];rfl
theorem BJ(l:P)(x y:Int):∀(s:List P)(k:Nat)(q n:Option D),(∀p ∈ s,∃(r:P)(a b:Nat),p=pr r a b)->∃L,
  bb (aP [af 3,af 4]) (ga c) (bJ (k:Int) s) [O l,Y x,Y y,q,n] []=some (match s.findIdx? λp=>decide (i8 p=[.inl x,.inl y]) with|some j=>.rt (.p (.int ((k+j:Nat):Int)))|none=>.nx,L,[])
 | [],k,q,n,_=>⟨_,rfl⟩
 |p::r,k,q,n,hp=>by
  obtain⟨d,a,b,rfl⟩:=hp p ar;obtain⟨L,e⟩:=BJ (c:=c) l x y r (k+1) (Y (k:Int)) (O (pr d a b)) λp h=>hp p (ao _ h);have f:cut [d,.int (a:Int),.int (b:Int)] (some 1) none=[.int (a:Int),.int (b:Int)]:=rfl;unfold bJ;rw[vm,sI];by_cases h:([.inl (a:Int),.inl (b:Int)]:List bG)=[.inl x,.inl y]
  .refine⟨[O l,Y x,Y y,Y (k:Int),O (pr d a b)],?_⟩;rw[jT h];exact lB (h:=[O l,Y x,Y y,Y (k:Int),O (pr d a b)]) rfl (by simp[ga,pr,f,Cm,h])
  .rw [j6]at e;rw[cG h];refine⟨L,(bo (h:=[O l,Y x,Y y,Y (k:Int),O (pr d a b)]) (x:=[]) rfl (by simp[ga,pr,f,Cm,h])).trans (e.trans ?_)⟩;cases r.findIdx? λp=>decide (i8 p=[.inl x,.inl y]) with
   |none=>simp
   |some j=>simp;lia
noncomputable abbrev a8(B:BD):P:=.tup [.lst B.fams,.lst B.roads,.lst B.wishes]
noncomputable def FD(o:Option Nat):P:=match o with|some k=>.int (k:Int)|none=>.non
theorem wr(P:BP B)(x y:Int):dM (Ph (k+5) "_law_road") [a8 B,.int x,.int y]=some (FD (DN B x y)):=by
 obtain⟨L,e⟩:=BJ (c:=Ph (k+4)) (a8 B) x y B.PR 0 none none λp h=>by obtain⟨r,_,a,b,e⟩:=tq h;exact⟨r,a,b,e⟩
 have s:=rf (n:=k) P;rw[show((0:Nat):Int)=0 from rfl]at e;rw[wG,aJ];unfold DN;unfold BD.PR at e ⊢;unfold BD.N at e ⊢;cases h:(bt (aC B.fams) B.roads).findIdx? λp=>decide (i8 p=[.inl x,.inl y]) with
 |none=>rw[h]at e;simp[kQ,s,e,FD]
 |some j=>rw[h]at e;simp[kQ,s,e,FD]
def bP(B:BD)(rds:List P):Prop:=rds.length=B.PR.length/\∀r ∈ rds,∃ls,lg ls/\r=.tup ls
theorem bP.at{B:BD}{u:List P}(h:bP B u){k:Nat}{x:P}(n:B.PR[k]? = some x):k < u.length/\∃l,lg l/\u[k]? = some (.tup l):=by
 have a:k < u.length:=by rw[h.1];exact bF n
 obtain⟨l,e,s⟩:=h.2 u[k] (gF _);exact⟨a,l,e,by rw[bj a,s]⟩
theorem bP.set(h:bP B u)(k:Nat)(a:lg l):bP B (u.set k (.tup l)):=by
 refine⟨by rw[fq];exact h.1,λr x=>?_⟩;rcases A6 x with x|rfl
 .exact h.2 r x
 .exact⟨l,a,rfl⟩
theorem tt(h:BP B):B.PR.length≤2048:=by
 have N:B.N.length≤16:=aF (kI h) (by decide);have k:∀s:List P,(bt B.N s).length≤256 * s.length:=by
  intro s;induction s with
  |nil=>simp[bt]
  |cons r s i=>have:=oV B.N r N;rw[show bt B.N (r::s)=yk B.N r++bt B.N s by simp[bt],bg,aV];lia
 have:=k B.roads;have:=h.rl
 unfold BD.PR;lia
theorem Qc(h:Str->GF):mT Tb h "Board" "family_of"=some (h "Board.family_of"):=by kernel_rfl
theorem Ss(h:Str->GF):mT Tb h "Board" "hands_beside"=some (h "Board.hands_beside"):=by kernel_rfl
theorem Qj:fields.contains "family_of"=false:=by decide +kernel
theorem SE:fields.contains "hands_beside"=false:=by decide +kernel
theorem uC{a:List P}{h:Nat}{f:P}(s:(aN a)[h]? = some f):∃p:Nat,(homes a)[h]? = some (.int (p:Int))/\a[p]? = some f:=by
 unfold aN at s;unfold homes;rw[dW]at s ⊢;cases e:(hw 0 a)[h]? with
 |none=>rw[e]at s;cases s
 |some x=>rw[e]at s;cases s;obtain⟨j,n,k⟩:=o4 (aZ e);exact⟨x.1,rfl,by rw[n,dX];exact k⟩
theorem zf{n:Nat}{B:BD}{b i:Nat}{S:az}(h:Bd B b i S){k:Nat}{f:P}(c:(aN B.fams)[k]? = some f):Ph (n+2) "Board.family_of" [.ref i,.p (.int (k:Int))] S=some (.p f,S):=by obtain⟨j,r,l,m,mk,v,h⟩:=h;obtain⟨p,e,x⟩:=uC c;have a:i_ (fh (aT Att) fE "homes") cP [qr i,Y (k:Int)] S=some (.p (.int (p:Int)),S):=h.ho.ix (h.homes rfl) rfl (ba e);have s:fh (aT Att) fE "families" [qr i,Y (k:Int)] S=some (.p (.lst B.fams),S):=h.families rfl;rw[iT];show oX (aL _ [qr i,Y (k:Int)] S)=_;rw[aL,i_,s,av,vE,a];simp[ba x]
theorem GV{n:Nat}{B:BD}(P:BP B){b i:Nat}{S:az}(h:Bd B b i S)(k:Nat){s:Str}(g:s ∈ B.N):∃a,Ph (n+2) "Board.hands_beside" [.ref i,.p (.int (k:Int)),.p (.str s)] S=some (.p (.lst (bu (oth B.N s k))),a)/\Fr b S a:=by
 obtain⟨K,E,A,C,mk,G,h⟩:=h;obtain⟨j,u,m,e⟩:=h.mm s g;refine⟨_,?_,Fr.frz u e⟩;have r:i_ (fh (aT Att) fE "members") dh [qr i,Y (k:Int),qs s] S=some (.ref j,S):=by rw[i_,h.members rfl];simp[h.me,cZ,m]
 have l:(bu (bQ B.N s)).length≤1000000:=by have:=dE B.N s;have:B.N.length≤4:=kI P;simp[bu];lia
 have t:bN (af 3) (cU oO gq) dF (bu (bQ B.N s)) [qr i,Y (k:Int),qs s,none] (S.set j (.fz (.lst (bu (bQ B.N s)))))=some (bu (oth B.N s k),S.set j (.fz (.lst (bu (bQ B.N s))))):=by
  rw[bW (p:=λv=>match v with | .int x=>!decide (k=x.toNat)|_=>false) (f:=id) (Inv:=λL=>∃d,L=[qr i,Y (k:Int),qs s,d]) (λv c L w=>?_) ⟨none,rfl⟩]
  .congr 2;unfold bu oth;rw[km,nv];rfl
  .obtain⟨d,rfl⟩:=w;unfold bu at c;obtain⟨o,F,rfl⟩:=aM.mp c;refine⟨[qr i,Y (k:Int),qs s,Y (o:Int)],rfl,⟨_,rfl⟩,?_,λ_=>by simp⟩;by_cases q:k=o
   .simp [q]
   .have y:¬(o:Int)=(k:Int):=by lia
    have H:¬o=k:=λz=>q z.symm;simp[q,y,H]
 rw[kK];show oX (aL _ [qr i,Y (k:Int),qs s] S)=_;simp only[gR,aL,U,bE,fG,vE,r,av,e.frz];rw[aj (by rw[mX];exact l)];rw[show li [] 1 [some (D.ref i),Y (k:Int),qs s]=[qr i,Y (k:Int),qs s,none] from rfl,t];rfl
variable{n:Type}
theorem nX[DecidableEq n](x:n)(y:D):∀(s:List n)(a:List D),s.Nodup->s.length=a.length->(eD x y s a).1.Nodup/\(eD x y s a).1.length=(eD x y s a).2.length/\(eD x y s a).1.length≤s.length+1/\(∀k ∈ (eD x y s a).1,k=x\/k ∈ s)/\∀k,dn k (eD x y s a).1 (eD x y s a).2=if x=k then some y else dn k s a
 | [],[],_,_=>⟨by simp[eD],rfl,by simp[eD],λk h=>.inl (by simpa[eD] using h),λk=>by by_cases q:x=k<;>simp[eD,dn,q]⟩
 | [],_::_,_,h=>by simp at h
 |_::_,[],_,h=>by simp at h
 |f::s,v::a,c,l=>by
  obtain⟨r,c⟩:=b_.mp c;by_cases q:f=x
  .have e:eD x y (f::s) (v::a)=(f::s,y::a):=by simp[eD,q]
   rw[e];refine⟨b_.mpr ⟨r,c⟩,by simpa using l,by simp,λk h=>.inr h,λk=>?_⟩;subst q;by_cases b:f=k<;>simp[dn,b]
  .obtain⟨p,d,u,m,w⟩:=nX x y s a c (by simpa using l);have e:eD x y (f::s) (v::a)=(f::(eD x y s a).1,v::(eD x y s a).2):=by simp[eD,q]
   rw[e];refine⟨b_.mpr ⟨λz=>?_,p⟩,by simp[d],by simp;lia,λk h=>?_,λk=>?_⟩
   .rcases m f z with z|z
    .exact q z
    .exact r z
   .rcases aW.mp h with rfl|h
    .exact .inr ar
    .rcases m k h with h|h
     .exact .inl h
     .exact .inr (ao _ h)
   .show (if f=k then some v else dn k (eD x y s a).1 (eD x y s a).2)=_;by_cases b:f=k
    .subst b;have:¬x=f:=λz=>q z.symm
     simp[dn,this]
    .rw [al b,w];by_cases t:x=k
     .simp [t]
     .simp [t,dn,b]
noncomputable abbrev KV:=List (List bG)×List D
def putAll:Nat->List P->KV->KV
 |_,[],s=>s
 |k,p::r,s=>putAll (k+1) r (eD (i8 p) (.p (.int (k:Int))) s.1 s.2)
structure KVok(s:KV):Prop where
 nd:s.1.Nodup
 ln:s.1.length=s.2.length
theorem KVok.put(h:KVok a)(k:List bG)(y:D):KVok (eD k y a.1 a.2):=by obtain⟨x,e,_⟩:=nX k y a.1 a.2 h.nd h.ln;exact⟨x,e⟩
theorem Cz(N:LS)(s:Str):(bQ N s).Pairwise (·≠·):=(List.nodup_range (n:=N.length)).filter _
def Sy(x y:P):Prop:=i8 x≠i8 y
theorem BU:∀(x:List P)(k:Nat)(s:KV),KVok s->x.Pairwise Sy->∀y,dn y (putAll k x s).1 (putAll k x s).2=match x.findIdx? λp=>decide (i8 p=y) with|some j=>Y ((k+j:Nat):Int)|none=>dn y s.1 s.2
 | [],k,s,h,_,y=>rfl
 |p::r,k,s,h,f,y=>by
  obtain⟨a,n⟩:=List.pairwise_cons.mp f;have e:=BU r (k+1) _ (h.put (i8 p) (.p (.int (k:Int)))) n y;rw[(nX (i8 p) (.p (.int (k:Int))) s.1 s.2 h.nd h.ln).2.2.2.2]at e;unfold putAll;rw[e,vm];by_cases w:i8 p=y
  .have:(r.findIdx? λp=>decide (i8 p=y))=none:=vr.mpr λq b=>cG λz=>a q b (w.trans z.symm);rw[this,jT w];simp[w]
  .rw [cG w];cases r.findIdx? λp=>decide (i8 p=y) with
   |none=>simp[w]
   |some j=>simp;lia
theorem BN(h:x ∈ yk N r):∃a c,x=pr r a c/\N[a]? = some (rA r)/\N[c]? = some (rB r):=by obtain⟨a,e,h⟩:=dt.mp h;obtain⟨c,s,rfl⟩:=aM.mp h;exact⟨a,c,rfl,j5.mp e,j5.mp (eR.mp s).1⟩
theorem rh(h:i8 (pr r a c)=i8 (pr f e k)):a=e/\c=k:=by
 rw[sI,sI]at h;injection h with s x;injection x with x;have:=w1 s
 have:=w1 x;exact⟨by lia,by lia⟩
theorem LB(h:o.Pairwise RD):(bt N o).Pairwise Sy:=by
 refine AY.mpr ⟨λr _=>AY.mpr ⟨λa _=>List.pairwise_map.mpr (((Cz N (rB r)).filter _).imp λ{c f} p q=>p (rh q).2),(Cz N (rA r)).imp λ{a d} t x e y s q=>?_⟩,h.imp λ{r j} v x e y s q=>?_⟩
 .obtain⟨c,_,rfl⟩:=aM.mp e;obtain⟨f,_,rfl⟩:=aM.mp s;exact t (rh q).1
 .obtain⟨w,g,rfl,b,m⟩:=BN e;obtain⟨u,i,rfl,n,k⟩:=BN s;obtain⟨rfl,rfl⟩:=rh q;rw[b]at n;rw[m]at k;exact v ⟨eP n,eP k⟩
def G'(f r w:List P):BD:=⟨f,r,w,(putAll 0 (bt (aC f) r) ([],[])).1,(putAll 0 (bt (aC f) r) ([],[])).2⟩
theorem Sw:KVok ([],[]):=⟨by simp,rfl⟩
theorem Dc (w:List P) (h:o.Pairwise RD):Places (G' f o w):=⟨fun x y=>by
 show dn _ (putAll 0 _ ([],[])).1 (putAll 0 _ ([],[])).2=_;rw[BU _ 0 _ Sw (LB h)];show _=((bt (aC f) o).findIdx? λp=>decide (i8 p=[.inl x,.inl y])).map _;cases (bt (aC f) o).findIdx? λp=>decide (i8 p=[.inl x,.inl y]) with
 |none=>rfl
 |some j=>simp⟩
theorem Ku{F:Str->GF}(l:P)(a b c:D){i j:Nat}(m:i≠j):∀(t:List P)(k:Nat)(s:KV),KVok s->s.1.length+t.length≤900000->(∀p ∈ t,∃r x y,p=.tup [r,.int x,.int y])->∀(w u:Option D)(S:az),S[i]? = some (.ins "Board" ["families","homes","pairs","places"] [a,b,c,.ref j])->S[j]? = some (.dtt s.1 s.2)->∃n f,
  bb (aP [af 2,af 3]) (gQ F) (bJ (k:Int) t) [qr i,O l,w,u,none] S=some (.nx,[qr i,O l,n,f,none],S.set j (.dtt (putAll k t s).1 (putAll k t s).2))
 | [],k,s,_,_,_,w,u,S,_,v=>⟨w,u,by show some (Fl.nx,_,S)=some (.nx,_,S.set j (.dtt s.1 s.2));obtain⟨h,e⟩:=bL.mp v;rw[<- e,fR]⟩
 |p::r,k,s,h,K,hp,w,u,S,H,v=>by
  simp only[aV]at K;obtain⟨d,x,y,rfl⟩:=hp p ar;have A:=(nX (i8 (.tup [d,.int x,.int y])) (.p (.int (k:Int))) s.1 s.2 h.nd h.ln).2.2.1;obtain⟨n,f,e⟩:=Ku (F:=F) l a b c m r (k+1) _ (h.put (i8 (.tup [d,.int x,.int y])) (.p (.int (k:Int)))) (by lia) (λp o=>hp p (ao _ o)) (Y (k:Int)) (qt [d,.int x,.int y]) (S.set j (.dtt (eD (i8 (.tup [d,.int x,.int y])) (.p (.int (k:Int))) s.1 s.2).1 (eD (i8 (.tup [d,.int x,.int y])) (.p (.int (k:Int))) s.1 s.2).2)) (by rw[aG (λq=>m q.symm)];exact H) (cc (bF v));refine⟨n,f,?_⟩;unfold bJ putAll;rw[j6,b8]at e;refine(bo (h:=[qr i,O l,Y (k:Int),qt [d,.int x,.int y],none]) rfl ?_).trans e;have z:=h.nd;have g:s.1.length≤1000000:=by lia
  simp[gQ,mn,jG,mW,eJ,cZ,z,g,i8,H,v]
structure GC(B:BD) where
 b:Nat
 i:Nat
 S0:az
 r:Nat
 bd:Bd B b i S0
 hr:S0.length≤r
theorem GC.le(G:GC B):G.b≤G.S0.length:=G.bd.le
theorem jr{i:Type}{g:kY}{b:ES}{p:i->Lc->Prop}{Sp:i->az->Prop}{r:i->Nat}{c M:Nat}{f:P->List P}:∀{s:List P},
  (∀x ∈ s,(f x).length≤c/\∀G L S a,p G L->Sp G S->S[r G]? = some (.lst (a.map .p))->a.length+c≤M->∃m L2 n,g x L=some m/\b m S=some (.nx,L2,n)/\p G L2/\Sp G n/\n[r G]? = some (.lst ((a++f x).map .p))) ->
  (s.flatMap f).length≤c * s.length/\∀G L S a,p G L->Sp G S->S[r G]? = some (.lst (a.map .p))->a.length+c * s.length≤M->∃k e,bb g b s L S=some (.nx,k,e)/\p G k/\Sp G e/\e[r G]? = some (.lst ((a++s.flatMap f).map .p))
 | [],_=>⟨by simp,λG L S a t d h _=>⟨L,S,rfl,t,d,by rw[AM,eQ];exact h⟩⟩
 |x::s,j=>by
  obtain⟨D,H⟩:=j x ar;obtain⟨I,C⟩:=jr (s:=s) λy B=>j y (ao _ B);have A:c * (x::s).length=c+c * s.length:=by rw[aV,Ba,vu]
  refine⟨by rw[A,dU,bg];lia,λG L S a t d h E=>?_⟩;obtain⟨m,L2,n,l,z,v,u,F⟩:=H G L S a t d h (by lia);obtain⟨k,e,o,q,w,K⟩:=C G L2 n (a++f x) v u F (by rw[bg];lia);exact⟨k,e,by rw[bo l z];exact o,q,w,by rw[dU,<- cR];exact K⟩
theorem g6{t:Type}{g:kY}{b:ES}{p:t->Lc->Prop}{Sp:t->az->Prop}{r:t->Nat}{R:P->List P->Prop}{c M:Nat}{s:List P}
  (h:∀x ∈ s,∃y:List P,y.length≤c/\R x y/\∀G L S a,p G L->Sp G S->S[r G]? = some (.lst (a.map .p))->a.length+c≤M->∃v L2 k,g x L=some v/\b v S=some (.nx,L2,k)/\p G L2/\Sp G k/\k[r G]? = some (.lst ((a++y).map .p))) :
  ∃f:P->List P,(s.flatMap f).length≤c * s.length/\(∀x ∈ s,R x (f x))/\∀G L S a,p G L->Sp G S->S[r G]? = some (.lst (a.map .p))->a.length+c * s.length≤M->∃q n,bb g b s L S=some (.nx,q,n)/\p G q/\Sp G n/\n[r G]? = some (.lst ((a++s.flatMap f).map .p)):=by
 let f:P->List P:=λx=>@dite _ (x ∈ s) (zE _) (λe=>Classical.choose (h x e)) λ_=>[]
 have d:∀x e,f x=Classical.choose (h x e):=λx e=>dif_pos e;have m:=λx e=>zD (h x e);obtain⟨w,u⟩:=jr (f:=f) λx e=>by rw[d x e];exact⟨(m x e).1,(m x e).2.2⟩
 exact⟨f,w,λx e=>by rw[d x e];exact(m x e).2.1,u⟩
theorem jN{S:az}{r:Nat}{o x:SO}(h:S[r]? = some o):(S.set r x)[r]? = some x:=by rw[cc (bF h)]
theorem n_{r:EE}{a:EV}{L:Lc}{S x:az}{k:Nat}{c y:List P}(n:r L S=some (.ref k,S))(h:S[k]? = some (.lst (c.map .p)))(s:a L S=some (.lst y,x))(e:x[k]? = some (.lst (c.map .p)))(l:c.length+y.length≤1000000):cj (gK r a) L S=some (.nx,L,x.set k (.lst ((c++y).map .p))):=by rw[cj,gK,n,av];simp only[d8,h,s,av,e,aR];rw[aj (by rw[oo];exact l),qC];rfl
theorem kW{r a:EE}{L:Lc}{S x:az}{k:Nat}{c:List P}{y:P}(n:r L S=some (.ref k,S))(h:S[k]? = some (.lst (c.map .p)))(s:a L S=some (.p y,x))(e:x[k]? = some (.lst (c.map .p)))(l:c.length≤1000000):cj (bH r a) L S=some (.nx,L,x.set k (.lst ((c++[y]).map .p))):=by rw[cj,bH,n,av];simp only[d8,h,s,av,e];rw[aj (by rw[mX,aR];exact l),qC];rfl
theorem Ky{B:BD}(m:BP B){f:P}(n:f ∈ B.fams):aX f ∈ B.N:=by
 have p:1≤iJ f:=by
  obtain⟨q,c,o,e,w,t,h,rfl⟩:=m.hf f n;have:=h.hcr.1
  simp[iJ];lia
 have y:∀(a:List P)(k:Nat),f ∈ a->∃x ∈ hw k a,x.2=f:=by
  intro a;induction a with
  |nil=>intro k h;cases h
  |cons g r i=>
   intro k h;rcases aW.mp h with rfl|h
   .exact⟨(k,f),by unfold hw;exact lV _ (qJ.mpr ⟨by lia,rfl⟩),rfl⟩
   .obtain⟨x,s,b⟩:=i (k+1) h;exact⟨x,by unfold hw;exact fQ _ s,b⟩
 obtain⟨x,s,rfl⟩:=y B.fams 0 n;unfold BD.N aC aN;exact aM.mpr ⟨x.2,aM.mpr ⟨x,s,rfl⟩,rfl⟩
theorem R9{B:BD}{k:Nat}{f:P}(h:(aN B.fams)[k]? = some f):B.N[k]? = some (aX f):=by unfold BD.N aC;rw[dW,h];rfl
noncomputable abbrev a6(x:Str)(m w t:P)(c s:List P)(r:P):P:=.tup [.str x,m,w,t,.lst c,.lst s,r]
theorem oS(a b c d e f g:P):L2.atI [a,b,c,d,e,f,g] 3=some d:=b6 (by decide) rfl
theorem Nc(a b c d e f g:P):L2.atI [a,b,c,d,e,f,g] 4=some e:=b6 (by decide) rfl
theorem Li(a b c d e f g:P):L2.atI [a,b,c,d,e,f,g] 5=some f:=b6 (by decide) rfl
theorem DM(a b c d e f g:P):L2.atI [a,b,c,d,e,f,g] 6=some g:=b6 (by decide) rfl
theorem Ko(a b c d e f:P):L2.atI [a,b,c,d,e,f] 2=some c:=b6 (by decide) rfl
theorem SF(a b c d e f:P):L2.atI [a,b,c,d,e,f] 5=some f:=b6 (by decide) rfl
def jR(g:kY)(b:ES)(p:Lc->Prop)(x:P)(y:List P):Prop:=∀L a,p L->a.length+y.length≤100000->∃h L2 f,g x L=some h/\b h [.lst (a.map .p)]=some (f,L2,[.lst ((a++y).map .p)])/\(f=.nx\/f=.ct)/\p L2
theorem vP:∀{s:List n},(∀x ∈ s,jR g b p (c x) (f x))->∀L a,p L->a.length+(s.flatMap f).length≤100000->∃e,bb g b (s.map c) L [.lst (a.map .p)]=some (.nx,e,[.lst ((a++s.flatMap f).map .p)])/\p e
 | [],_,L,a,k,_=>⟨L,by simp[bb],k⟩
 |x::s,h,L,a,k,M=>by rw[dU,bg]at M;obtain⟨u,L2,l,m,r,d,q⟩:=h x ar L a k (by lia);obtain⟨e,t,v⟩:=vP (s:=s) (λy w=>h y (ao _ w)) L2 (a++f x) q (by rw[bg];lia);refine⟨e,?_,v⟩;rw[dU,<- cR,<- t];rcases d with rfl|rfl<;>simp[bb,m,r]
theorem turns(h:∀x ∈ xs,jR g b Lp x (f x))(L:Lc)(a:List P)(s:Lp L)(M:a.length+(xs.flatMap f).length≤100000):∃e,bb g b xs L [.lst (a.map .p)]=some (.nx,e,[.lst ((a++xs.flatMap f).map .p)])/\Lp e:=by have:=vP (c:=id) h L a s M;rwa [nv]at this
inductive LetOk(B:BD)(rds:List P)(hd:Nat)(y:P):Prop
 |mk (s sp k:Nat) (ls:List P):y=.tup [.int (s:Int),.int (sp:Int)]->DN B s hd=some k->k < rds.length->rds[k]? = some (.tup ls)->lg ls->sp < ls.length->LetOk B rds hd y
def J2(k:Str)(l:List P)(i:Nat):Bool:=if k="row" then decide (i=0) else decide (jP l (l[i]?.getD .non)=some i)
def BF(k:Str)(l:List P):List Nat:=(List.range l.length).filter (J2 k l)
def tM(m:Str)(l:List P)(i:Nat):Bool:=decide (aX (l.getD i .non)=m)
noncomputable abbrev Nd(s i:Nat):P:=.tup [.int (s:Int),.int (i:Int)]
noncomputable def Ng(b:Bool)(x:P):List P:=cond b [x] []
def Ni(v:P):Nat:=(iv (fV v 0)).toNat
theorem Pk(i:Nat)(x:P):Ni (.tup [.int (i:Int),x])=i:=rfl
theorem Cj(a:n->Bool)(f:n->P):∀s:List n,(s.flatMap λx=>Ng (a x) (f x))=(s.filter a).map f
 | []=>rfl
 |x::s=>by rw[dU,Cj a f s,AL];cases a x<;>rfl
theorem Ds{l:List P}{a:Nat->Bool}{f:Nat->P}:((bJ 0 l).flatMap λv=>Ng (a (Ni v)) (f (Ni v)))=((List.range l.length).filter a).map f:=by rw[Cp,jz,<- Cj];rfl
abbrev G7(B:BD)(h u:List P)(hd:Nat)(step:P)(x a e s n q:Option D):Lc:=[O (a8 B),qt [.tup h,.tup u],Y (hd:Int),O step,qr 0,x,a,e,s,n,q]
abbrev Qx(B:BD)(h u:List P)(hd:Nat)(step:P)(L:Lc):Prop:=∃x a e s n q,L=G7 B h u hd step x a e s n q
theorem Md{B:BD}(hP:BP B){n:Nat}(w:List P){u:List P}{hd s k:Nat}(hg:DN B s hd=some k){ra rb d:Str}{c:Int}{Z d2:Bool}{a b:Nat}(hk:B.PR[k]? = some (pr (.tup [.str ra,.str rb,.str d,.int c,.bl Z,.bl d2]) a b)){h:List P}(K:lg h)(R:u[k]? = some (.tup h)){t:Str}{S:List P}(x:Str)(o F r:P)(g H:List P) :
  jR (af 5) (cg (Ph (n+6))) (Qx B w u hd (a6 x o F (.tup (.str t::S)) g H r)) (.int (s:Int)) (((BF d h).filter (tM t h)).map (Nd s)):=by
 have er:=wr (k:=n+1) hP (s:Int) (hd:Int);rw[hg]at er;have ep:=rf (n:=n+2) hP;have Q:L2.atI (bt (aC B.fams) B.roads) (k:Int)=some (pr (.tup [.str ra,.str rb,.str d,.int c,.bl Z,.bl d2]) a b):=ba hk;intro L p ⟨q5,q6,q7,C,D,q,e⟩ M;subst e;have N:∀v ∈ bJ 0 h,jR (aP [af 8,af 9]) (gc (Ph (n+6))) (λL=>∃C D q,L=G7 B w u hd (a6 x o F (.tup (.str t::S)) g H r) (Y (s:Int)) (Y (k:Int)) (qt h) C D q) v (Ng (J2 d h (Ni v) && tM t h (Ni v)) (Nd s (Ni v))):=λv hv=>by
  obtain⟨i,hi,V⟩:=h_.mp hv;obtain⟨l,E,rfl⟩:=fL (s:=h) (i:=i) (v:=v) (by rw[bj hi,V]);obtain⟨m,z,_,_,rfl⟩:=K.2 l (aZ E);obtain⟨j,_,ej⟩:=nW (λy hy=>bY (K.2 y hy).ok (by decide)) (aZ E);intro L p ⟨C,D,q,e⟩ M;subst e;have T:p.length≤1000000:=by lia
  rw[Pk];have e1:J2 d h i=if d="row" then decide (i=0) else decide (j=i):=by unfold J2;rw[E,vg,ej];simp
  have e2:tM t h i=decide (m=t):=by unfold tM;rw[ie,E];rfl
  rw[e1,e2];refine⟨_,G7 B w u hd (a6 x o F (.tup (.str t::S)) g H r) (Y (s:Int)) (Y (k:Int)) (qt h) (Y (i:Int)) (qt [.str m,.int z]) (O (.bl (if d="row" then decide (i=0) else decide (j=i)))),.nx,rfl,?_,.inl rfl,_,_,_,rfl⟩;unfold gc;rw[ag (e:=G7 B w u hd (a6 x o F (.tup (.str t::S)) g H r) (Y (s:Int)) (Y (k:Int)) (qt h) (Y (i:Int)) (qt [.str m,.int z]) (O (.bl (decide (j=i)))) ) (c:=[.lst (p.map .p)]) (by simp[ej,Int.ofNat_inj])];rw[ag (e:=G7 B w u hd (a6 x o F (.tup (.str t::S)) g H r) (Y (s:Int)) (Y (k:Int)) (qt h) (Y (i:Int)) (qt [.str m,.int z]) (O (.bl (if d="row" then decide (i=0) else decide (j=i))))) (c:=[.lst (p.map .p)]) (by by_cases hr:d="row"<;>simp[ep,Q,pr,hr])];generalize (if d="row" then decide (i=0) else decide (j=i))=fb;cases fb with
  |false=>simp[Ng]
  |true=>
   by_cases hm:m=t
   .simp [Ng,oS,hm,d8,T]
   .simp [Ng,oS,hm]
 have I:=Ds (l:=h) (a:=λi=>J2 d h i && tM t h i) (f:=Nd s);have G:((BF d h).filter (tM t h)).map (Nd s)=((List.range h.length).filter λi=>J2 d h i && tM t h i).map (Nd s):=by unfold BF;rw[AR];congr 1;exact nB λi _=>Bool.and_comm ..
 rw[G,<- I]at M ⊢;obtain⟨L',e3,W,X,A,rfl⟩:=turns N (G7 B w u hd (a6 x o F (.tup (.str t::S)) g H r) (Y (s:Int)) (Y (k:Int)) (qt h) C D q) p ⟨_,_,_,rfl⟩ M;refine⟨G7 B w u hd (a6 x o F (.tup (.str t::S)) g H r) (Y (s:Int)) q6 q7 C D q,G7 B w u hd (a6 x o F (.tup (.str t::S)) g H r) (Y (s:Int)) (Y (k:Int)) (qt h) W X A,.nx,rfl,?_,.inl rfl,⟨_,_,_,_,_,_,rfl⟩⟩;unfold cg;rw[ag (by simp[er,FD];exact⟨rfl,rfl⟩)];rw[ag (by simp[mj,cv];exact⟨rfl,rfl⟩)];rw[ag (by simp[ba R];exact⟨rfl,rfl⟩)];rw[bq];simp only[iD,vE,Jy,A0,List.getElem?_cons_zero,av,J1];exact e3
theorem Iu{l:List P}(h:l.length≤3):bu (BF "row" l)=cut (intsFrom 0 l.length) none (some 1):=by
 have e:BF "row" l=(List.range l.length).filter λi=>decide (i=0):=by unfold BF;exact nB λi _=>by simp[J2]
 rw[e];generalize l.length=n at h;match n,h with
 |0,_=>rfl
 |1,_=>rfl
 |2,_=>rfl
 |3,_=>rfl
theorem EM{k:Str}(h:¬k="row")(l:List P):BF k l=Eu k l:=nB λi _=>by simp[J2,h]
theorem Fi(a:Nat):DN B a a=none:=by
 cases e:DN B a a with
 |none=>rfl
 |some k=>
  obtain⟨r,x,y,_,m,t,b⟩:=yW e;have:=aZ b
  unfold BD.PR bt at this;obtain⟨p,_,h⟩:=dt.mp this;obtain⟨q,_,h⟩:=dt.mp h;obtain⟨v,s,n⟩:=aM.mp h;have f:=(eR.mp s).2;have c:=rh (gZ i8 n);simp at f;lia
theorem K_{B:BD}(hP:BP B)(Q:Places B){n:Nat}{u:List P}(hr:bP B u){hd s k:Nat}(hp:DN B s hd=some k){f:Str}{g:List P} :
  ∃N:List P,N.length≤3/\((∀y ∈ N,LetOk B u hd y)/\∀n W x rm wh A H sn,jR (af 5) (cg (Ph (n+6))) (Qx B W u hd (a6 x rm wh (.tup (.str f::g)) H sn A)) (.int (s:Int)) N)/\∀(b i:Nat)(S:az)(r:Nat)(j:List P)(q6 q7 I M:Option D),Bd B b i S->S[r]? = some (.lst (j.map .p))->j.length+3≤1000000 ->
   ∃q6' q7' q8' q9',fY (Ph (n+2)) [qr i,qt u,Y (hd:Int),qt (.str f::g),qr r,Y (s:Int),q6,q7,I,M] S=some (.nx,[qr i,qt u,Y (hd:Int),qt (.str f::g),qr r,Y (s:Int),q6',q7',q8',q9'],S.set r (.lst ((j++N).map .p))):=by
 obtain⟨road,a,b',V,_,_,R⟩:=yW hp;have C:dn [.inl (s:Int),.inl (hd:Int)] B.ks B.vs=Y (k:Int):=by rw[Q.ex,hp];rfl
 obtain⟨T,l,t,F⟩:=hr.at R;obtain⟨ra,rb,e,c,d1,d2,ha,hb,hkd,hc1,hc2,rfl⟩:=hP.hr road V;have h3:=t.1;have w:=λn W x rm wh A H sn=>Md (n:=n) hP W hp R t F (t:=f) (S:=g) x rm wh A H sn;have es:∀(L:Lc)(S:az),L[7]? = some (qs e)->L[8]? = some (qt l)->N1 (aS yF (U (vt "row"))) (i5 (N0 (dP DL)) cY (cV bX)) (cy (Ph (n+2) "unlike_spots") (v2 iC lc)) L S=some (.lst (bu (BF e l)),S):=λL S h7 h8=>by
  have hq:l.length < 1000000:=by lia
  by_cases o:e="row"
  .rw [o,Iu h3];simp[h7,h8,o,dQ,eX,hq]
  .rw [EM o];simp[h7,h8,o,JY (n:=n) e t]
 have K:∀v ∈ bu (BF e l),RJ l.length v:=λv G=>by obtain⟨i,hi,rfl⟩:=aM.mp G;exact⟨i,lQ.mp (eR.mp hi).1,rfl⟩
 have E:(bu (BF e l)).length≤3:=by unfold bu BF;rw[aR];exact aF (ib ..) (by rw[AO];exact h3)
 let p:P->Bool:=λv=>tM f l (iv v).toNat
 have hyy:((bu (BF e l)).filter p).map (λv=>P.tup [.int (s:Int),v])=((BF e l).filter (tM f l)).map (Nd s):=by unfold bu;rw[km,gC];rfl
 rw[<- hyy]at w;generalize hsp:bu (BF e l)=q at E K es w;refine⟨(q.filter p).map λv=>.tup [.int (s:Int),v],by rw[aR];exact aF (ib ..) E,⟨λy hy=>?_,w⟩,λb i S r j q6 q7 I M hB hS hM=>?_⟩
 .obtain⟨v,G,rfl⟩:=aM.mp hy;obtain⟨x,Z,rfl⟩:=K v (eR.mp G).1;exact⟨s,x,k,l,rfl,hp,T,F,t,Z⟩
 .obtain⟨jh,jp,jl,jm,mk,mv,h⟩:=hB;have e2:bN (af 10) (aS (U (ab (ab lc ku) cI)) (U (ab dF cI))) (aI (v2 jB ku)) q [qr i,qt u,Y (hd:Int),qt (.str f::g),qr r,Y (s:Int),Y (k:Int),qs e,qt l,ql q,none] S=some ((q.filter p).map λv=>.tup [.int (s:Int),v],S):=
   bW (Inv:=λL=>∃d,L=[qr i,qt u,Y (hd:Int),qt (.str f::g),qr r,Y (s:Int),Y (k:Int),qs e,qt l,ql q,d]) (λv G L Q=>by obtain⟨d,rfl⟩:=Q;obtain⟨x,Z,rfl⟩:=K v G;have C:l[x]? = some l[x]:=bj Z;obtain⟨m,z,_,_,hz⟩:=t.2 l[x] (gF _);rw[hz]at C;refine⟨[qr i,qt u,Y (hd:Int),qt (.str f::g),qr r,Y (s:Int),Y (k:Int),qs e,qt l,ql q,Y (x:Int)],rfl,⟨_,rfl⟩,?_,λ_=>by simp⟩;simp[ba C,p,tM,C,aX]) ⟨none,rfl⟩
  refine⟨Y (k:Int),qs e,qt l,ql q,?_⟩;have X:q.length≤1000000:=by lia
  unfold fY;refine(ag (e:=[qr i,qt u,Y (hd:Int),qt (.str f::g),qr r,Y (s:Int),Y (k:Int),q7,I,M]) (c:=S) ?_).trans ?_
  .rw [am,x2,h.places rfl];simp[mW,h.pl,eJ,cZ,C]
  refine(ag (e:=[qr i,qt u,Y (hd:Int),qt (.str f::g),qr r,Y (s:Int),Y (k:Int),qs e,I,M]) (c:=S) ?_).trans ?_
  .rw [am,i_,i_,h.pr.ix (h.pairs rfl) (i:=(k:Int)) rfl (ba R)];simp[pr]
  rw[ag (by simp[ba F];exact⟨rfl,rfl⟩)];refine(ag (e:=[qr i,qt u,Y (hd:Int),qt (.str f::g),qr r,Y (s:Int),Y (k:Int),qs e,qt l,ql q]) (c:=S) ?_).trans ?_
  .rw [am,U,es _ S rfl rfl];rfl
  refine n_ rfl hS ?_ hS (by rw[aR];have:=ib p q;lia);simp only[bE,fG,vE];simp[X,li,e2]
theorem Io{B:BD}(C:BP B)(hL:Places B){n:Nat}{hd:Nat}{f:P}(hf:(aN B.fams)[hd]? = some f){u whos:List P}(hr:bP B u){tk:P}(ht:kF (aX f) B.roads whos tk) :
  ∃A:List P,A.length≤12/\((∀y ∈ A,(tk=.non/\y=.non)\/(tk≠.non/\LetOk B u hd y))/\∀n l x H K w p F,dM (Ph (n+7) "_law_letters") [a8 B,.tup [.tup l,.tup u],.int (hd:Int),a6 x H K tk p F w]=some (.lst A))/\∀(b i:Nat)(S:az),Bd B b i S->∃d T,Ph (n+4) "takeable" [.ref i,.p (.tup u),.p (.int (hd:Int)),.p tk] S=some (d,T)/\Fr b S T/\tB S T d A:=by
 rcases ht with rfl|⟨m,a,t,j,_,_,_,_,⟨r,hrm,hrb,rfl⟩,_,rfl⟩
 .refine⟨[.non],by simp,⟨λy hy=>.inl ⟨rfl,by simpa using hy⟩,λn l x H K w p F=>by rw[k6,aJ];simp[iP,oS,mj,cv]⟩,λb i S X=>⟨.p (.lst [.non]),S,?_,Fr.refl _ _,.inl rfl⟩⟩;rw[oe];simp[jS,kP,mj,cv]
 .have l:rA r ∈ B.N:=by
   obtain⟨⟨f',h1,h2⟩,_⟩:=C.ra r hrm;rw[<- h2];exact Ky C h1
  obtain⟨f5,h1,h2,h3⟩:=g6 (t:=GC B) (g:=af 5) (b:=fY (Ph (n+3))) (Sp:=λG S=>Fr G.b G.S0 S) (r:=λG=>G.r) (R:=λx' A=>(∀y ∈ A,LetOk B u hd y)/\∀n l x H K w p F,jR (af 5) (cg (Ph (n+6))) (Qx B l u hd (a6 x H K (.tup [.str m,.str (rA r),.str t,.str j]) p F w)) x' A) (c:=3) (M:=1000) (s:=bu (oth B.N (rA r) hd))
   (p:=fun G L=>∃q5 Q D E I,L=[qr G.i,qt u,Y (hd:Int),qt [.str m,.str (rA r),.str t,.str j],qr G.r,q5,Q,D,E,I]) (fun x hx=>by
    unfold bu at hx;obtain⟨s,l,rfl⟩:=aM.mp hx;unfold oth at l;rw[eR]at l;have z:s≠hd:=λq=>by have:=l.2;simp[q]at this
    obtain⟨k,hg⟩:=IP (PL hrm (j5.mp l.1) (by rw[R9 hf,hrb]) z);obtain⟨A,k1,k2,k3⟩:=K_ C hL (n:=n+1) hr hg (f:=m) (g:=[.str (rA r),.str t,.str j]);refine⟨A,k1,k2,λG L S V hL' hS h hM=>?_⟩;obtain⟨q5,Q,D,E,I,rfl⟩:=hL';obtain⟨q6',q7',q8',q9',e⟩:=k3 G.b G.i S G.r V Q D E I (G.bd.fr hS) h (by lia);exact⟨_,_,_,rfl,e,⟨_,_,_,_,_,rfl⟩,hS.set G.le G.hr _,jN h⟩)
  have hol:(bu (oth B.N (rA r) hd)).length≤4:=by
   have h4:B.N.length≤4:=kI C;have:=dE B.N (rA r)
   have:=ib (λo=>!decide (hd=o)) (bQ B.N (rA r));simp[bu,oth];lia
  refine⟨(bu (oth B.N (rA r) hd)).flatMap f5,by lia,⟨λy hy=>.inr ⟨λq=>(by cases q),by obtain⟨x,hx,hy⟩:=dt.mp hy;exact(h2 x hx).1 y hy⟩,λn l x H K w p F=>?_⟩,λb i S X=>?_⟩
  .have Z:(bu (bQ B.N (rA r))).flatMap (λv=>if (!decide (hd=(iv v).toNat))=true then f5 v else [])=(bu (oth B.N (rA r) hd)).flatMap f5:=by
    unfold bu oth;rw[jz,jz];exact(jI (λo=>!decide (hd=o)) _ _).symm
   obtain⟨L',e,q5,Q,D,E,I,N,rfl⟩:=turns (xs:=bu (bQ B.N (rA r))) (f:=fun v=>if (!decide (hd=(iv v).toNat))=true then f5 v else []) (g:=af 5) (b:=cg (Ph (n+6))) (Lp:=Qx B l u hd (a6 x H K (.tup [.str m,.str (rA r),.str t,.str j]) p F w)) (fun v hv=>by
    obtain⟨s,hs',rfl⟩:=aM.mp hv;by_cases z:hd=s
    .subst z;intro L V ⟨q5,Q,D,E,I,N,e⟩ _;subst e;have er:=wr (k:=n+1) C (hd:Int) (hd:Int);rw[Fi]at er;refine⟨G7 B l u hd (a6 x H K (.tup [.str m,.str (rA r),.str t,.str j]) p F w) (Y (hd:Int)) Q D E I N,G7 B l u hd (a6 x H K (.tup [.str m,.str (rA r),.str t,.str j]) p F w) (Y (hd:Int)) (O .non) D E I N,.ct,rfl,?_,.inr rfl,⟨_,_,_,_,_,_,rfl⟩⟩;simp[cg,er,FD,mj,cv,P6,iv]
    .have:(!decide (hd=(iv (.int (s:Int))).toNat))=true:=by simp[iv,z]
     rw[aj this];exact(h2 _ (aM.mpr ⟨s,eR.mpr ⟨hs',by simp[z]⟩,rfl⟩)).2 n l x H K w p F) (G7 B l u hd (a6 x H K (.tup [.str m,.str (rA r),.str t,.str j]) p F w) none none none none none none) [] ⟨_,_,_,_,_,_,rfl⟩ (by rw[Z,qB];lia)
   rw[Z]at e;have ec:=j4 (n:=n+3) C.hf C.f0.2 (.lst B.roads) (.lst B.wishes) (rA r);rw[k6,aJ];simp only[eE,cH]at e;have ec':dM (Ph (n+6) "_law_crew") [a8 B,.str (rA r)]=some (.lst (bu (bQ B.N (rA r)))):=ec;simp[iP,oS,mj,cv,ec',e]
  have Dq:=Fr.app b S [.lst []];obtain⟨S1,e1,W⟩:=GV (n:=n+1) C (X.fr Dq) hd l;have frA:=Dq.trans W;have hb:=X.le;obtain⟨L',T,e2,⟨q5,Q,D,E,I,rfl⟩,frB,hl⟩:=h3 ⟨b,i,S,S.length,X,ah _⟩ [qr i,qt u,Y (hd:Int),qt [.str m,.str (rA r),.str t,.str j],qr S.length,none,none,none,none,none] S1 [] ⟨_,_,_,_,_,rfl⟩ frA (W.hi _ _ hb (gS _ _)) (by simp;lia);refine⟨.ref S.length,T,?_,frB,.inr ⟨S.length,ah _,rfl,.inl hl⟩⟩;rw[oe];have hB2:=X.fr Dq;obtain⟨jh,jp,jl,jm,mk,mv,hb2⟩:=hB2;have em:fg (mT Tb (Ph (n+3))) fE "hands_beside" (rY i4 (U (ab dF bX))) [qr i,qt u,Y (hd:Int),qt [.str m,.str (rA r),.str t,.str j],qr S.length,none,none,none,none,none] (S++[.lst []])=some (.p (.lst (bu (oth B.N (rA r) hd))),S1):=
   (hb2.meth rfl (Ss _) SE (d:=[.p (.int (hd:Int)),.p (.str (rA r))]) (by simp)).trans e1
  simp[jS,kP,mj,cv,-fg,em,e2]
def l_(v:P):Prop:=∃j:Int,v=.int j
theorem l_.ok(h:l_ v)(n:Nat):cK n v=true:=by obtain⟨j,rfl⟩:=h;simp
abbrev Nx(B:BD)(hd:Int)(G:P)(K:List bG)(V:List P)(u:List P)(x a e s n q h:Option D):Lc:=[O (a8 B),Y hd,O G,O (.dct K V),qt u,x,a,e,s,n,q,h]
def R'(B:BD)(K:List bG)(V:List P)(hd:Int)(m:Str)(tr:P)(t:Int)(u:List P)(s:Option (List P)):Prop:=∀(n:Nat)(G:P)(f b e k:Option D),∃x a q h,bU (Ph (n+6)) (Nx B hd G K V u (qs m) (O tr) (Y t) f b e k) []=match s with
 |none=>some (.rt (.p .non),Nx B hd G K V u (qs m) (O tr) (Y t) x a q h,[])
 |some r=>some (.nx,Nx B hd G K V r (qs m) (O tr) (Y t) x a q h,[])
def lM(B:BD)(K:List bG)(V:List P)(hd:Int)(g:List P)(u:List P)(s:Option (List P)):Prop:=∀(n:Nat)(G:P)(m t p v d x a:Option D),∃L e k f b c q h,bb (aP [af 5,af 6,af 7]) (bU (Ph (n+6))) g (Nx B hd G K V u m t p v d x a) []=match s with
 |none=>some (.rt (.p .non),L,[])
 |some r=>some (.nx,Nx B hd G K V r e k f b c q h,[])
section
variable{B:BD}{K:List bG}{V:List P}{hd t:Int}{m:Str}{tr:P}{u:List P}{s:Option (List P)}
theorem lM.nil:lM B K V hd [] u (some u):=λ_ _ x a e s n q h=>⟨[],x,a,e,s,n,q,h,rfl⟩
theorem lM.no(h:R' B K V hd m tr t u none)(g:List P):lM B K V hd (.tup [.str m,tr,.int t]::g) u none:=λn G b c r k f q x=>by obtain⟨p,v,a,s,e⟩:=h n G k f q x;exact⟨_,b,c,r,k,f,q,x,lB rfl e⟩
theorem lM.cons{r:List P}(h:R' B K V hd m tr t u (some r)){g:List P}(y:lM B K V hd g r s):lM B K V hd (.tup [.str m,tr,.int t]::g) u s:=λn G H S F z o f b=>by obtain⟨c,p,q,x,e⟩:=h n G z o f b;obtain⟨L,v,d,w,i,j,a,k,l⟩:=y n G (qs m) (O tr) (Y t) c p q x;exact⟨L,v,d,w,i,j,a,k,(bo rfl e).trans l⟩
end
theorem v9{x:List P}(h:k < x.length)(l:x.length≤900000)(v:P):lE (.tup (x.take k)) (.tup [v])=some (.tup (x.take k++[v]))/\lE (.tup (x.take k++[v])) (.tup (x.drop (k+1)))=some (.tup (x.set k v)):=by refine⟨eN (by rw[hY];simp;lia),(eN (by simp;lia)).trans ?_⟩;rw[A8,aj h,cR];rfl
theorem LF{B:BD}(hP:BP B)(hL:Places B){n:Nat}{u:List P}(hr:bP B u)(hd t v:Int){m:Str}(hm:aq m=true){K:List bG}{V:List P}{tr:P}(hv:yh K V 4 tr v) :
  ∃s:Option (List P),(∀E,s=some E->bP B E)/\R' B K V hd m tr t u s/\∀(b i:Nat)(S:az)(e:P)(o r x:Option D),Bd B b i S->∃q6' q7' q8',
   il (Ph (n+2)) [qr i,qt u,Y hd,O e,qt [.str m,.int v],Y t,o,r,x] S=match s with
    |none=>some (.rt (.p .non),[qr i,qt u,Y hd,O e,qt [.str m,.int v],Y t,q6',q7',q8'],S)
    |some E=>some (.nx,[qr i,qt E,Y hd,O e,qt [.str m,.int v],Y t,q6',q7',q8'],S):=by
 have I:=hL.ex hd t;have M:=λn:Nat=>wr (k:=n+1) hP hd t;have W:=λn:Nat=>(hv (n+2)).2 (.p (.dct K V)) [] (.inl rfl);have ep:=λn:Nat=>rf (n:=n+2) hP;cases F:DN B hd t with
 |none=>
  rw[F]at I M;have I:dn [.inl hd,.inl t] B.ks B.vs=none:=I;refine⟨none,λ_ q=>(by cases q),λn G x q9 y z=>⟨O .non,Y v,y,z,by simp[bU,M n,W n,FD,mj,cv,trunc]⟩,λb i S e o r x d=>⟨O .non,r,x,?_⟩⟩;obtain⟨jh,jp,jl,jm,mk,mv,h⟩:=d;unfold il;refine(ag (e:=[qr i,qt u,Y hd,O e,qt [.str m,.int v],Y t,O .non,r,x]) (c:=S) ?_).trans (mU ?_)
  .rw [am,uF,h.places rfl];simp[mW,h.pl,eJ,cZ,I]
  .simp [mj,cv]
 |some k=>
  rw[F]at I M;have I:dn [.inl hd,.inl t] B.ks B.vs=Y (k:Int):=I;obtain⟨road,a,b',hro,_,_,hk⟩:=yW F;have Z:L2.atI (bt (aC B.fams) B.roads) (k:Int)=some (pr road a b'):=ba hk;have hl9:∀{l:List P},lg l->l.length≤999999:=λh=>aF h.1 (by decide);obtain⟨hkl,l,Q,g⟩:=hr.at hk;obtain⟨ra,rb,kd,c,d1,d2,ha,hb,hkd,hc1,hc2,j⟩:=hP.hr road hro;have R:L2.atI [P.str ra,.str rb,.str kd,.int c,.bl d1,.bl d2] 3=some (.int c):=b6 (by decide) rfl;have s1:∀(b i:Nat)(S:az)(e:P)(o r x:Option D),Bd B b i S->am 6 (uF (fh (aT Att) fE "places") (v2 dh jB)) [qr i,qt u,Y hd,O e,qt [.str m,.int v],Y t,o,r,x] S=some (.nx,[qr i,qt u,Y hd,O e,qt [.str m,.int v],Y t,Y (k:Int),r,x],S):=λb i S e o r x d=>by obtain⟨jh,jp,jl,jm,mk,mv,h⟩:=d;rw[am,uF,h.places rfl];simp[mW,h.pl,eJ,cZ,I]
  by_cases hv0:v.natAbs≤999
  .have C:¬(999:Int) < v:=by lia
   have p:¬v < -999:=by lia
   have A:¬(999:Int) < (if v < 0 then -v else v):=by split<;>lia
   by_cases hf:c≤(l.length:Int)
   .have N:c < (l.length:Int)+1:=by lia
    refine⟨none,λ_ q=>(by cases q),λn G x q9 y z=>⟨Y (k:Int),Y v,O road,ql (l++[.tup [.str m,.int v]]),by subst j;simp[bU,M n,W n,FD,mj,cv,trunc,C,p,ep n,Z,pr,ba g,gb,dQ,eX,R,N,hl9 Q]⟩,λb i S e o r x d=>⟨Y (k:Int),O road,x,?_⟩⟩;refine(ag (s1 b i S e o r x d)).trans ((ag (e:=[qr i,qt u,Y hd,O e,qt [.str m,.int v],Y t,Y (k:Int),r,x]) (c:=S) ?_).trans ((ag (e:=[qr i,qt u,Y hd,O e,qt [.str m,.int v],Y t,Y (k:Int),O road,x]) (c:=S) ?_).trans (mU ?_)))
    .simp [mj,cv,pN,A]
    .obtain⟨jh,jp,jl,jm,mk,mv,h⟩:=d;rw[am,i_,h.pr.ix (h.pairs rfl) (i:=(k:Int)) rfl (ba hk)];simp[pr]
    .simp [j,ba g,dQ,eX,R,hf]
   .have hl3:(l++[P.tup [.str m,.int v]]).length≤3:=by simp;lia
    have hlz:lg (l++[P.tup [.str m,.int v]]):=⟨hl3,eM Q.2 ⟨m,v,hm,hv0,rfl⟩⟩;have ea:=eN (s:=l) (y:=[P.tup [.str m,.int v]]) (by simp at hl3 ⊢;lia);obtain⟨zs,hz,ez⟩:=uj hlz;have F:=tt hP;have hrl:=hr.1;have T:=λ(w:P)=>ss (n:=n) (x:=u) (k:=k) hkl (by lia) w;obtain⟨f,X,L⟩:∃f,lg f/\((kd="heap"/\f=zs)\/(¬kd="heap"/\f=l++[P.tup [.str m,.int v]])):=by
     by_cases H:kd="heap"
     .exact⟨zs,hz,.inl ⟨H,rfl⟩⟩
     .exact⟨_,hlz,.inr ⟨H,rfl⟩⟩
    have N:¬c < (l.length:Int)+1:=by lia
    refine⟨some (u.set k (.tup f)),λ_ q=>by cases q;exact hr.set k X,λn G x q9 y z=>⟨Y (k:Int),Y v,O road,ql f,?_⟩,λb i S e o r x d=>⟨Y (k:Int),O road,qt f,?_⟩⟩
    .have es:=v9 hkl (by lia) (.tup f);have hle:u.length≤900000:=by lia
     subst j;unfold bU;rw [ag (by simp [M n,FD];exact⟨rfl,rfl⟩)];rw [ag (by simp [W n,trunc];exact⟨rfl,rfl⟩)];rw [ag (by simp [mj,cv,C,p];exact⟨rfl,rfl⟩)];rw [ag (by simp [ep n,Z,pr];exact⟨rfl,rfl⟩)];rw [ag (by simp [ba g,gb,hl9 Q];exact⟨rfl,rfl⟩)];rw [ag (by simp [dQ,eX,R,N];exact⟨rfl,rfl⟩)];rw [ag (e:=Nx B hd G K V u (qs m) (O tr) (Y t) (Y (k:Int)) (Y v) (qt [.str ra,.str rb,.str kd,.int c,.bl d1,.bl d2]) (ql f)) (c:=[]) (by
      rcases L with ⟨H,rfl⟩|⟨H,rfl⟩
      .simp [H,CY,EU,ez]
      .simp [H])]
     simp[bO,kM,jc,es.1,es.2]
    refine(ag (s1 b i S e o r x d)).trans ((ag (e:=[qr i,qt u,Y hd,O e,qt [.str m,.int v],Y t,Y (k:Int),r,x]) (c:=S) ?_).trans ((ag (e:=[qr i,qt u,Y hd,O e,qt [.str m,.int v],Y t,Y (k:Int),O road,x]) (c:=S) ?_).trans ?_))
    .simp [mj,cv,pN,A]
    .obtain⟨jh,jp,jl,jm,mk,mv,h⟩:=d;rw[am,i_,h.pr.ix (h.pairs rfl) (i:=(k:Int)) rfl (ba hk)];simp[pr]
    rcases L with ⟨H,rfl⟩|⟨H,rfl⟩
    .simp [j,ba g,dQ,eX,R,hf,ea,H,CY,EU,ez,bO,T]
    .simp [j,ba g,dQ,eX,R,hf,ea,H,T]
  .have A:(999:Int) < (if v < 0 then -v else v):=by split<;>lia
   have C:(999:Int) < v\/v < -999:=by lia
   refine⟨none,fun _ q=>(by cases q),fun n G x q9 y z=>⟨Y (k:Int),Y v,y,z,by
    by_cases p:(999:Int) < v
    .simp [bU,M n,W n,FD,mj,cv,trunc,p]
    .simp [bU,M n,W n,FD,mj,cv,trunc,p,C.resolve_left p]⟩,λb i S e o r x d=>⟨Y (k:Int),r,x,?_⟩⟩
   refine(ag (s1 b i S e o r x d)).trans (mU ?_);simp[mj,cv,pN,A]
abbrev xR(m:Str)(tr t:P):P:=.tup [.str m,tr,t]
structure PoL(B:BD)(K:List bG)(V:List P)(hd v:Int)(m:Str)(tr:P)(ts rds:List P)(res:Option (List P)):Prop where
 ok:∀rs',res=some rs'->bP B rs'
 no:res=none->∀gs,lM B K V hd (ts.map (xR m tr)++gs) rds none
 on:∀r,res=some r->∀gs res2,lM B K V hd gs r res2->lM B K V hd (ts.map (xR m tr)++gs) rds res2
theorem BO{B:BD}(M:BP B)(I:Places B){n:Nat}(hd v:Int){m:Str}(N:aq m=true){K:List bG}{V:List P}{tr:P}(R:yh K V 4 tr v):∀{z:List P},(∀t ∈ z,l_ t)->∀{u:List P},bP B u ->
  ∃s:Option (List P),PoL B K V hd v m tr z u s/\∀(b i:Nat)(S:az)(w:P)(l c p d:Option D),Bd B b i S->∃L E a k f,
   bb (af 5) (il (Ph (n+2))) z [qr i,qt u,Y hd,O w,qt [.str m,.int v],l,c,p,d] S=match s with
    |none=>some (.rt (.p .non),L,S)
    |some g=>some (.nx,[qr i,qt g,Y hd,O w,qt [.str m,.int v],E,a,k,f],S)
 | [],_,u,A=>⟨some u,⟨λ_ q=>by cases q;exact A,λq=>(by cases q),λ_ q _ _ h=>by cases q;exact h⟩,λb i S w l c p d _=>⟨[],l,c,p,d,rfl⟩⟩
 |t::z,Q,u,A=>by
  obtain⟨j,rfl⟩:=Q t ar;obtain⟨s,h1,F,G⟩:=LF M I (n:=n) A hd j v N R;cases s with
  |none=>refine⟨none,⟨λ_ q=>(by cases q),λ_ o=>lM.no F _,λ_ q=>(by cases q)⟩,λb i S w l c p d H=>?_⟩;obtain⟨a,k,f,e⟩:=G b i S w c p d H;exact⟨_,l,c,p,d,lB rfl e⟩
  |some g=>obtain⟨s,C,k2⟩:=BO M I (n:=n) hd v N R (z:=z) (λx hx=>Q x (ao _ hx)) (h1 g rfl);refine⟨s,⟨C.ok,λq o=>lM.cons F (C.no q o),λr q o y h=>lM.cons F (C.on r q o y h)⟩,λb i S w l c p d H=>?_⟩;obtain⟨a,k,f,e⟩:=G b i S w c p d H;obtain⟨L,T,W,X,Z,e2⟩:=k2 b i S w (Y j) a k f H;exact⟨L,T,W,X,Z,by rw[<- e2];exact bo rfl e⟩
theorem IJ{B:BD}(f:BP B)(L:Places B){n:Nat}(hd v:Int){m:Str}(c:aq m=true){K:List bG}{V:List P}{tr:P}(q:yh K V 4 tr v){h:List P}(p:∀t ∈ h,l_ t){u:List P}(r:bP B u) :
  ∃s:Option (List P),PoL B K V hd v m tr h u s/\∀(b i:Nat)(S:az),Bd B b i S->Ph (n+3) "posted" [.ref i,.p (.tup u),.p (.int hd),.p (.lst h),.p (.tup [.str m,.int v])] S=some (.p ((s.map P.tup).getD .non),S):=by
 obtain⟨s,x,a⟩:=BO f L (n:=n) hd v c q p r;refine⟨s,x,λb i S k=>?_⟩;obtain⟨d,_,_,_,_,e⟩:=a b i S (.lst h) none none none none k;rw[zh];cases s<;>simp[jS,tj,e]
end My
namespace My
open PySem L2 Ev
noncomputable def K'(x:List P×List P):P:=.tup [.tup x.1,.lst x.2]
def si(B:BD)(hd:Nat)(u j:List P)(w E:Str):List (List P×List P):=if w="who" then [([],[j.getD ((jP u (.str E)).getD 0) .non])] else if w="all" then [([],bu (oth B.N E hd))] else (bu (oth B.N E hd)).map λo=>([o],[o])
def PJ(x:List P×List P):Prop:=x.1.length≤1/\(∀a ∈ x.1,l_ a)/\∀t ∈ x.2,l_ t
noncomputable abbrev b0(E:Str)(C:Nat)(H l u A:List P):P:=.tup [.str E,.int (C:Int),.lst H,.lst l,.lst u,.lst A]
theorem q_{s:List P}(h:∀x ∈ s,kG x){x:Str}(a:P.str x ∈ s):∃i:Nat,i < s.length/\jP s (.str x)=some i:=nW (λy e=>(h y e).ok 19) a
theorem tg_ok{B:BD}(s:BP B){n:Nat}{hd:Nat}{E:Str}{C:Nat}{H l u A:List P}(Q:Fam B.roads E C H l u A)(p:(aN B.fams)[hd]? = some (b0 E C H l u A)){j:List P}(hw:j.length=u.length)(I:∀w ∈ j,l_ w){y m:Str}
  (hc:(y="who"/\P.str m ∈ u)\/((y="all"\/y="any")/\∃r ∈ B.roads,rA r=E/\m=rB r)) :
  (si B hd u j y m).length≤4/\(∀x ∈ si B hd u j y m,PJ x)/\∀(b i:Nat)(S:az),Bd B b i S->∃F,Ph (n+4) "targets_of" [.ref i,.p (.int (hd:Int)),.p (.str y),.p (.str m),.p (.tup j)] S=some (.p (.lst ((si B hd u j y m).map K')),F)/\Fr b S F:=by
 rcases hc with ⟨rfl,X⟩|⟨M,r,Z,hra,rfl⟩
 .obtain⟨k,hk,ek⟩:=q_ Q.hwh X;have W:j[k]? = some (j[k]'(by lia)):=bj (by lia);generalize hv:j[k]'(by lia)=v at W;have hvi:l_ v:=by rw[<- hv];exact I _ (gF _)
  have htg:si B hd u j "who" m=[([],[v])]:=by unfold si;rw[aj rfl,ek,vg,ie,W];rfl
  rw[htg];refine⟨by simp,λx N=>by rw[cS.mp N];exact⟨by simp,λ_ h=>(by cases h),λt R=>by rw[cS.mp R];exact hvi⟩,λb i S c=>⟨S,?_,Fr.refl _ _⟩⟩;have ef:=zf (n:=n+1) c p;obtain⟨jh,jp,jl,jm,mk,mv,h⟩:=c;have D:fg (mT Tb (Ph (n+3))) fE "family_of" (HV gq) [qr i,Y (hd:Int),qs "who",qs m,qt j,none] S=some (.p (b0 E C H l u A),S):=
   (h.meth rfl (Qc _) Qj (d:=[.p (.int (hd:Int))]) (by simp)).trans ef
  rw[js];simp[jS,gL,-fg,D,Nu,ek,ba W,K']
 .have hs:rB r ∈ B.N:=by
   obtain⟨_,⟨f',h1,h2⟩⟩:=s.ra r Z;rw[<- h2];exact Ky s h1
  have G:(bu (oth B.N (rB r) hd)).length≤4:=by
   have h4:B.N.length≤4:=kI s;have:=dE B.N (rB r)
   have:=ib (λo=>!decide (hd=o)) (bQ B.N (rB r));simp[bu,oth];lia
  have q:∀t ∈ bu (oth B.N (rB r) hd),l_ t:=λt R=>by unfold bu at R;obtain⟨o,_,rfl⟩:=aM.mp R;exact⟨_,rfl⟩
  have D:∀(b i:Nat)(S:az),Bd B b i S->∃F,fg (mT Tb (Ph (n+3))) fE "hands_beside" (rY gq oO) [qr i,Y (hd:Int),qs y,qs (rB r),qt j,none] S=some (.p (.lst (bu (oth B.N (rB r) hd))),F)/\Fr b S F:=λb i S c=>by obtain⟨z,K,e⟩:=GV (n:=n+1) s c hd hs;obtain⟨jh,jp,jl,jm,mk,mv,h⟩:=c;exact⟨z,(h.meth rfl (Ss _) SE (d:=[.p (.int (hd:Int)),.p (.str (rB r))]) (by simp)).trans K,e⟩
  unfold si;generalize bu (oth B.N (rB r) hd)=os at G q D;rcases M with rfl|rfl
  .rw [al (by simp),aj rfl];refine⟨by simp,λx N=>by rw[cS.mp N];exact⟨by simp,λ_ h=>(by cases h),q⟩,λb i S c=>?_⟩;obtain⟨z,K,e⟩:=D b i S c;refine⟨z,?_,e⟩;rw[js];simp[jS,gL,-fg,K,K']
  .rw [al (by simp),al (by simp)];refine⟨by simpa using G,λx N=>?_,λb i S c=>?_⟩
   .obtain⟨o,ho,rfl⟩:=aM.mp N;exact⟨by simp,λa T=>by rw[cS.mp T];exact q o ho,λa T=>by rw[cS.mp T];exact q o ho⟩
   .obtain⟨z,K,e⟩:=D b i S c;refine⟨z,?_,e⟩;have e2:bN (af 6) fm (aI (v2 (aI (v1 ig)) (bf (v1 ig)))) os [qr i,Y (hd:Int),qs "any",qs (rB r),qt j,ql os,none] z=some (os.map λo=>.tup [.tup [o],.lst [o]],z):=by
     rw[bW (p:=λ_=>true) (f:=λo=>.tup [.tup [o],.lst [o]]) (Inv:=λL=>∃d,L=[qr i,Y (hd:Int),qs "any",qs (rB r),qt j,ql os,d]) (λv hv L g=>?_) ⟨none,rfl⟩,ff];obtain⟨d,rfl⟩:=g;exact⟨[qr i,Y (hd:Int),qs "any",qs (rB r),qt j,ql os,O v],rfl,⟨_,rfl⟩,rfl,λ_=>by simp⟩
    have hq:os.length≤1000000:=by lia
    rw[js];have V:K' ∘ (λo:P=>([o],[o]))=λo=>.tup [.tup [o],.lst [o]]:=rfl;simp[jS,gL,-fg,K,bE,hq,li,e2,V]
def sL(y:P):Prop:=∃s p:Nat,y=.tup [.int (s:Int),.int (p:Int)]
noncomputable def sv:P->Str
 | .str s=>s
 |_=>""
def Bu(u j:List P)(t y:P):List P:=if sv (fV t 3)="" then j else j.set ((jP u (fV t 3)).getD 0) (fV y 0)
theorem NS{p:List P}{E:Str}{C:Nat}{H l u A:List P}(Q:Fam p E C H l u A){j:List P}(hw:j.length=u.length)(I:∀w ∈ j,l_ w){x y:P}(z:kF E p u x)(S:(x=.non/\y=.non)\/(x≠.non/\sL y)) :
  (Bu u j x y).length=u.length/\(∀w ∈ Bu u j x y,l_ w)/\∀n:Nat,dM (Ph (n+3) "whos_behind") [b0 E C H l u A,.tup j,x,y]=some (.tup (Bu u j x y)):=by
 rcases z with rfl|⟨m,a,t,o,_,_,_,_,_,b,rfl⟩
 .have e:Bu u j .non y=j:=aj rfl;rw[e];refine⟨hw,I,λn=>?_⟩;rw[iH,aJ];simp[fX,mj,cv]
 .obtain⟨s,v,rfl⟩:sL y:=by
   rcases S with ⟨q,_⟩|⟨_,q⟩
   .cases q
   .exact q
  have c:fV (.tup [.str m,.str a,.str t,.str o]) 3=.str o:=rfl;by_cases f:o=""
  .have e:Bu u j (.tup [.str m,.str a,.str t,.str o]) (.tup [.int (s:Int),.int (v:Int)])=j:=aj (by rw[c];exact f);rw[e];refine⟨hw,I,λn=>?_⟩;rw[iH,aJ];simp[fX,mj,cv,f]
  .obtain⟨i,K,r⟩:=q_ Q.hwh (b.resolve_left f);have e:Bu u j (.tup [.str m,.str a,.str t,.str o]) (.tup [.int (s:Int),.int (v:Int)])=j.set i (.int (s:Int)):=by
    unfold Bu;rw[c,al (show ¬sv (.str o)="" from f),r];rfl
   rw[e];have F:=Q.wl;refine⟨by simpa using hw,λw g=>?_,λn=>?_⟩
   .rcases A6 g with h|rfl
    .exact I w h
    .exact⟨_,rfl⟩
   .have d:=ss (n:=n) (x:=j) (k:=i) (by lia) (by lia) (.int (s:Int));rw[iH,aJ];simp[fX,mj,cv,f,Nu,r,d]
theorem wM(x:bG)(y:P):∀(n:List bG)(c:List P),n.Nodup->n.length=c.length->∃s a,pY x (.p y) n (c.map .p)=(s,a.map .p)/\s.Nodup/\s.length=a.length/\s.length≤n.length+1/\(∀k ∈ s,k=x\/k ∈ n)/\∀k,bx k s a=if x=k then some y else bx k n c
 | [],[],_,_=>⟨[x],[y],rfl,by simp,rfl,by simp,λk h=>.inl (by simpa using h),λk=>by by_cases q:x=k<;>simp[bx,q]⟩
 | [],_::_,_,h=>by simp at h
 |_::_,[],_,h=>by simp at h
 |f::n,v::c,m,l=>by
  obtain⟨t,m⟩:=b_.mp m;by_cases q:f=x
  .refine⟨f::n,y::c,by simp[pY,q],b_.mpr ⟨t,m⟩,by simpa using l,by simp,λk h=>.inr h,λk=>?_⟩;subst q;by_cases b:f=k
   .simp [bx,b]
   .simp [bx,b]
  .obtain⟨s,a,e,d,w,g,r,u⟩:=wM x y n c m (by simpa using l);refine⟨f::s,v::a,by simp[pY,q,e],b_.mpr ⟨λz=>?_,d⟩,by simp[w],by simp;lia,λk h=>?_,λk=>?_⟩
   .rcases r f z with z|z
    .exact q z
    .exact t z
   .rcases aW.mp h with rfl|h
    .exact .inr ar
    .rcases r k h with h|h
     .exact .inl h
     .exact .inr (ao _ h)
   .show (if f=k then some v else bx k s a)=_;by_cases b:f=k
    .subst b;have:¬x=f:=λz=>q z.symm
     simp[bx,this]
    .rw [al b,u];by_cases p:x=k
     .simp [p]
     .simp [p,bx,b]
structure Giv(gk:List bG)(gv:List P):Prop where
 nd:gk.Nodup
 ln:gk.length=gv.length
 le:gk.length≤100
 iv:∀k v,bx k gk gv=some v->l_ v
theorem Giv.put(h:Giv b c)(l:b.length≤99)(y:bG)(i:Int):∃g x,pY y (.p (.int i)) b (c.map .p)=(g,x.map .p)/\Giv g x/\g.length≤b.length+1/\∀k,bx k g x=if y=k then some (.int i) else bx k b c:=by
 obtain⟨s,n,e,m,r,t,p,f⟩:=wM y (.int i) b c h.nd h.ln;refine⟨s,n,e,⟨m,r,by lia,λk v a=>?_⟩,t,f⟩;rw[f]at a;split at a
 .cases a;exact⟨_,rfl⟩
 .exact h.iv k v a
theorem BK{o:EE}{k v:EV}{L:Lc}{S s:az}{j:Nat}{n:List bG}{f:List P}{x:Str}{i:Int}(h:Giv n f)(l:n.length≤99)(d:v L S=some (.int i,s))(q:o L s=some (.ref j,s))(p:k L s=some (.str x,s))(t:s[j]? = some (.dct n (f.map .p))):∃g a,Giv g a/\g.length≤n.length+1/\(∀k,bx k g a=if (.inr x:bG)=k then some (.int i) else bx k n f)/\fF o k v L S=some (.nx,L,s.set j (.dct g (a.map .p))):=by
 obtain⟨g,a,e,c,m,r⟩:=h.put l (.inr x) i;refine⟨g,a,c,m,r,?_⟩;have b:pR o k v L S=some (.nx,L,s.set j (.dct g (a.map .p))):=by unfold pR;rw[d,av,q,av,p,av];simp only[lw,t,cZ];rw[aj ⟨h.nd,by rw[mX];lia⟩,e]
 unfold fF;rw[b]
noncomputable abbrev TF:=P->List (List P×List P)
def oI(B:BD)(hd:Nat)(u j:List P):TF:=λc=>si B hd u j (sv (fV c 2)) (sv (fV c 3))
noncomputable def uJ(T:TF):List P->List (List P)
 | []=>[[]]
 |c::s=>(T c).flatMap λx=>(uJ T s).map (x.1++·)
theorem wQ:∀{s:List P},(∀c ∈ s,(T c).length≤4)->(uJ T s).length≤4 ^ s.length
 | [],_=>by simp[uJ]
 |c::s,h=>by
  have e:=wQ λc k=>h c (ao _ k);have n:=h c ar;have:∀a:List (List P×List P),(a.flatMap λx=>(uJ T s).map (x.1++·)).length=a.length * (uJ T s).length:=by
   intro a;induction a with
   |nil=>simp
   |cons x a i=>rw[dU,bg,i,aR,aV,qU,vu]
  unfold uJ;rw[this,aV,Bb,nE];exact Nat.mul_le_mul e n
theorem zq(x:P)(s:List P):cut (x::s) (some 1) none=s:=by rw[show(1:Int)=((1:Nat):Int) from rfl,ol];rfl
theorem wR{m:Str->GF}(l n:P)(hd:Nat)(s:List (List P))(k:s.length≤1000)(x:∀r ∈ s,r.length≤1000):∀(os:List Nat)(a:List P)(b:Option D),a.length+1000 * os.length≤100000->∃q,
  bb (af 5) (eU m) (bu os) [O l,Y (hd:Int),O n,ql (s.map .tup),ql a,b] [] =
   some (.nx,[O l,Y (hd:Int),O n,ql (s.map .tup),ql (a++(os.filter λo=>!decide (hd=o)).flatMap λ(o:Nat)=>s.map λr=>P.tup (.int (o:Int)::r)),q],[])
 | [],a,b,_=>⟨b,by simp[bu,bb]⟩
 |o::os,a,b,i=>by
  rw[aV]at i;by_cases h:hd=o
  .obtain⟨q,e⟩:=wR (m:=m) l n hd s k x os a (Y (o:Int)) (by lia);refine⟨q,(bo (h:=[O l,Y (hd:Int),O n,ql (s.map .tup),ql a,Y (o:Int)]) (x:=[]) rfl (by simp[eU,h])).trans (e.trans ?_)⟩;rw[qN (by simp[h])]
  .have t:bN (af 6) fm (ak (aI (v1 jB)) ig) (s.map .tup) [O l,Y (hd:Int),O n,ql (s.map .tup),ql a,Y (o:Int),none] []=some (s.map λr=>P.tup (.int (o:Int)::r),[]):=by
    rw[bW (p:=λ_=>true) (f:=λv=>.tup (.int (o:Int)::mS v)) (Inv:=λL=>∃d,L=[O l,Y (hd:Int),O n,ql (s.map .tup),ql a,Y (o:Int),d]) (λv y L g=>?_) ⟨none,rfl⟩,ff,gC]
    .rfl
    .obtain⟨d,rfl⟩:=g;obtain⟨r,k,rfl⟩:=aM.mp y;have:=x r k
     have w:=eN (s:=[.int (o:Int)]) (y:=r) (by simp;lia);exact⟨[O l,Y (hd:Int),O n,ql (s.map .tup),ql a,Y (o:Int),qt r],rfl,⟨_,rfl⟩,rfl,λ_=>by simp[w]⟩
   obtain⟨q,e⟩:=wR (m:=m) l n hd s k x os (a++s.map λr=>P.tup (.int (o:Int)::r)) (Y (o:Int)) (by simp;lia);have u:¬(o:Int)=(hd:Int):=by lia
   have j:a.length+s.length≤1000000:=by lia
   have c:s.length≤1000000:=by lia
   refine⟨q,(bo (h:=[O l,Y (hd:Int),O n,ql (s.map .tup),ql a,Y (o:Int)]) (x:=[]) rfl (by simp[eU,u,bE,j,c,li,t])).trans (e.trans ?_)⟩;rw[qO (by simp[h]),dU,cR]
section
variable{B:BD}(s:BP B){hd:Nat}{E:Str}{u j N:List P}(G:∀x ∈ N,kG x)
include s G
theorem FQ:∀{x:List P},(∀c ∈ x,isSend E B.roads u N c)->(∀c ∈ x,(oI B hd u j c).length≤4)->x.length≤3->∀n,dM (Ph (n+x.length+5) "_law_chosen") [a8 B,.int (hd:Int),.lst x]=some (.lst ((uJ (oI B hd u j) x).map .tup))/\∀r ∈ uJ (oI B hd u j) x,r.length≤x.length
 | [],_,_,_,n=>by refine⟨?_,λr k=>by rw[cS.mp k];simp⟩;rw[lD,aJ];simp[gP,rj (s:=[]) rfl,uJ]
 |c::x,i,S,v,n=>by
  obtain⟨e,l⟩:=FQ (x:=x) (λc h=>i c (ao _ h)) (λc h=>S c (ao _ h)) (by simp at v;lia) n;have d:cK 20 (.lst (c::x))=true:=bY (DO λc h=>isSend.ok G (i c h)) (by decide);have H:=rj d;have D:=wQ (T:=oI B hd u j) (s:=x) λc h=>S c (ao _ h);have A:4 ^ x.length≤64:=vD (by decide) (show x.length≤3 by simp at v;lia);obtain⟨m,t,w,a,_,_,_,hw,rfl⟩:=i c ar;have z:oI B hd u j (.tup [.str m,t,.str w,.str a])=si B hd u j w a:=rfl;simp only[aV]at v ⊢;rw[show n+(x.length+1)+5=n+x.length+4+2 by lia,lD,aJ];rw[show n+x.length+5=n+x.length+4+1 by lia]at e;by_cases q:w="any"
  .subst q;have K:=j4 (n:=n+x.length+2) s.hf s.f0.2 (.lst B.roads) (.lst B.wishes) a;have f:dM (Ph (n+x.length+4+1) "_law_crew") [a8 B,.str a]=some (.lst (bu (bQ B.N a))):=K;have L:(bQ B.N a).length≤4:=aF (dE ..) (kI s);obtain⟨M,y⟩:=wR (m:=Ph (n+x.length+4+1)) (a8 B) (.lst (.tup [.str m,t,.str "any",.str a]::x)) hd (uJ (oI B hd u j) x) (by lia) (λr k=>by have:=l r k;lia) (bQ B.N a) [] none (by simp;lia);have C:uJ (oI B hd u j) (.tup [.str m,t,.str "any",.str a]::x)=((bQ B.N a).filter λo=>!decide (hd=o)).flatMap λ(o:Nat)=>(uJ (oI B hd u j) x).map λr=>.int (o:Int)::r:=by
    rw[uJ,z];unfold si bu oth;rw[al (by simp),al (by simp),gC,jz];rfl
   rw[C,qI];simp only[gC];simp only[cH]at y;refine⟨?_,λr k=>?_⟩
   .simp [gP,H,zq,e,f,y];rfl
   .obtain⟨o,_,k⟩:=dt.mp k;obtain⟨I,g,rfl⟩:=aM.mp k;have:=l I g
    simp;lia
  .have p:∃F,si B hd u j w a=[([],F)]:=by
    unfold si;by_cases b:w="who"
    .exact⟨_,aj b⟩
    .rw [al b];rcases hw with ⟨h,_⟩|⟨h|h,_⟩
     .exact absurd h b
     .exact⟨_,aj h⟩
     .exact absurd h q
   obtain⟨F,p⟩:=p;have C:uJ (oI B hd u j) (.tup [.str m,t,.str w,.str a]::x)=uJ (oI B hd u j) x:=by rw[uJ,z,p];simp
   rw[C];refine⟨?_,λr k=>by have:=l r k;lia⟩;simp[gP,H,zq,e,q]
end
inductive Gl(T:TF):List P->List P->List P->Prop
 |nil:Gl T [] [] []
 |cons {c:P}{sn:List P}{x:List P×List P}{b gs:List P}:x ∈ T c->Gl T sn b gs->Gl T (c::sn) (x.1++b) (x.2.map (xR (sv (fV c 0)) (fV c 1))++gs)
abbrev Hf(B:BD)(hd:Nat)(a f m:P)(j c left:List P)(e s q h x:Option D):Lc:=[O (a8 B),Y (hd:Int),O a,ql j,O f,O m,ql c,ql left,e,s,q,h,x]
section
variable{B:BD}(s:BP B){n hd:Nat}{E:Str}{C:Nat}{H l u A:List P}(Q:Fam B.roads E C H l u A){j:List P}(hw:j.length=u.length){N:List P}(a f:P)
include s
theorem Mz(L:Lc)(l:L.length=14)(e:L[1]? = some (Y (hd:Int)))(s:Str):bN (af 13) (cU (a_ 13) gq) kt (bu (bQ B.N s)) L []=some (bu (oth B.N s hd),[]):=by
 rw[bW (p:=λv=>match v with | .int x=>!decide (hd=x.toNat)|_=>false) (f:=id) (Inv:=λh=>∃d,h=L.set 13 d) (λv n h g=>?_) ⟨L[13]'(by lia),(fR (by lia)).symm⟩]
 .unfold bu oth;rw[km,nv];rfl
 .obtain⟨d,rfl⟩:=g;obtain⟨o,c,rfl⟩:=aM.mp n;have k:((L.set 13 d).set 13 (Y (o:Int)))[13]? = some (Y (o:Int)):=by rw[cc (by simp[l])]
  have a:((L.set 13 d).set 13 (Y (o:Int)))[1]? = some (Y (hd:Int)):=by rw[aG (by decide),aG (by decide)];exact e
  refine⟨_,rfl,⟨_,b8 ..⟩,?_,λ_=>by simp[-b8,k]⟩;by_cases q:hd=o
  .simp [-b8,k,a,q]
  .have b:¬(o:Int)=(hd:Int):=by lia
   simp[-b8,k,a,q,b]
omit s in
theorem Mx(L:Lc)(l:L.length=14)(a:L[8]? = some (qs m))(e:L[9]? = some (O t))(x:List P):bN (af 13) fm (aI (v3 lc jf kt)) x L []=some (x.map (xR m t),[]):=by
 rw[bW (p:=λ_=>true) (f:=xR m t) (Inv:=λh=>∃d,h=L.set 13 d) (λv c h g=>?_) ⟨L[13]'(by lia),(fR (by lia)).symm⟩,ff];obtain⟨d,rfl⟩:=g;have k:((L.set 13 d).set 13 (O v))[13]? = some (O v):=by rw[cc (by simp[l])]
 have n:((L.set 13 d).set 13 (O v))[8]? = some (qs m):=by rw[aG (by decide),aG (by decide)];exact a
 have b:((L.set 13 d).set 13 (O v))[9]? = some (O t):=by rw[aG (by decide),aG (by decide)];exact e
 exact⟨_,rfl,⟨_,b8 ..⟩,rfl,λ_=>by simp[-b8,k,n,b]⟩
include Q hw
theorem MA{m:Str}{t:P}{w h:Str}(M:(w="who"/\P.str h ∈ u)\/((w="all"\/w="any")/\∃r ∈ B.roads,rA r=E/\h=rB r)){x:List P×List P}(e:x ∈ si B hd u j w h)(b c:List P)(W:c.length+x.2.length≤100000)(q:Option D) :
  ∃v,fB (Ph (n+5)) (Hf B hd a f (b0 E C H l u A) j c (x.1++b) (qs m) (O t) (qs w) (qs h) q) []=some (.nx,Hf B hd a f (b0 E C H l u A) j (c++x.2.map (xR m t)) b (qs m) (O t) (qs w) (qs h) v,[]):=by
 have L:=j4 (n:=n+2) s.hf s.f0.2 (.lst B.roads) (.lst B.wishes) h;have d:dM (Ph (n+5) "_law_crew") [a8 B,.str h]=some (.lst (bu (bQ B.N h))):=L;have g:(bu (bQ B.N h)).length≤1000000:=by have:=dE B.N h;have:B.N.length≤4:=kI s;simp[bu];lia
 have F:=Mz s (hd:=hd) (Hf B hd a f (b0 E C H l u A) j c (x.1++b) (qs m) (O t) (qs w) (qs h) q++[none]) rfl rfl h;simp only[lS,cH]at F;refine⟨ql x.2,?_⟩;unfold fB;rw[ag (by simp[d,bE,g,li,F];exact⟨rfl,rfl⟩)];have K:=Mx (m:=m) (t:=t) (Hf B hd a f (b0 E C H l u A) j c b (qs m) (O t) (qs w) (qs h) (ql x.2)++[none]) rfl rfl rfl x.2;simp only[lS,cH]at K;have i:am 6 (U (ak ig (bE (fG mi) [] 1 (af 13) fm (aI (v3 lc jf kt))))) (Hf B hd a f (b0 E C H l u A) j c b (qs m) (O t) (qs w) (qs h) (ql x.2)) []=some (.nx,Hf B hd a f (b0 E C H l u A) j (c++x.2.map (xR m t)) b (qs m) (O t) (qs w) (qs h) (ql x.2),[]):=by
  have N:x.2.length≤1000000:=by lia
  have S:c.length+x.2.length≤1000000:=by lia
  simp[bE,N,li,K,S]
 rcases M with ⟨rfl,z⟩|⟨y,r,T,R,rfl⟩
 .obtain⟨k,V,G⟩:=q_ Q.hwh z;have I:j[k]? = some (j[k]'(by lia)):=bj (by lia);have p:x=([],[j[k]'(by lia)]):=by
   unfold si at e;rw[aj rfl,G,vg,ie,I]at e;exact cS.mp e
  rw[ag (e:=Hf B hd a f (b0 E C H l u A) j c b (qs m) (O t) (qs "who") (qs h) (ql x.2)) (c:=[]) (by simp[Nu,G,ba I,p])];rw[ag (by simp;exact⟨rfl,rfl⟩)];exact i
 .unfold si at e;rcases y with rfl|rfl
  .rw [al (by simp),aj rfl]at e;have p:=cS.mp e;subst p;rw[ag (by simp;exact⟨rfl,rfl⟩)];rw[ag (by simp;exact⟨rfl,rfl⟩)];exact i
  .rw [al (by simp),al (by simp)]at e;obtain⟨o,X,rfl⟩:=aM.mp e;rw[ag (by simp;exact⟨rfl,rfl⟩)];rw[ag (e:=Hf B hd a f (b0 E C H l u A) j c b (qs m) (O t) (qs "any") (qs (rB r)) (ql [o])) (c:=[]) (by simp[zq])];exact i
theorem Jp{S b i:List P}(h:Gl (oI B hd u j) S b i):(∀c ∈ S,isSend E B.roads u N c)->∀(k:List P)(z o p v q:Option D),k.length+i.length≤100000->∃M R w g r,
  bb (aP [af 8,af 9,af 10,af 11]) (fB (Ph (n+5))) S (Hf B hd a f (b0 E C H l u A) j k b z o p v q) []=some (.nx,Hf B hd a f (b0 E C H l u A) j (k++i) [] M R w g r,[]):=by
 induction h with
 |nil=>exact λ_ k z o p v q _=>⟨z,o,p,v,q,by simp[bb]⟩
 | @cons c S x b i L hg ih=>intro T k z o p v q Z;obtain⟨m,t,y,d,_,_,_,I,rfl⟩:=T c ar;have L:x ∈ si B hd u j y d:=L;simp only[bg,aR]at Z;obtain⟨r,e⟩:=MA s (n:=n) Q hw a f (m:=m) (t:=t) I L b k (by lia) q;obtain⟨V,W,F,K,G,X⟩:=ih (λc h=>T c (ao _ h)) (k++x.2.map (xR m t)) (qs m) (O t) (qs y) (qs d) r (by simp;lia);refine⟨V,W,F,K,G,(bo rfl e).trans (X.trans ?_)⟩;rw[cR];rfl
theorem OX(p:(aN B.fams)[hd]? = some (b0 E C H l u A))(h:Gl (oI B hd u j) k b m)(v:∀c ∈ k,isSend E B.roads u N c)(q:m.length≤100000)(x:Str)(a w t r:P)(g:List P):dM (Ph (n+6) "_law_goals") [a8 B,.int (hd:Int),a6 x a w t g k r,.lst j,.tup b]=some (.lst m):=by obtain⟨z,o,d,i,y,e⟩:=Jp s (n:=n) Q hw (a6 x a w t g k r) (.tup b) h v [] none none none none none (by simpa using q);have f:=nT (n:=n+3) s.hf s.f0.2 (.lst B.roads) (.lst B.wishes);simp only[cH]at e;rw[tZ,aJ];simp[mK,f,ba p,gb,Li,e]
end
theorem uu{k:bG}:∀{s:List bG}{x:List P},sQ k s=false->bx k s x=none
 | [],_,_=>by cases ‹List P›<;>rfl
 |_::_,[],_=>rfl
 |a::s,v::x,h=>by unfold sQ at h;rw[fP,Ak]at h;show(if a=k then some v else bx k s x)=none;rw[al (of_decide_eq_false h.1)];exact uu h.2
theorem ut:∀{s:List bG}{x:List P},sQ k s=true->s.length=x.length->∃v,bx k s x=some v
 | [],_,h,_=>by cases h
 |_::_,[],_,h=>by cases h
 |a::s,v::x,h,l=>by
  show ∃w,(if a=k then some v else bx k s x)=some w;by_cases q:a=k
  .exact⟨v,aj q⟩
  .rw [al q];unfold sQ at h;rw[fP,cG q,qo]at h;exact ut h (Nat.succ.inj l)
noncomputable abbrev Lk:=Str->Option Int
noncomputable def qZ(f:Lk)(x:Str)(v:Int):Lk:=λy=>if x=y then some v else f y
def uD(lk:Lk)(c z:P):P:=match lk (aX c) with
 |some v=>.int v
 |none=>z
def gw(lk:Lk)(l c:List P):List P:=l.zipWith (uD lk) c
def CH(lk:Lk)(c:P):Bool:=match lk (aX c) with
 |some v=>decide (iv (fV c 1)≤v) && decide (v≤iv (fV c 2))
 |none=>true
def cF(lk:Lk)(l c:List P):Option (List P):=if l.all (CH lk)=true then some (gw lk l c) else none
def wZ(lk:Lk)(g:List bG)(v:List P):Prop:=∀x,bx (.inr x) g v=(lk x).map P.int
variable{lk:Lk}
theorem wZ.put(h:wZ lk c m){i:Int}(e:∀k,bx k b v=if (.inr x:bG)=k then some (.int i) else bx k c m):wZ (qZ lk x i) b v:=λy=>by
 rw[e,h y];unfold qZ;by_cases q:x=y
 .rw [aj (by rw[q]),aj q];rfl
 .rw [al λz=>q (ko z),al q]
theorem MW{L:Str->GF}{f st F:P}{m a:List P}{g:List bG}{h:List P}(G:Giv g h){lk:Lk}(I:wZ lk g h){o:SO}(C:o=.dct g (h.map .p)\/o=.fz (.dct g h)){k:Nat}{c:P}(E:isCel c){z:Int}(r:m[k]? = some (.int z))(T:a.length≤1000)(H S j:Option D) :
  ∃q,bR L [O f,qt m,O st,O F,qr 0,H,S,qr 1,Y (k:Int),O c,j] [o,.lst (a.map .p)]=some (if CH lk c=true then (.nx,[O f,qt m,O st,O F,qr 0,H,S,qr 1,Y (k:Int),O c,q],[.fz (.dct g h),.lst ((a++[uD lk c (.int z)]).map .p)]) else (.rt (.p .non),[O f,qt m,O st,O F,qr 0,H,S,qr 1,Y (k:Int),O c,q],[.fz (.dct g h),.lst (a.map .p)])):=by
 obtain⟨x,lo,i,t,_,M,N,Q,R,rfl⟩:=E;have p:toP 9 (.ref 0) [o,.lst (a.map .p)]=some (.dct g h,[.fz (.dct g h),.lst (a.map .p)]):=by
  rcases C with rfl|rfl
  .have:tN (toP 8) (h.map .p) [SO.dct g (h.map .p),.lst (a.map .p)]=some (h,[SO.dct g (h.map .p),.lst (a.map .p)]):=l8 ..;simp[toP,this]
  .rfl
 have s:=I x;have l:a.length≤1000000:=by lia
 have A:CH lk (.tup [.str x,.int lo,.int i,.int t])=match lk x with|some v=>decide (lo≤v) && decide (v≤i)|none=>true:=rfl
 have B:uD lk (.tup [.str x,.int lo,.int i,.int t]) (.int z)=match lk x with|some v=>.int v|none=>.int z:=rfl
 rw[A,B];cases b:lk x with
 |none=>
  rw[b]at s;have w:sQ (.inr x) g=false:=by
   cases u:sQ (.inr x) g with
   |false=>rfl
   |true=>obtain⟨v,e⟩:=ut u G.ln;rw[s]at e;cases e
  have s:bx (.inr x) g h=none:=s;refine⟨Y z,?_⟩;rw[<- d9];simp[bR,p,cZ,ba r,s,xS,MD,Nf,mD,w,d8,l]
 |some n=>
  rw[b]at s;have s:bx (.inr x) g h=some (.int n):=s;have y:sQ (.inr x) g=true:=by
   cases u:sQ (.inr x) g with
   |true=>rfl
   |false=>rw[uu u]at s;cases s
  refine⟨Y n,?_⟩;by_cases d:lo≤n
  .by_cases K:n≤i
   .rw [<- d9];simp[bR,p,cZ,ba r,s,xS,MD,Nf,mD,y,d8,l,d,K]
   .simp [bR,p,cZ,ba r,s,xS,MD,Nf,mD,y,d,K]
  .simp [bR,p,cZ,ba r,s,xS,MD,Nf,mD,y,d]
theorem CF{G:Str->GF}{f st S:P}{w:List P}{g:List bG}{v:List P}(M:Giv g v){lk:Lk}(Q:wZ lk g v)(y H:Option D):∀{l n:List P}{k:Nat},(∀c ∈ l,isCel c)->n.length=l.length->(∀z ∈ n,l_ z)->(∀j,n[j]? = w[k+j]?)->∀{b:SO},(b=.dct g (v.map .p)\/b=.fz (.dct g v))->∀{a:List P},a.length+l.length≤1000->∀(p d q:Option D),∃L m r s o K,
  bb (aP [af 8,af 9]) (bR G) (bJ (k:Int) l) [O f,qt w,O st,O S,qr 0,y,H,qr 1,p,d,q] [b,.lst (a.map .p)]=some (if l.all (CH lk)=true then (.nx,[O f,qt w,O st,O S,qr 0,y,H,qr 1,m,r,s],[o,.lst ((a++gw lk l n).map .p)]) else (.rt (.p .non),L,K))
 | [],n,k,_,_,_,_,b,_,a,_,p,d,q=>⟨[],p,d,q,b,[],by simp[bJ,bb,gw]⟩
 |c::l,[],k,_,h,_,_,_,_,_,_,_,_,_=>by simp at h
 |c::l,z::n,k,N,C,i,t,b,R,a,T,p,d,q=>by
  simp only[aV]at T;obtain⟨F,rfl⟩:=i z ar;have V:w[k]? = some (.int F):=by have:=t 0;simpa using this.symm
  unfold bJ;obtain⟨A,e⟩:=MW (L:=G) (f:=f) (st:=st) (F:=S) (a:=a) M Q R (N c ar) V (by lia) y H q;by_cases u:CH lk c=true
  .rw [aj u]at e;obtain⟨L,m,r,s,o,K,I⟩:=CF (G:=G) (f:=f) (st:=st) (S:=S) M Q y H (l:=l) (n:=n) (k:=k+1) (λx E=>N x (ao _ E)) (by simpa using C) (λx E=>i x (ao _ E)) (λj=>by have:=t (j+1);rw[show k+1+j=k+(j+1) by lia];simpa using this) (b:=.fz (.dct g v)) (.inr rfl) (a:=a++[uD lk c (.int F)]) (by simp;lia) (Y (k:Int)) (O c) A;rw[j6]at I;refine⟨L,m,r,s,o,K,(bo rfl e).trans (I.trans ?_)⟩;rw[dS,u,Ai,show a++[uD lk c (.int F)]++gw lk l n=a++gw lk (c::l) (.int F::n) by rw[cR];rfl]
  .rw [al u]at e;have B:¬(c::l).all (CH lk)=true:=by rw[dS];simp[u]
   simp only[al B];exact⟨_,p,d,q,b,_,lB rfl e⟩
def ri(K:List bG)(V:List P)(t:P)(lk:Lk):Lk:=if sv (fV t 2)="" then lk else qZ lk (sv (fV t 2)) (iv ((bx (.inr "it") K V).getD .non))
theorem Pz{rs u:List P}{E:Str}{t:P}(ht:kF E rs u t){K:List bG}{V:List P}(M:k_ (more t) K V){g:List bG}{h:List P}(I:Giv g h)(Z:g.length≤99){lk:Lk}(N:wZ lk g h)(f p F B r:P)(x:Str)(c A:List P)(j l y z H q:Option D) :
  ∃s b,Giv s b/\wZ (ri K V t lk) s b/\cQ (kc (bV (eC cD (U (ab dh gp)) (U (vC (.non))))) (cU (U (ab (ab dh gp) eW)) (U (vt "")))) (fF lZ (ab (ab dh gp) eW) (ab dF (vt "it"))) dA [O f,O p,O (a6 x F B t c A r),O (.dct K V),qr 0,j,l,y,z,H,q] [.dct g (h.map .p)]=some (.nx,[O f,O p,O (a6 x F B t c A r),O (.dct K V),qr 0,j,l,y,z,H,q],[.dct s (b.map .p)]):=by
 rcases ht with rfl|⟨m,a,n,w,_,_,_,_,_,_,rfl⟩
 .exact⟨g,h,I,N,by simp[oS,cD,cv]⟩
 .by_cases d:n=""
  .have e:ri K V (.tup [.str m,.str a,.str n,.str w]) lk=lk:=aj (show sv (.str n)="" from d);exact⟨g,h,I,by rw[e];exact N,by simp[oS,cD,cv,d]⟩
  .obtain⟨i,_,Q⟩:=M "it" (by simp[more]);have R:ri K V (.tup [.str m,.str a,.str n,.str w]) lk=qZ lk n i:=by
    refine(al (show ¬sv (fV (.tup [.str m,.str a,.str n,.str w]) 2)="" from d)).trans ?_;rw[Q];rfl
   obtain⟨C,G,T,h2,W,e⟩:=BK (o:=a_ 4) (k:=ab (ab dh gp) eW) (v:=ab dF (vt "it")) (L:=[O f,O p,O (a6 x F B (.tup [.str m,.str a,.str n,.str w]) c A r),O (.dct K V),qr 0,j,l,y,z,H,q]) (S:=[.dct g (h.map .p)]) I Z (i:=i) (s:=[.dct g (h.map .p)]) (x:=n) (by simp[Q]) rfl (by simp[oS]) rfl;refine⟨C,G,T,by rw[R];exact N.put W,?_⟩;rw[cQ];have X:(kc (bV (eC cD (U (ab dh gp)) (U (vC (.non))))) (cU (U (ab (ab dh gp) eW)) (U (vt "")))) [O f,O p,O (a6 x F B (.tup [.str m,.str a,.str n,.str w]) c A r),O (.dct K V),qr 0,j,l,y,z,H,q] [.dct g (h.map .p)]=some (true,[.dct g (h.map .p)]):=by simp[oS,cD,cv,d]
   rw[X];exact e
def Bv(K:List bG)(V:List P)(t:P):Int:=iv ((dM (Ph 4 "value_of") [t,.dct K V]).getD .non)
theorem vN{K:List bG}{V:List P}{t:P}{r:Int}(h:yh K V 4 t r):yh K V 4 t (Bv K V t):=by
 have:Bv K V t=r:=by unfold Bv;rw[show(4:Nat)=0+4 from rfl,(h 0).1];rfl
 rw[this];exact h
def CC(K:List bG)(V:List P):List P->Lk->Lk
 | [],f=>f
 |c::r,f=>CC K V r (qZ f (aX c) (Bv K V (fV c 1)))
def tP(K:List bG)(V:List P)(t:P)(c:List P):Lk:=ri K V t (CC K V c λ_=>none)
theorem CD{E:Str->GF}{n:Nat}(p:E=Ph (n+4)){N:List P}(G:∀x ∈ N,kG x){K:List bG}{V:List P}(M:k_ N K V)(d w u:Option D):∀{a:List P},(∀c ∈ a,Ca N c)->∀{s:List bG}{b:List P}{lk:Lk},Giv s b->wZ lk s b->s.length+a.length≤90->∀j l:Option D,∃g f q m,Giv g f/\wZ (CC K V a lk) g f/\g.length≤90 /\
  bb (aP [af 5,af 6]) (iV E) a [d,w,u,O (.dct K V),qr 0,j,l,none,none,none,none] [.dct s (b.map .p)]=some (.nx,[d,w,u,O (.dct K V),qr 0,q,m,none,none,none,none],[.dct g (f.map .p)])
 | [],_,s,b,lk,A,B,C,j,l=>⟨s,b,j,l,A,B,by simpa using C,rfl⟩
 |c::r,I,s,b,lk,A,B,C,j,l=>by rw[aV]at C;obtain⟨y,t,_,W,rfl⟩:=I c ar;obtain⟨r0,z⟩:=lu G M W;have z:=(vN z n).1;obtain⟨g,f,R,h2,T,e⟩:=BK (o:=a_ 4) (k:=vv 5) (v:=cy (E "value_of") (v2 ig dF)) (L:=[d,w,u,O (.dct K V),qr 0,qs y,O t,none,none,none,none]) (S:=[.dct s (b.map .p)]) A (by lia) (i:=Bv K V t) (s:=[.dct s (b.map .p)]) (by subst p;simp[z]) rfl rfl rfl;obtain⟨H,F,q,m,X,Z,k3,Q⟩:=CD p G M d w u (a:=r) (λc h=>I c (ao _ h)) R (B.put T) (by lia) (qs y) (O t);exact⟨H,F,q,m,X,Z,k3,(bo rfl e).trans Q⟩
theorem Ch(h:c.length=l.length):(gw lk l c).length=l.length:=by unfold gw;rw[List.length_zipWith,h,Nat.min_self]
theorem Gm:∀{l s:List P},(∀c ∈ l,isCel c)->CellsOk l s->l.all (CH lk)=true->CellsOk l (gw lk l s)
 | [],s,_,h,_=>⟨by simp[gw],λc a=>by simp[gw]at a⟩
 |c::r,[],_,h,_=>by have:=h.1;simp at this
 |c::r,z::f,a,h,e=>by
  rw[dS,aD]at e;obtain⟨m,p⟩:=Gm (l:=r) (s:=f) (λc n=>a c (ao _ n)) ⟨by have:=h.1;simpa using this,λc a=>h.2 c (ao _ a)⟩ e.2;refine⟨by show(_::gw lk r f).length=_;simp[m],λv k=>?_⟩;rcases aW.mp (show v ∈ uD lk c z::gw lk r f from k) with rfl|k
  .obtain⟨x,lo,q,t,_,w,u,g,j,rfl⟩:=a _ ar;have b:(match lk x with|some v=>decide (lo≤v) && decide (v≤q)|none=>true)=true:=e.1;show ∃i:Int,_/\(match lk x with|some v=>P.int v|none=>z)=.int i;cases d:lk x with
   |none=>exact h.2 z ar
   |some v=>rw[d]at b;simp at b;exact⟨v,by lia,rfl⟩
  .exact p v k
set_option tactic.hygienic true in
theorem Py{N:List P}{E:Str}{C:Nat}{H l u A:List P}(Q:Fam N E C H l u A){s:List P}(p:CellsOk l s){x:Str}{m w t:P}{c f:List P}{r:P}(S:Stp E H l u N m w t c f r){K:List bG}{V:List P}(M:k_ (gu l++more t) K V) :
  (∀a,cF (tP K V t c) l s=some a->CellsOk l a)/\∀n:Nat,dM (Ph (n+6) "cells_behind") [b0 E C H l u A,.tup s,a6 x m w t c f r,.dct K V]=some (((cF (tP K V t c) l s).map P.tup).getD .non):=by
 have G:∀x ∈ gu l++more t,kG x:=λx F=>(b9.mp F).elim (lx Q.hce.1 x) (nQ t x);have Z:=S.cl;have X:=Q.cl;have hcn:=p.1;refine⟨λa q=>?_,λn=>?_⟩
 .unfold cF at q;split at q
  .rename_i b;cases q;exact Gm Q.hce.1 p b
  .cases q
 obtain⟨gk,gv,I,L,W,hk,hgl,d⟩:=CD (E:=Ph (n+5)) (n:=n+1) rfl G M (O (b0 E C H l u A)) (qt s) (O (a6 x m w t c f r)) S.ch (s:=[]) (b:=[]) (lk:=λ_=>none) ⟨by simp,rfl,by simp,λk v h=>by cases h⟩ (λ_=>rfl) (by simp;lia) none none;obtain⟨R,T,g,y,B⟩:=Pz S.htk (λx F=>M x (fQ _ F)) W (by lia) hk (b0 E C H l u A) (.tup s) m w r x c f I L none none none none;obtain⟨L',q8',q9',D,o,S',e⟩:=CF (G:=Ph (n+5)) (f:=b0 E C H l u A) (st:=a6 x m w t c f r) (S:=.dct K V) (w:=s) g y I L (l:=l) (n:=s) (k:=0) Q.hce.1 p.1 (λz hz=>by obtain⟨i,_,rfl⟩:=p.2 z hz;exact⟨i,rfl⟩) (λj=>by rw[dX]) (.inl rfl) (a:=[]) (by simp;lia) none none none;rw[show((0:Nat):Int)=0 from rfl]at e;simp only[eE,cH]at d e;rw[pa,aJ];unfold cF tP;by_cases b:l.all (CH (ri K V t (CC K V c λ_=>none)))=true
 .rw [aj b]at e ⊢;have t1:toP 9 (.ref 1) [o,.lst ((gw (ri K V t (CC K V c λ_=>none)) l s).map .p)]=some (.lst (gw (ri K V t (CC K V c λ_=>none)) l s),[o,.fz (.lst (gw (ri K V t (CC K V c λ_=>none)) l s))]):=eS rfl;simp[-cQ,hV,mB,Nc,d,B,Hc,e,t1,bO]
 .rw [al b]at e ⊢;simp[-cQ,hV,mB,Nc,d,B,Hc,e]
noncomputable abbrev Wy:=List P×List P
noncomputable def w9(w:Wy):P:=.tup [.tup w.1,.tup w.2]
def JO(B:BD)(t:Nat)(w:Wy):Prop:=w.1.length≤t/\(∀a ∈ w.1,l_ a)/\bP B w.2
def R8(B:BD)(K:List bG)(V:List P)(n:Nat)(hd:Int)(c:P)(t r:List P)(e:Option (List P)):Prop:=PoL B K V hd (Bv K V (fV c 1)) (sv (fV c 0)) (fV c 1) t r e/\∀(b i:Nat)(S:az),Bd B b i S->Ph (n+3) "posted" [.ref i,.p (.tup r),.p (.int hd),.p (.lst t),.p (.tup [.str (sv (fV c 0)),.int (Bv K V (fV c 1))])] S=some (.p ((e.map P.tup).getD .non),S)
def xt(B:BD)(K:List bG)(V:List P)(n:Nat)(hd:Int)(c:P)(t r:List P):Option (List P):=@dite _ (∃e,R8 B K V n hd c t r e) (zE _) (λh=>Classical.choose h) λ_=>none
theorem Fh{B:BD}(s:BP B)(g:Places B){K:List bG}{V:List P}{n:Nat}{hd:Int}{m:Str}(a:aq m=true){t y z:P}{b:Int}(v:yh K V 4 t b){x:List P}(f:∀t ∈ x,l_ t){r:List P}(k:bP B r):R8 B K V n hd (.tup [.str m,t,y,z]) x r (xt B K V n hd (.tup [.str m,t,y,z]) x r):=by have h:∃e,R8 B K V n hd (.tup [.str m,t,y,z]) x r e:=IJ s g hd (Bv K V t) a (vN v) f k;unfold xt;rw[dif_pos h];exact zD h
noncomputable def wo(w x:Wy)(o:Option (List P)):List Wy:=match o with
 |some r=>[(w.1++x.1,r)]
 |none=>[]
structure GS(B:BD)(K:List bG)(V:List P) extends GC B where
 kv:Nat
 hkv:b≤kv
 hk:S0[kv]? = some (.fz (.dct K V))
abbrev FL(i k r:Nat)(hd t m j:P)(d f b c q h:Option D)(x a e s n:Option D):Lc:=[qr i,O hd,O t,qr k,O m,O j,d,f,b,c,q,h,qr r,x,a,e,s,n]
theorem Tn{B:BD}{n:Nat}{K:List bG}{V:List P}(hd v:Int){m:Str}{w:Wy}(hw:JO B 10 w)(H o j:P)(u l y q:Option D){x:Wy}(hx:PJ x){r:Option (List P)}(T:∀(b i:Nat) (S:az),Bd B b i S->Ph (n+3) "posted" [.ref i,.p (.tup w.2),.p (.int hd),.p (.lst x.2),.p (.tup [.str m,.int v])] S=some (.p ((r.map P.tup).getD .non),S))(G:GS B K V)(L:Lc)(S:az)(c:List P)(N:∃d k f h,L=FL G.i G.kv G.r (.int hd) H o j d u l y q (qt [.str m,.int v]) (qt w.1) (qt w.2) k f h)(M:Fr G.b G.S0 S)(W:S[G.r]? = some (.lst (c.map .p)))(hM:c.length+1≤1000) :
  ∃Q L2 a,aP [af 15,af 16] (K' x) L=some Q/\iM (Ph (n+3)) Q S=some (.nx,L2,a)/\(∃d k f h,L2=FL G.i G.kv G.r (.int hd) H o j d u l y q (qt [.str m,.int v]) (qt w.1) (qt w.2) k f h)/\Fr G.b G.S0 a/\a[G.r]? = some (.lst ((c++(wo w x r).map w9).map .p)):=by
 obtain⟨t,A⟩:=w;obtain⟨p,E⟩:=x;obtain⟨X,Z,hr⟩:=hw;obtain⟨hb1,hb2,hti⟩:=hx;dsimp only at *
 have I:=eN (s:=t) (y:=p) (by lia);obtain⟨d,k,f,h,rfl⟩:=N;obtain⟨a,e,F⟩:=Kt (b:=G.b) (g:=Ph (n+3) "posted") (a:=KG fE (a_ 14) gq (a_ 16) (a_ 11)) (L:=FL G.i G.kv G.r (.int hd) H o j d u l y q (qt [.str m,.int v]) (qt t) (qt A) (qt p) (ql E) h) (S:=S) (d:=[.ref G.i,.p (.tup A),.p (.int hd),.p (.lst E),.p (.tup [.str m,.int v])]) rfl (T G.b G.i S (G.bd.fr M)) (Fr.refl _ _);have s:=F.hi _ _ (aF G.le G.hr) W;have R:am 17 (U (cz (Ph (n+3) "posted") (KG fE (a_ 14) gq (a_ 16) (a_ 11)))) (FL G.i G.kv G.r (.int hd) H o j d u l y q (qt [.str m,.int v]) (qt t) (qt A) (qt p) (ql E) h) S=some (.nx,FL G.i G.kv G.r (.int hd) H o j d u l y q (qt [.str m,.int v]) (qt t) (qt A) (qt p) (ql E) (O ((r.map P.tup).getD .non)),a):=by rw[am,U,e];rfl
 cases r with
 |none=>refine⟨_,FL G.i G.kv G.r (.int hd) H o j d u l y q (qt [.str m,.int v]) (qt t) (qt A) (qt p) (ql E) (O .non),a,rfl,(ag R).trans (by simp[cD,cv]),⟨_,_,_,_,rfl⟩,M.trans F,by simpa[wo] using s⟩
 |some C=>
  refine⟨_,FL G.i G.kv G.r (.int hd) H o j d u l y q (qt [.str m,.int v]) (qt t) (qt A) (qt p) (ql E) (qt C),a.set G.r (.lst ((c++[P.tup [.tup (t++p),.tup C]]).map .p)),rfl,(ag R).trans ?_,⟨_,_,_,_,rfl⟩,(M.trans F).set G.le G.hr _,jN s⟩;rw[cQ];have hc:(bV (eC cD (a_ 17) (U (vC .non)))) (FL G.i G.kv G.r (.int hd) H o j d u l y q (qt [.str m,.int v]) (qt t) (qt A) (qt p) (ql E) (qt C)) a=some (true,a):=by simp[cD,cv]
  refine(gZ (λz=>cf z _) hc).trans ?_;rw[av,aj rfl];exact kW rfl s (by simp[I]) s (by lia)
def tF(T:List Wy)(p:List P->List P->Option (List P))(W:List Wy):List Wy:=W.flatMap λw=>T.flatMap λx=>wo w x (p x.2 w.2)
theorem Tl{B:BD}(s:BP B){n:Nat}{K:List bG}{V:List P}{hd:Nat}{E:Str}{C:Nat}{H l u A:List P}(Q:Fam B.roads E C H l u A)(p:(aN B.fams)[hd]? = some (b0 E C H l u A)){j:List P}(hw:j.length=u.length)(I:∀w ∈ j,l_ w){a h:Str}
  (hc:(a="who"/\P.str h ∈ u)\/((a="all"\/a="any")/\∃r ∈ B.roads,rA r=E/\h=rB r)) (v:Int) {m:Str}{F:List P->List P->Option (List P)} (hpo:∀ts r,(∀t ∈ ts,l_ t)->bP B r->∀(b i:Nat)(S:az),Bd B b i S->Ph (n+4) "posted" [.ref i,.p (.tup r),.p (.int (hd:Int)),.p (.lst ts),.p (.tup [.str m,.int v])] S=some (.p (((F ts r).map P.tup).getD .non),S)) (sn rd:P) (Z q8:Option D) {W:List Wy} (hW:∀y ∈ W,JO B 10 y) :
  (tF (si B hd u j a h) F W).length≤4 * W.length/\∀(G:GS B K V)(L:Lc)(S:az)(N:List P),(∃R d o q e k,L=FL G.i G.kv G.r (.int (hd:Int)) sn rd (.tup j) R Z q8 (qs a) (qs h) (qt [.str m,.int v]) d o q e k)->Fr G.b G.S0 S->S[G.r]? = some (.lst (N.map .p))->N.length+4 * W.length≤1000 ->
   ∃L' S',bb (aP [af 13,af 14]) (fZ (Ph (n+4))) (W.map w9) L S=some (.nx,L',S')/\(∃R d o q e k,L'=FL G.i G.kv G.r (.int (hd:Int)) sn rd (.tup j) R Z q8 (qs a) (qs h) (qt [.str m,.int v]) d o q e k)/\Fr G.b G.S0 S'/\S'[G.r]? = some (.lst ((N++(tF (si B hd u j a h) F W).map w9).map .p)):=by
 obtain⟨h1,h2,h3⟩:=tg_ok s (n:=n) Q p hw I hc;generalize si B hd u j a h=T at h1 h2 h3 ⊢;have X:=jr (i:=GS B K V) (c:=4) (M:=1000) (g:=aP [af 13,af 14]) (b:=fZ (Ph (n+4))) (s:=W.map w9) (Sp:=fun G S=>Fr G.b G.S0 S) (r:=fun G=>G.r) (f:=fun y=>(T.flatMap fun x=>wo (mS (fV y 0),mS (fV y 1)) x (F x.2 (mS (fV y 1)))).map w9) (p:=fun G L=>∃R d o q e k,L=FL G.i G.kv G.r (.int (hd:Int)) sn rd (.tup j) R Z q8 (qs a) (qs h) (qt [.str m,.int v]) d o q e k) (fun y hy=>by
  obtain⟨w,hwm,rfl⟩:=aM.mp hy;have hwo:=hW w hwm;obtain⟨k1,k3⟩:=jr (i:=GS B K V) (c:=1) (M:=1000) (g:=aP [af 15,af 16]) (b:=iM (Ph (n+4))) (s:=T.map K') (Sp:=λG S=>Fr G.b G.S0 S) (r:=λG=>G.r) (f:=λz=>(wo w (mS (fV z 0),mS (fV z 1)) (F (mS (fV z 1)) w.2)).map w9) (p:=λG L=>∃R q e k,L=FL G.i G.kv G.r (.int (hd:Int)) sn rd (.tup j) R Z q8 (qs a) (qs h) (qt [.str m,.int v]) (qt w.1) (qt w.2) q e k)
   (λz hz=>by obtain⟨x,hx,rfl⟩:=aM.mp hz;refine⟨?_,Tn (n:=n+1) (K:=K) (V:=V) (hd:Int) v hwo sn rd (.tup j) Z q8 (qs a) (qs h) (h2 x hx) (hpo x.2 w.2 (h2 x hx).2.2 hwo.2.2)⟩;rw[aR];show(wo w x (F x.2 w.2)).length≤1;cases F x.2 w.2<;>simp[wo])
  have ef:(T.map K').flatMap (λz=>(wo w (mS (fV z 0),mS (fV z 1)) (F (mS (fV z 1)) w.2)).map w9)=(T.flatMap λx=>wo w x (F x.2 w.2)).map w9:=by rw[jz,qI];rfl
  rw[ef]at k1 k3;rw[aR,aR]at k1;refine⟨by show((T.flatMap λx=>wo w x (F x.2 w.2)).map w9).length≤4;rw[aR];lia,λG L S N hLp fr hS hM=>?_⟩;obtain⟨R,d,o,q,e,k,rfl⟩:=hLp;obtain⟨S1,e1,fr1⟩:=h3 G.b G.i S (G.bd.fr fr);obtain⟨S2,e2,fr2⟩:=Kt (b:=G.b) (g:=Ph (n+4) "targets_of") (a:=KG fE gq (a_ 9) jM (a_ 5)) (L:=FL G.i G.kv G.r (.int (hd:Int)) sn rd (.tup j) R Z q8 (qs a) (qs h) (qt [.str m,.int v]) (qt w.1) (qt w.2) q e k) (S:=S) (d:=[.ref G.i,.p (.int (hd:Int)),.p (.str a),.p (.str h),.p (.tup j)]) rfl e1 fr1;obtain⟨L',S',e3,hL',fr3,h4⟩:=k3 G _ S2 N ⟨R,q,e,k,rfl⟩ (fr.trans fr2) (fr2.hi _ _ (aF G.le G.hr) hS) (by rw[aR];lia);obtain⟨d6',q15',q16',q17',rfl⟩:=hL';refine⟨FL G.i G.kv G.r (.int (hd:Int)) sn rd (.tup j) R Z q8 (qs a) (qs h) (qt [.str m,.int v]) (qt w.1) (qt w.2) q e k,FL G.i G.kv G.r (.int (hd:Int)) sn rd (.tup j) d6' Z q8 (qs a) (qs h) (qt [.str m,.int v]) (qt w.1) (qt w.2) q15' q16' q17',S',rfl,?_,⟨_,_,_,_,_,_,rfl⟩,fr3,h4⟩;unfold fZ;rw[bq,fG,e2];exact e3)
 have ef:(W.map w9).flatMap (λy=>(T.flatMap λx=>wo (mS (fV y 0),mS (fV y 1)) x (F x.2 (mS (fV y 1)))).map w9)=(tF T F W).map w9:=by unfold tF;rw[jz,qI];rfl
 rw[ef,aR,aR]at X;exact X
theorem ED(r:Fr b x S)(e:b≤x.length)(h:tB x S d W):∃a,toP 9 d (S++[.lst []])=some (.lst W,a)/\Fr b x a/\a[S.length]? = some (.lst []):=by
 have f:=r.trans (Fr.app b S [.lst []]);rcases h with rfl|⟨k,s,rfl,h⟩
 .exact⟨_,by simp,f,gS _ _⟩
 .have l:=h.lt;refine⟨_,(h.fr (Fr.app b S [.lst []])).frz,f.set e s _,?_⟩;rw[aG (by lia)];exact gS _ _
noncomputable abbrev PF:=P->List P->List P->Option (List P)
def zz(T:TF)(p:PF):List P->List P->List (List P×Option (List P))
 | [],r=>[([],some r)]
 |c::s,r=>(T c).flatMap λx=>(p c x.2 r).elim ((uJ T s).map λb=>(x.1++b,none)) λh=>(zz T p s h).map λz=>(x.1++z.1,z.2)
theorem Ef(T:TF)(p:PF):∀(s r:List P),(zz T p s r).map (·.1)=uJ T s
 | [],r=>rfl
 |c::s,r=>by
  rw[zz,uJ,qI];congr 1;funext x;cases p c x.2 r with
  |none=>simp
  |some h=>rw[<- Ef T p s h];simp
noncomputable def zo(w:Wy)(z:List P×Option (List P)):Option Wy:=z.2.map λr=>(w.1++z.1,r)
def wk(T:TF)(p:PF)(W:List Wy)(s:List P):List Wy:=W.flatMap λw=>(zz T p s w.2).filterMap (zo w)
theorem Fw(T:TF)(p:PF)(W:List Wy):wk T p W []=W:=by
 unfold wk;have:(λw:Wy=>(zz T p [] w.2).filterMap (zo w))=λw=>[w]:=by funext w;simp[zz,zo]
 rw[this];induction W with
 |nil=>rfl
 |cons w W i=>rw[dU,i];rfl
theorem C7(T:TF)(p:PF)(W:List Wy)(c:P)(s:List P):wk T p W (c::s)=wk T p (tF (T c) (p c) W) s:=by
 unfold wk tF;rw[AS];congr 1;funext w;rw[zz,List.filterMap_flatMap,AS];congr 1;funext x;cases p c x.2 w.2 with
 |none=>simp[wo,zo,vl]
 |some r=>simp only[wo,Option.elim,vl,dU,AM,eQ];congr 1;funext z;cases z.2<;>simp[zo]
theorem EG{B:BD}(s:BP B){hd:Nat}{E:Str}{u j:List P}{w n:Str}(c:(w="who"/\P.str n ∈ u)\/((w="all"\/w="any")/\∃r ∈ B.roads,rA r=E/\n=rB r)):∀x ∈ si B hd u j w n,x.2.length≤4:=λx h=>by
 have l:(bu (oth B.N n hd)).length≤4:=by
  have a:B.N.length≤4:=kI s;have:=dE B.N n
  have:=ib (λo=>!decide (hd=o)) (bQ B.N n);simp[bu,oth];lia
 unfold si at h;split at h
 .rw [cS.mp h];simp
 .split at h
  .rw [cS.mp h];exact l
  .obtain⟨o,_,rfl⟩:=aM.mp h;simp
theorem GJ{B:BD}(s:BP B){hd:Nat}{E:Str}{C:Nat}{H l u A:List P}(Q:Fam B.roads E C H l u A)(p:(aN B.fams)[hd]? = some (b0 E C H l u A)){j:List P}(hw:j.length=u.length)(I:∀w ∈ j,l_ w){N:List P}:∀{k b:List P},(∀c ∈ k,isSend E B.roads u N c)->b ∈ uJ (oI B hd u j) k->(∀a ∈ b,l_ a)/\∃g,g.length≤4 * k.length/\Gl (oI B hd u j) k b g
 | [],b,_,h=>by rw[cS.mp h];exact⟨λ_ h=>(by cases h),[],by simp,.nil⟩
 |c::k,b,r,h=>by
  obtain⟨x,f,h⟩:=dt.mp h;obtain⟨S,d,rfl⟩:=aM.mp h;obtain⟨m,tr,z,y,K,_,t,e,rfl⟩:=r c ar;have o:=(tg_ok s (n:=0) Q p hw I e).2.1 x f;have:=EG s e x f
  obtain⟨q,g,F,i⟩:=GJ s Q p hw I (λc h=>r c (ao _ h)) d;exact⟨λa v=>(b9.mp v).elim (o.2.1 a) (q a),_,by simp;lia,.cons f i⟩
section
variable{B:BD}(s:BP B)(g:Places B){n:Nat}{K:List bG}{V:List P}{hd:Nat}{E:Str}{C:Nat}{H l u A:List P}(Q:Fam B.roads E C H l u A)(p:(aN B.fams)[hd]? = some (b0 E C H l u A)){j:List P}(hw:j.length=u.length)(I:∀w ∈ j,l_ w){N:List P}(G:∀x ∈ N,kG x)(M:k_ N K V)
include s g Q p hw I G M
theorem So(v rd:P):∀{R:List P},(∀c ∈ R,isSend E B.roads u N c)->∀{t:Nat},t+R.length≤10->∀{W:List Wy},(∀y ∈ W,JO B t y)->4 ^ R.length * W.length≤900 ->
  (wk (oI B hd u j) (xt B K V (n+2) hd) W R).length≤4 ^ R.length * W.length/\∀(b i:Nat)(A S:az)(q:Nat)(T:D)(q7 q8 q9 q10 C L d l o H F:Option D),Bd B b i A->b≤q->A[q]? = some (.fz (.dct K V))->Fr b A S->tB A S T (W.map w9) ->
   ∃L' S' d',bb (aP [af 7,af 8,af 9,af 10]) (iL (Ph (n+5))) R [qr i,Y (hd:Int),O v,qr q,O rd,qt j,some T,q7,q8,q9,q10,C,L,d,l,o,H,F] S=some (.nx,L',S')/\L'[6]? = some (some d')/\Fr b A S'/\tB A S' d' ((wk (oI B hd u j) (xt B K V (n+2) hd) W R).map w9)
 | [],_,t,_,W,hW,_=>by rw[Fw];exact⟨by simp,λb i A S q T q7 q8 q9 q10 C L d l o H F _ _ _ fr ha=>⟨_,S,T,rfl,rfl,fr,ha⟩⟩
 |c::R,hs,t,ht,W,hW,hWl=>by
  simp only[aV]at ht;rw[aV,Bb,Nat.mul_assoc]at hWl ⊢;rw[C7];have h4:4 * W.length≤900:=aF (Nat.le_mul_of_pos_left _ (Nat.pow_pos (by decide))) hWl;obtain⟨m,tr,e,h,hm,_,hsum,hcw,rfl⟩:=hs c ar;obtain⟨v0,ev0⟩:=lu G M hsum;have ev:=(vN ev0 (n+1)).1;have hpo:=λ(ts r:List P)(h1:∀t ∈ ts,l_ t)(h2:bP B r)=>Fh s g (n:=n+2) (hd:=(hd:Int)) hm (y:=.str e) (z:=.str h) ev0 h1 h2;have htg:=(tg_ok s (n:=0) Q p hw I hcw).2.1;obtain⟨h1,h3⟩:=Tl s (n:=n+1) (K:=K) (V:=V) Q p hw I hcw (Bv K V tr) (m:=m) (F:=xt B K V (n+2) hd (.tup [.str m,tr,.str e,.str h])) (λts r h1 h2=>(hpo ts r h1 h2).2) v rd (qs m) (O tr) (W:=W) (λy f=>⟨by have:=(hW y f).1;lia,(hW y f).2⟩);have eT:oI B hd u j (.tup [.str m,tr,.str e,.str h])=si B hd u j e h:=rfl;rw[eT];have hW2:∀y ∈ tF (si B hd u j e h) (xt B K V (n+2) hd (.tup [.str m,tr,.str e,.str h])) W,JO B (t+1) y:=λy f=>by
   obtain⟨w,k,f⟩:=dt.mp f;obtain⟨x,hx,f⟩:=dt.mp f;have hx:=htg x hx;have k:=hW w k;have:=(hpo x.2 w.2 hx.2.2 k.2.2).1.ok
   cases hq:xt B K V (n+2) hd (.tup [.str m,tr,.str e,.str h]) x.2 w.2 with
   |none=>rw[hq]at f;cases f
   |some r=>
    rw[hq]at f this;rw[cS.mp f];refine⟨?_,λa ha=>(b9.mp ha).elim (k.2.1 a) (hx.2.1 a),this r rfl⟩;have:=k.1
    have:=hx.1;simp only[bg];lia
  generalize tF (si B hd u j e h) (xt B K V (n+2) hd (.tup [.str m,tr,.str e,.str h])) W=ys at h1 h3 hW2 ⊢;obtain⟨k1,k3⟩:=So v rd (R:=R) (λx hx=>hs x (ao _ hx)) (t:=t+1) (by lia) (W:=ys) hW2 (aF (Bh _ h1) hWl);refine⟨aF k1 (Bh _ h1),λb i A S q T q7 q8 q9 q10 C L d l o H F hB hkv hk fr ha=>?_⟩;obtain⟨S1,e1,fr1,hS1⟩:=ED fr hB.le ha;obtain⟨L2,S2,e2,⟨d6',X,Z,q15',q16',q17',rfl⟩,fr2,hS2⟩:=h3 { b:=b,i:=i,S0:=A,r:=S.length,bd:=hB,hr:=fr.len,kv:=q,hkv:=hkv,hk:=hk } (FL i q S.length (.int (hd:Int)) v rd (.tup j) (some T) (qs m) (O tr) (qs e) (qs h) (qt [.str m,.int (Bv K V tr)]) d l o H F) S1 [] ⟨_,_,_,_,_,_,rfl⟩ fr1 hS1 (by simp;lia);obtain⟨L',S',d',e3,h5,fr3,ha3⟩:=k3 b i A S2 q (.ref S.length) (qs m) (O tr) (qs e) (qs h) (qt [.str m,.int (Bv K V tr)]) (qr S.length) X Z q15' q16' q17' hB hkv hk fr2 (.inr ⟨S.length,fr.len,rfl,.inl hS2⟩);refine⟨L',S',d',?_,h5,fr3,ha3⟩;refine(bo (h:=[qr i,Y (hd:Int),O v,qr q,O rd,qt j,some T,qs m,O tr,qs e,qs h,C,L,d,l,o,H,F]) rfl ?_).trans e3;have tv:toP 9 (.ref q) S=some (.dct K V,S):=by have:=fr.hi _ _ hkv hk;simp[toP,this]
  unfold iL;rw[ag (by simp[tv,ev];exact⟨rfl,rfl⟩)];rw[ag (by simp;exact⟨rfl,rfl⟩)];refine(ag (e:=FL i q S.length (.int (hd:Int)) v rd (.tup j) d6' (qs m) (O tr) (qs e) (qs h) (qt [.str m,.int (Bv K V tr)]) X Z q15' q16' q17') (c:=S2) ?_).trans ?_
  .rw [bq,fG];show cf (cf (toP 9 T (S++[.lst []])) _) _=_;rw[e1];exact e2
  .rfl
theorem JS:∀{t:List P},(∀c ∈ t,isSend E B.roads u N c)->∀{r:List P},bP B r->∀z ∈ zz (oI B hd u j) (xt B K V n hd) t r,(∀a ∈ z.1,l_ a)/\(∀l,z.2=some l->bP B l)/\∃k,k.length≤4 * t.length/\Gl (oI B hd u j) t z.1 k/\lM B K V hd k r z.2
 | [],_,r,R,z,e=>by rw[cS.mp e];exact⟨λ_ h=>(by cases h),λ_ q=>by cases q;exact R,[],by simp,.nil,lM.nil⟩
 |c::t,T,r,R,z,e=>by
  obtain⟨m,tr,H,d,hm,_,v,w,rfl⟩:=T c ar;obtain⟨v0,F⟩:=lu G M v;obtain⟨x,S,e⟩:=dt.mp e;have f:=(tg_ok s (n:=0) Q p hw I w).2.1 x S;have o:=(Fh s g (n:=n) (hd:=(hd:Int)) hm (y:=.str H) (z:=.str d) F f.2.2 R).1;have hx4:x.2.length≤4:=EG s w x S;cases X:xt B K V n hd (.tup [.str m,tr,.str H,.str d]) x.2 r with
  |none=>rw[X]at e o;obtain⟨b,hb,rfl⟩:=aM.mp e;obtain⟨C,k,L,D⟩:=GJ s Q p hw I (λc h=>T c (ao _ h)) hb;exact⟨λa A=>(b9.mp A).elim (f.2.1 a) (C a),λ_ q=>(by cases q),_,by simp;lia,.cons S D,o.no rfl k⟩
  |some l=>rw[X]at e o;obtain⟨z',W,rfl⟩:=aM.mp e;obtain⟨Z,h2,k,L,D,i⟩:=JS (t:=t) (λc h=>T c (ao _ h)) (o.ok l rfl) z' W;exact⟨λa A=>(b9.mp A).elim (f.2.1 a) (Z a),h2,_,by simp;lia,.cons S D,o.on l rfl k _ i⟩
theorem Op(C:∀c ∈ x,isSend E B.roads u N c)(l:x.length≤3)(A:bP B r) :
  ((zz (oI B hd u j) (xt B K V (n+2) hd) x r).filterMap (zo ([],r))).length≤64/\∀(b i:Nat)(S:az)(k:Nat),Bd B b i S->b≤k->S[k]? = some (.fz (.dct K V)) ->
   ∃d a,Ph (n+6) "sendings" [.ref i,.p (.int (hd:Int)),.p (.lst x),.ref k,.p (.tup r),.p (.tup j)] S=some (d,a)/\Fr b S a/\tB S a d (((zz (oI B hd u j) (xt B K V (n+2) hd) x r).filterMap (zo ([],r))).map w9):=by
 have hp:4 ^ x.length≤64:=by have:=vD (show 0 < 4 by decide) l;simpa using this
 obtain⟨f,m⟩:=So s g (n:=n) Q p hw I G M (.lst x) (.tup r) C (t:=0) (by lia) (W:=[([],r)]) (λy D=>by rw[cS.mp D];exact⟨by simp,λ_ h=>(by cases h),A⟩) (by simp;lia);have w:wk (oI B hd u j) (xt B K V (n+2) hd) [([],r)] x=(zz (oI B hd u j) (xt B K V (n+2) hd) x r).filterMap (zo ([],r)):=by simp[wk]
 rw[w]at f m;simp only[vn,Nat.mul_one]at f;refine⟨by lia,λb i S k H v P=>?_⟩;obtain⟨L,a,q,e,o,z,F⟩:=m b i S S k (.p (.lst [.tup [.tup [],.tup r]])) none none none none none none none none none none none H v P (Fr.refl _ _) (.inl rfl);refine⟨q,a,?_,z,F⟩;rw[wC];simp[jS,ou,e,o]
end
end My
namespace My
open PySem L2 Ev
theorem RU(a b:Str):bz (pd (.str a)) (pd (.str b))=decide (b=a):=by
 by_cases h:b=a
 .subst h;rw[jT rfl];exact beq_self_eq_true b
 .rw [cG h];exact yE λq=>h q.symm
theorem BS:∀(s:List P)(i:Nat),(jW s)[i]? = s[i]?.map pd
 | [],i=>by simp[jW]
 |x::s,0=>by simp[jW]
 |x::s,i+1=>by simp[jW,BS s i]
variable{x:Str}
theorem yP(h:∀x ∈ a,kG x)(t:P.str x ∈ a):∃i:Nat,i < a.length/\jP a (.str x)=some i/\a[i]? = some (.str x):=by
 obtain⟨i,b,e⟩:=q_ h t;refine⟨i,b,e,?_⟩;unfold jP at e;split at e
 .obtain⟨m,k,_⟩:=qQ.mp e;have n:=bj m;rw[BS]at n;have f:=bj b;obtain⟨s,_,r⟩:=h a[i] (gF _);rw[r]at f;rw[f]at n ⊢;have c:pd (.str s)=(jW a)[i]:=eP n;rw[<- c,RU]at k;rw[bC k]
 .cases e
theorem wa{x:List P}(v:h L S=some (y,S))(o:a L S=some (.ref j,S))(s:k L S=some (.int (n:Int),S))(e:S[j]? = some (.lst (x.map .p)))(c:n < x.length):fF a k h L S=some (.nx,L,S.set j (.lst ((x.set n y).map .p))):=by
 have f:pR a k h L S=none:=by unfold pR;rw[v,av,o,av,s,av];simp[lw,e]
 unfold fF;rw[f];show xn a k h L S=_;unfold xn;rw[v,av,o,av,s,av];have b:B9 (x.map D.p).length (n:Int)=some n:=by unfold B9;rw[aj (by lia),aj (by rw[aR];lia)];simp
 simp only[d8,e,b,List.map_set]
theorem nZ:∀{u g:List P},g.length=u.length->gw (λ_=>none) u g=g
 | [],[],_=>rfl
 | [],_::_,h=>by simp at h
 |_::_,[],h=>by simp at h
 |c::r,z::s,h=>by show uD _ c z::gw _ r s=_;rw[nZ (by simpa using h)];rfl
theorem Cg{v:Int}:∀{u g:List P},P.str x ∉ gu u->gw (qZ lk x v) u g=gw lk u g
 | [],g,_=>by simp[gw]
 |c::r,[],_=>by simp[gw]
 |c::r,z::s,h=>by show uD _ c z::gw _ r s=uD _ c z::gw _ r s;rw[Cg λq=>h (ao _ q)];congr 1;unfold uD qZ;rw[al λq=>h (by rw[q];exact ar)]
theorem wA{v:Int}:∀{u g:List P}{j:Nat},(gu u).Nodup->g.length=u.length->(gu u)[j]? = some (.str x)->gw (qZ lk x v) u g=(gw lk u g).set j (.int v)
 | [],g,j,_,_,h=>by simp[gu]at h
 |c::r,[],j,_,h,_=>by simp at h
 |c::r,z::s,0,k,l,n=>by
  obtain⟨e,f⟩:=b_.mp (show(P.str (aX c)::gu r).Nodup from k);have b:aX c=x:=by have:(P.str (aX c)::gu r)[0]? = some (.str x):=n;simpa using this
  show uD _ c z::gw _ r s=.int v::gw lk r s;rw[Cg (by rw[<- b];exact e)];congr 1;unfold uD qZ;rw[aj b.symm]
 |c::r,z::s,j+1,k,l,n=>by
  obtain⟨e,f⟩:=b_.mp (show(P.str (aX c)::gu r).Nodup from k);have a:(gu r)[j]? = some (.str x):=by have:(P.str (aX c)::gu r)[j+1]? = some (.str x):=n;simpa using this
  show uD _ c z::gw _ r s=uD lk c z::(gw lk r s).set j (.int v);rw[wA f (by simpa using l) a];congr 1;unfold uD qZ;rw[al λq=>e (by rw[<- q];exact aZ a)]
theorem Et{a b:Int}(h:x≠y):qZ (qZ f x a) y b=qZ (qZ f y b) x a:=by
 funext z;unfold qZ;by_cases s:x=z
 .by_cases e:y=z
  .exact absurd (s.trans e.symm) h
  .rw [al e,aj s,aj s]
 .by_cases e:y=z
  .rw [aj e,al s,aj e]
  .rw [al e,al s,al s,al e]
theorem GK{K:List bG}{V:List P}{x:Str}{a:Int}:∀{g:List P}{f:Lk},(∀c ∈ g,aX c≠x)->CC K V g (qZ f x a)=qZ (CC K V g f) x a
 | [],_,_=>rfl
 |c::r,f,h=>by show CC K V r (qZ (qZ f x a) _ _)=qZ (CC K V r (qZ f _ _)) x a;rw[Et (h c ar).symm,GK λc o=>h c (ao _ o)]
theorem Ji{K:List bG}{V:List P}{s:Str}{r p u:List P}{t:P}(k:kF s r p t){h:List P}(n:ww (gu u) (h.map λc=>.str (aX c)) t)(f:Lk):ri K V t (CC K V h f)=CC K V h (ri K V t f):=by
 rcases k with rfl|⟨m,a,i,w,_,_,_,_,_,_,rfl⟩
 .rfl
 .by_cases x:i=""
  .have e:∀g,ri K V (.tup [.str m,.str a,.str i,.str w]) g=g:=λg=>aj (show sv (.str i)="" from x);rw[e,e]
  .have e:∀g,ri K V (.tup [.str m,.str a,.str i,.str w]) g=qZ g i (iv ((bx (.inr "it") K V).getD .non)):=λg=>al (show ¬sv (fV (.tup [.str m,.str a,.str i,.str w]) 2)="" from x);rw[e,e,GK];intro c o q;exact((n _ _ _ _ rfl).resolve_left x).2 (aM.mpr ⟨c,o,by rw[q]⟩)
def m5(c z:P):Bool:=decide (iv z < iv (fV c 1)) ||decide (iv (fV c 2) < iv z)
def He(u g:List P):Prop:=∀v ∈ u.zip g,m5 v.1 v.2=false
theorem CI{lk:Lk}:∀{u g:List P},g.length=u.length->He u g->((u.zip (gw lk u g)).filter λv=>m5 v.1 v.2).isEmpty=u.all (CH lk)
 | [],g,_,_=>by simp
 |c::r,[],h,_=>by simp at h
 |c::r,z::s,h,b=>by
  have i:=CI (lk:=lk) (u:=r) (g:=s) (by simpa using h) λv a=>b v (ao _ a);have x:m5 c z=false:=b (c,z) ar;have k:m5 c (uD lk c z)=!CH lk c:=by
   unfold uD CH;cases lk (aX c) with
   |none=>exact x
   |some v=>
    unfold m5;simp only[RH];rw[Bool.not_and];congr 1
    .by_cases q:v < iv (fV c 1)
     .simp [q]
     .simp [q];lia
    .by_cases q:iv (fV c 2) < v
     .simp [q]
     .simp [q];lia
  show((((c,uD lk c z)::r.zip (gw lk r s)).filter λv=>m5 v.1 v.2)).isEmpty=_;rw[dS,AL];simp only[k];cases CH lk c with
  |true=>simpa using i
  |false=>simp
inductive HandOk(f x:P):Prop
 |mk (nm:Str) (crew:Nat) (rooms cells whos steps:List P) (h0:f=b0 nm crew rooms cells whos steps) (r:Nat) (cs ws:List P):x=.tup [.int (r:Int),.tup cs,.tup ws]->r < rooms.length->CellsOk cells cs->ws.length=whos.length->(∀w ∈ ws,l_ w)->HandOk f x
structure StL(B:BD)(hs rds:List P):Prop where
 hl:hs.length=(aN B.fams).length
 hh:∀(k:Nat) f x,(aN B.fams)[k]? = some f->hs[k]? = some x->HandOk f x
 hr:bP B rds
def G5(B:BD)(st:P):Prop:=∃h r,st=.tup [.tup h,.tup r]/\StL B h r
theorem StL.put(h:StL B m t)(s:(aN B.fams)[k]? = some f)(c:HandOk f b)(r:bP B w):StL B (m.set k b) w:=by
 refine⟨by rw[fq];exact h.hl,λi n x e a=>?_,r⟩;by_cases q:k=i
 .subst q;rw[s]at e;cases e;rw[cc (by rw[h.hl];exact bF s)]at a;cases a;exact c
 .rw [aG q]at a;exact h.hh i n x e a
noncomputable abbrev Dq:P->P:=λy=>match y with | .tup (d::_)=>d|_=>.non
def oa(h:List P)(hd:Nat)(x:Str)(y:P)(w:Wy):P:=.tup [.tup [.str "step",.int (hd:Int),.str x,y,.tup w.1],.tup [.tup h,.tup w.2]]
abbrev SL(i:Nat)(st hd step y f r:P)(n k b q h x a e s:Option D):Lc:=[qr i,O st,O hd,O step,O y,O f,O r,n,k,b,q,h,x,a,e,s]
theorem MH{u:List P}{K:List bG}{V:List P}(f:k_ (gu u) K V){s:List bG}{n:List P}{z:Int}(c:z.natAbs≤999)(h:∀k,bx k s n=if (.inr "it":bG)=k then some (.int z) else bx k K V):k_ (gu u++[.str "it"]) s n:=λx a=>by
 by_cases q:("it":Str)=x
 .exact⟨z,c,by rw[h,aj (by rw[q])]⟩
 .rcases b9.mp a with a|a
  .obtain⟨i,b,e⟩:=f x a;exact⟨i,b,by rw[h,al λw=>q (ko w)];exact e⟩
  .exact absurd (P.str.inj (cS.mp a)).symm q
abbrev EL(B:BD)(st:P)(hd:Nat)(step y c f:P)(r:Nat)(g w d n:List P)(q h x a e:Option D):Lc:=[O (a8 B),O st,Y (hd:Int),O step,O y,O c,O f,Y (r:Int),qt g,qt w,qr 0,qt d,ql n,qr 1,qr 2,q,h,x,a,e]
theorem Oo{B:BD}(c:BP B)(hL:Places B){n:Nat}{hd:Nat}{A:Str}{d:Nat}{q u p v:List P}(H:Fam B.roads A d q u p v){g:List P}(o:CellsOk u g){F:List P}(hr:bP B F){G:List P}(hw:G.length=p.length){x:Str}{rm wh tk y:P}{chg sn:List P}{rm2:P}(hSt:Stp A q u p B.roads rm wh tk chg sn rm2)(hy:(tk=.non/\y=.non)\/(tk≠.non/\LetOk B F hd y)) :
  ∃(K:List bG)(V rds':List P),k_ (gu u++more tk) K V/\bP B rds'/\(∀(n:Nat)(st ch:P)(r:Nat)(f E q17 q18 q19:Option D),∃q15' q16',c_ (Ph (n+6)) (EL B st hd (a6 x rm wh tk chg sn rm2) y ch (b0 A d q u p v) r g G F (gu u) f E q17 q18 q19) [.dct (bv u) (g.map .p),.lst (g.map .p),.lst (G.map .p)]=some (.nx,EL B st hd (a6 x rm wh tk chg sn rm2) y ch (b0 A d q u p v) r g G rds' (gu u) q15' q16' q17 q18 q19,[.dct K (V.map .p),.lst ((gw (ri K V tk λ_=>none) u g).map .p),.lst ((Bu p G tk y).map .p)]))/\∀(b i:Nat)(S:az)(st step I r:P)(q7 q8 Z M N Q f:Option D),Bd B b i S->∃q11',
   cQ (bV (eC cD lZ (U (vC (.non))))) (ae (am 11 (x2 (fh (aT Att) fE "places") (v2 (ab gX cI) dh)))
    (ae (fF jM (vt "it") (ab (ab (ab jf gm) (ab gX bX)) bX))
    (am 9 (U (cy (Ph (n+2) "replaced") (v3 jf gm (cy (Ph (n+2) "without") (v2 (ab jf gm) (ab gX bX))))))))) dA
    (SL i st (.int (hd:Int)) step y I r q7 q8 (qt F) (qr S.length) Z M N Q f) (S++[.dct (bv u) (g.map .p)])=some (.nx,SL i st (.int (hd:Int)) step y I r q7 q8 (qt rds') (qr S.length) q11' M N Q f,S++[.dct K (V.map .p)]):=by
 have henv:=wt o;have ht:=hSt.htk;rcases hy with ⟨rfl,rfl⟩|⟨hnon,s,C,k,W,rfl,hpc,hk,hkr,hls,hsp⟩
 .exact⟨bv u,g,F,by simpa[more] using henv,hr,λn st ch r f E q17 q18 q19=>⟨f,E,by rw[show gw (ri (bv u) g .non λ_=>none) u g=g from nZ o.1,show Bu p G .non .non=G from aj rfl];simp[c_,cD,cv]⟩,λb i S st step I r q7 q8 Z M N Q f hB=>⟨Z,by simp[cD,cv]⟩⟩
 .have hg:dn [.inl (s:Int),.inl (hd:Int)] B.ks B.vs=Y (k:Int):=by rw[hL.ex,hpc];rfl
  have hm:more tk=[.str "it"]:=by
   cases tk with
   |non=>exact absurd rfl hnon
   |_=>rfl
  have hls3:=hls.1;have hel:W[C]? = some W[C]:=bj hsp;obtain⟨m,z,_,hz,hzl⟩:=hls.2 W[C] (gF _);rw[hzl]at hel;have hkl:(bv u).length=g.length:=by rw[o.1];simp[bv]
  obtain⟨K,V,e,h1,h2,h3,h4,h5⟩:=wM (.inr "it") (.int z) (bv u) g (iu H.hce) hkl;have ew:=JX (n:=n) (x:=W) (k:=C) (by lia);have hpl:=tt c;have hrl:=hr.1;have er:=ss (n:=n) (x:=F) (k:=k) hk (by lia) (.tup (W.eraseIdx C));have hcl:=H.cl;have hfew:(bv u).length≤1000000:=by have:=o.1;lia
  refine⟨K,V,F.set k (.tup (W.eraseIdx C)),by rw[hm];exact MH henv hz h5,hr.set k ⟨aF (A1 ..) hls.1,λl h=>hls.2 l (A2 h)⟩,λn st ch r f E q17 q18 q19=>⟨Y (k:Int),qt (W.eraseIdx C),?_⟩,λb i S st step I r q7 q8 Z M N Q f hB=>⟨Y (k:Int),?_⟩⟩
  .obtain⟨T,R,t,w,_,_,_,_,_,hwho,rfl⟩:=ht.resolve_left hnon;have erd:=wr (k:=n+1) c (s:Int) (hd:Int);rw[hpc]at erd;have eL:bx (.inr "it") K V=some (.int z):=by rw[h5,aj rfl]
   let L:Option D->Option D->Lc:=λa b=>EL B st hd (a6 x rm wh (.tup [.str T,.str R,.str t,.str w]) chg sn rm2) (.tup [.int (s:Int),.int (C:Int)]) ch (b0 A d q u p v) r g G F (gu u) a b q17 q18 q19
   unfold c_;rw [o0 (by simp [cD,cv])];rw [ag (e:=L (Y (k:Int)) E) (c:=[.dct (bv u) (g.map .p),.lst (g.map .p),.lst (G.map .p)]) (by simp [L,erd,FD])];rw [ag (e:=L (Y (k:Int)) E) (c:=[.dct K (V.map .p),.lst (g.map .p),.lst (G.map .p)]) (by
    have e2:pR jM (vt "it") (ab (ab (ab gm (vv 15)) (ab gX bX)) bX) (L (Y (k:Int)) E) [.dct (bv u) (g.map .p),.lst (g.map .p),.lst (G.map .p)]=some (.nx,L (Y (k:Int)) E,[.dct K (V.map .p),.lst (g.map .p),.lst (G.map .p)]):=by simp[L,pR,ba hkr,ba hel,lw,cZ,iu H.hce,hfew,e]
    unfold fF;rw[e2])]
   rw [ag (e:=L (Y (k:Int)) E) (c:=[.dct K (V.map .p),.lst ((gw (ri K V (.tup [.str T,.str R,.str t,.str w]) fun _=>none) u g).map .p),.lst (G.map .p)]) (by
    by_cases X:t=""
    .rw [show ri K V (.tup [.str T,.str R,.str t,.str w]) (λ_=>none)=λ_=>none from aj (show sv (.str t)="" from X),nZ o.1];simp[L,oS,X]
    .obtain⟨j,hj,ej,gj⟩:=yP (lx H.hce.1) (((hSt.ci _ _ _ _ rfl).resolve_left X).1);rw[show ri K V (.tup [.str T,.str R,.str t,.str w]) (λ_=>none)=qZ (λ_=>none) t z from(al (show ¬sv (fV (.tup [.str T,.str R,.str t,.str w]) 2)="" from X)).trans (by rw[eL];rfl),wA (y2 H.hce) o.1 gj,nZ o.1];rw[o0 (by simp[L,oS,X])];exact wa (n:=j) (j:=1) (x:=g) (y:=.int z) (by simp[L,cZ,sH,eL]) rfl (by simp[L,oS,ej]) rfl (by rw[o.1];simpa[gu] using hj))]
   rw [ag (e:=L (Y (k:Int)) E) (c:=[.dct K (V.map .p),.lst ((gw (ri K V (.tup [.str T,.str R,.str t,.str w]) fun _=>none) u g).map .p),.lst ((Bu p G (.tup [.str T,.str R,.str t,.str w]) (.tup [.int (s:Int),.int (C:Int)])).map .p)]) (by
    generalize gw (ri K V (.tup [.str T,.str R,.str t,.str w]) λ_=>none) u g=told;by_cases X:w=""
    .rw [show Bu p G (.tup [.str T,.str R,.str t,.str w]) (.tup [.int (s:Int),.int (C:Int)])=G from aj (show sv (.str w)="" from X)];simp[L,oS,X]
    .obtain⟨j,hj,ej,gj⟩:=yP H.hwh (hwho.resolve_left X);rw[show Bu p G (.tup [.str T,.str R,.str t,.str w]) (.tup [.int (s:Int),.int (C:Int)])=G.set j (.int (s:Int)) from(al (show ¬sv (fV (.tup [.str T,.str R,.str t,.str w]) 3)="" from X)).trans (by rw[show fV (.tup [.str T,.str R,.str t,.str w]) 3=.str w from rfl,ej];rfl)];rw[o0 (by simp[L,oS,X])];exact wa (n:=j) (j:=2) (x:=G) (y:=.int (s:Int)) (by simp[L]) rfl (by simp[L,oS,Nu,ej]) rfl (by lia))]
   generalize gw (ri K V (.tup [.str T,.str R,.str t,.str w]) λ_=>none) u g=told;generalize Bu p G (.tup [.str T,.str R,.str t,.str w]) (.tup [.int (s:Int),.int (C:Int)])=ws';have e4:lE (.tup (W.take C)) (.tup (W.drop (C+1)))=some (.tup (W.eraseIdx C)):=by rw[eN (by simp;lia),A7]
   rw[ag (e:=L (Y (k:Int)) (qt (W.eraseIdx C))) (c:=[.dct K (V.map .p),.lst (told.map .p),.lst (ws'.map .p)]) (by simp[L,ba hkr,kM,jc,e4])];have es:=v9 hk (by lia) (.tup (W.eraseIdx C));simp[L,kM,jc,es.1,es.2]
  obtain⟨jh,jp,jl,jm,mk,mv,h⟩:=hB.fr (Fr.app b S [.dct (bv u) (g.map .p)]);rw[cQ];have hcn:(bV (eC cD lZ (U (vC (.non))))) (SL i st (.int (hd:Int)) step (.tup [.int (s:Int),.int (C:Int)]) I r q7 q8 (qt F) (qr S.length) Z M N Q f) (S++[.dct (bv u) (g.map .p)])=some (true,S++[.dct (bv u) (g.map .p)]):=by simp[cD,cv]
  rw[hcn,av,aj rfl];refine(ag (e:=SL i st (.int (hd:Int)) step (.tup [.int (s:Int),.int (C:Int)]) I r q7 q8 (qt F) (qr S.length) (Y (k:Int)) M N Q f) (c:=S++[.dct (bv u) (g.map .p)]) ?_).trans ?_
  .rw [am,x2,h.places rfl];simp[mW,h.pl,eJ,cZ,hg]
  refine(ag (e:=SL i st (.int (hd:Int)) step (.tup [.int (s:Int),.int (C:Int)]) I r q7 q8 (qt F) (qr S.length) (Y (k:Int)) M N Q f) (c:=S++[.dct K (V.map .p)]) ?_).trans ?_
  .have e2:pR jM (vt "it") (ab (ab (ab jf gm) (ab gX bX)) bX) (SL i st (.int (hd:Int)) step (.tup [.int (s:Int),.int (C:Int)]) I r q7 q8 (qt F) (qr S.length) (Y (k:Int)) M N Q f) (S++[.dct (bv u) (g.map .p)])=some (.nx,SL i st (.int (hd:Int)) step (.tup [.int (s:Int),.int (C:Int)]) I r q7 q8 (qt F) (qr S.length) (Y (k:Int)) M N Q f,S++[.dct K (V.map .p)]):=by
    simp[pR,ba hkr,ba hel,lw,cZ,iu H.hce,hfew,e]
   unfold fF;rw[e2]
  .simp [ba hkr,ew,er]
theorem x3:∀{s:List bG}{x:List D},k ∉ s->s.length=x.length->pY k y s x=(s++[k],x++[y])
 | [],[],_,_=>rfl
 | [],_::_,_,h=>by simp at h
 |_::_,[],_,h=>by simp at h
 |q::s,v::x,h,l=>by show(if q=k then _ else _)=_;rw[al λz=>h (by rw[z];exact ar),x3 (λz=>h (ao _ z)) (by simpa using l)];rfl
theorem B0{H:Str->GF}(m t:Option D):∀{u g:List P}{K:List bG}{V:List P},(∀c ∈ u,isCel c)->g.length=u.length->(K++bv u).Nodup->K.length+u.length≤1000->K.length=V.length->∀f b:Option D,∃n k,
  bb (aP [af 3,af 4]) (gM H) (rX u g) [m,t,qr 0,f,b] [.dct K (V.map .p)]=some (.nx,[m,t,qr 0,n,k],[.dct (K++bv u) ((V++g).map .p)])
 | [],g,K,V,_,l,_,_,_,f,b=>by cases iX l;exact⟨f,b,by simp[rX,bv,bb]⟩
 |c::r,[],K,V,_,l,_,_,_,f,b=>by simp at l
 |c::r,d::s,K,V,o,l,v,S,z,f,b=>by
  obtain⟨x,lo,i,a,_,_,_,_,_,rfl⟩:=o c ar;have j:(K++[(.inr x:bG)]++bv r).Nodup:=by rw[cR];exact v
  obtain⟨n,k,e⟩:=B0 (H:=H) m t (u:=r) (g:=s) (K:=K++[.inr x]) (V:=V++[d]) (λc h=>o c (ao _ h)) (by simpa using l) j (by simp at S ⊢;lia) (by simp[z]) (qt [.str x,.int lo,.int i,.int a]) (O d);refine⟨n,k,?_⟩;rw[show K++bv (P.tup [.str x,.int lo,.int i,.int a]::r)=K++[.inr x]++bv r by rw[cR];rfl,show V++d::s=V++[d]++s by simp];have p:K.Nodup:=(lT.mp v).1;have F:(.inr x:bG) ∉ K:=λq=>(lT.mp v).2.2 _ q (.inr x) ar rfl;refine(bo (h:=[m,t,qr 0,qt [.str x,.int lo,.int i,.int a],O d]) (by simp) ?_).trans e;have w:K.length≤1000000:=by lia
  simp[gM,fF,pR,lw,cZ,p,w,x3 (y:=.p d) F (x:=V.map .p) (by simp[z])]
section
variable{B:BD}(c:BP B){hd:Nat}{A:Str}{d:Nat}{q u p v:List P}(H:Fam B.roads A d q u p v){g:List P}(o:CellsOk u g)
include H o
theorem OU(r w:P):Ph (n+2) "_law_values" [.p (b0 A d q u p v),.p (.tup [r,.tup g,w])] []=some (.ref 0,[.dct (bv u) (g.map .p)]):=by have c:=H.cl;have x:=o.1;obtain⟨a,s,e⟩:=B0 (H:=Ph (n+1)) (O (b0 A d q u p v)) (qt [r,.tup g,w]) (u:=u) (g:=g) (K:=[]) (V:=[]) H.hce.1 o.1 (iu H.hce) (by simp;lia) rfl none none;simp only[cH,eE]at e;have h:u.length≤g.length:=qT x.symm;rw[sV];simp[jS,lG,Hc,mB,h,e]
theorem B7{n:Nat}{N:List P}(G:∀x ∈ N,kG x){K:List bG}{V:List P}(I:k_ N K V)(st step y F:P)(r:Nat)(C z w:List P)(k b l:Option D):∀{S:List P},(∀c ∈ S,Ca N c/\P.str (aX c) ∈ gu u)->∀(f:Lk)(m i:Option D),∃a s,
  bb (aP [af 17,af 18]) (iU (Ph (n+9))) S (EL B st hd step y F (b0 A d q u p v) r g C z (gu u) k b m i l) [.dct K (V.map .p),.lst ((gw f u g).map .p),.lst (w.map .p)]=some (.nx,EL B st hd step y F (b0 A d q u p v) r g C z (gu u) k b a s l,[.dct K (V.map .p),.lst ((gw (CC K V S f) u g).map .p),.lst (w.map .p)])
 | [],_,f,m,i=>⟨m,i,rfl⟩
 |c::Z,h,f,m,i=>by
  obtain⟨⟨x,t,_,X,rfl⟩,E⟩:=h c ar;have E:P.str x ∈ gu u:=E;obtain⟨r0,Q⟩:=lu G I X;have R:=(vN Q (n+5)).2 (.ref 0) [.dct K (V.map .p),.lst ((gw f u g).map .p),.lst (w.map .p)] (.inr ⟨0,rfl,.inl rfl⟩);obtain⟨j,W,M,T⟩:=yP (lx H.hce.1) E;obtain⟨a,s,e⟩:=B7 G I st step y F r C z w k b l (S:=Z) (λc o=>h c (ao _ o)) (qZ f x (Bv K V t)) (qs x) (O t);refine⟨a,s,(bo (h:=EL B st hd step y F (b0 A d q u p v) r g C z (gu u) k b (qs x) (O t) l) rfl ?_).trans e⟩;rw[wA (y2 H.hce) o.1 T];refine wa (n:=j) (j:=1) (x:=gw f u g) (y:=.int (Bv K V t)) ?_ rfl ?_ rfl (by rw[Ch o.1];simpa[gu] using W)
  .have L:trunc 3 [SO.dct K (V.map .p),.lst ((gw f u g).map .p),.lst (w.map .p)]=[SO.dct K (V.map .p),.lst ((gw f u g).map .p),.lst (w.map .p)]:=eY [SO.dct K (V.map .p),.lst ((gw f u g).map .p),.lst (w.map .p)];simp[R,L]
  .simp [M]
omit H in
theorem JI(s:∀c ∈ u,isCel c)(lk:Lk)(o:∀z ∈ gw lk u g,l_ z)(L:List (Option D))(l:L.length=20)(S:az):bN (aP [af 20,af 21]) (uS (bV (lr (vv 21) (ab (vv 20) bX))) (bV (mq (vv 21) (ab (vv 20) eW)))) (vv 20) (rX u (gw lk u g)) (L++[none,none]) S=some (((u.zip (gw lk u g)).filter λv=>m5 v.1 v.2).map (·.1),S):=by
 rw[bW (p:=λv=>m5 (fV v 0) (fV v 1)) (f:=λv=>fV v 0) (Inv:=λn=>∃a b,n=L++[a,b]) (λv y n w=>?_) ⟨none,none,rfl⟩]
 .unfold rX;rw[km,gC];rfl
 .obtain⟨a,b,rfl⟩:=w;obtain⟨⟨c,z⟩,j,rfl⟩:=aM.mp y;obtain⟨r,d⟩:=ny j;obtain⟨x,lo,h,t,_,_,_,_,_,rfl⟩:=s c r;obtain⟨i,rfl⟩:=o z d;have m:((L++[a,b]).set 20 (qt [.str x,.int lo,.int h,.int t])).set 21 (Y i)=L++[qt [.str x,.int lo,.int h,.int t],Y i]:=by
   rw[vo _ _ (by lia),l,vo _ _ (by lia),l];rfl
  have e:(L++[qt [.str x,.int lo,.int h,.int t],Y i])[20]? = some (qt [.str x,.int lo,.int h,.int t]):=by rw[ce (by lia),l];rfl
  have k:(L++[qt [.str x,.int lo,.int h,.int t],Y i])[21]? = some (Y i):=by rw[ce (by lia),l];rfl
  refine⟨L++[qt [.str x,.int lo,.int h,.int t],Y i],?_,⟨_,_,rfl⟩,?_,λ_=>by simp[e]⟩
  .rw [<- m];rfl
  .by_cases q:i < lo
   .simp [e,k,q,m5]
   .simp [e,k,q,m5]
end
theorem OW{B:BD}{K:List bG}{V:List P}{hd:Int}{g r:List P}{o:Option (List P)}(h:lM B K V hd g r o)(n:Nat):dM (Ph (n+7) "_law_mailed") [a8 B,.int hd,.lst g,.dct K V,.tup r]=some ((o.map P.tup).getD .non):=by obtain⟨L,a,s,k,f,b,q,x,e⟩:=h n (.lst g) none none none none none none none;rw[sW,aJ];cases o<;>simp[lI,e]
end My
namespace My
open PySem L2 Ev
theorem um(l:s.length=x)(h:∃L S,b (s.map (λp=>O p)++List.replicate (n-s.length) none) []=some (.rt (.p v),L,S)):dM (jS x n b) s=some v:=by obtain⟨L,S,e⟩:=h;rw[aJ,aj l,e];simp
theorem Ci:∀{l s:List P},CellsOk l s->∀z ∈ gw lk l s,l_ z
 | [],s,_=>λz x=>by simp[gw]at x
 |c::r,[],_=>λz x=>by simp[gw]at x
 |c::r,y::n,h=>λz x=>by
  rcases aW.mp (show z ∈ uD lk c y::gw lk r n from x) with rfl|x
  .unfold uD;cases lk (aX c) with
   |some v=>exact⟨v,rfl⟩
   |none=>obtain⟨i,_,e⟩:=h.2 y ar;exact⟨i,e⟩
  .exact Ci ⟨by have:=h.1;simpa using this,λc a=>h.2 c (ao _ a)⟩ z x
noncomputable abbrev hp(j:Nat)(c w:List P):P:=.tup [.int (j:Int),.tup c,.tup w]
def wB(h:List P)(hd j:Nat)(w:List P)(c:Option (List P))(o:Option (List P)):P:=(c.bind λs=>o.map λr=>P.tup [.tup (h.set hd (hp j s w)),.tup r]).getD .non
def Sa(B:BD)(hd:Nat)(step y:P)(f:P)(c s w m d:List P)(K:List bG)(V t p:List P):Prop:=∀(n:Nat)(st v:P)(r:Nat)(k b x a e:Option D),∃q h,c_ (Ph (n+6)) (EL B st hd step y v f r s w m (gu c) k b x a e) [.dct (bv c) (s.map .p),.lst (s.map .p),.lst (w.map .p)]=some (.nx,EL B st hd step y v f r s w d (gu c) q h x a e,[.dct K (V.map .p),.lst (t.map .p),.lst (p.map .p)])
theorem OY{B:BD}(hP:BP B){hd:Nat}{nm:Str}{L:Nat}{m l b H:List P}(W:Fam B.roads nm L m l b H)(hf:(aN B.fams)[hd]? = some (b0 nm L m l b H)){r:Nat}{s p:List P}(A:CellsOk l s)(hib:He l s){S:List P}{x:Str}{G:Str}{wh a:P}{g sn:List P}{N:P}(Q:Stp nm m l b B.roads (.str G) wh a g sn N){y:P}{hs:List P}(hsl:hs.length≤100)(Z:hs[hd]? = some (.tup [.int (r:Int),.tup s,.tup p]))
  {K:List bG}{V d w:List P} (he:k_ (gu l++more a) K V) (h1:Sa B hd (a6 x (.str G) wh a g sn N) y (b0 nm L m l b H) l s p S d K V (gw (ri K V a λ_=>none) l s) w) (hwl':w.length=b.length)
  {rn:Str} (hrn:m[r]? = some (.str rn)) {h:Bool} (hh:HOk (bv l) s 9 wh h) {j:Nat} (ej:jP m N=some j)
  {I gs:List P}{o:Option (List P)} (hg:Gl (oI B hd b w) sn I gs) (hgl:gs.length≤100000) (hm:lM B K V hd gs d o) (n:Nat) :
  dM (Ph (n+10) "_law_step_end") [a8 B,.tup [.tup hs,.tup S],.int (hd:Int),a6 x (.str G) wh a g sn N,y,.tup I]=some (if (decide (rn=G) && h)=true then wB hs hd j w (cF (tP K V a g) l s) o else .non):=by
 have hN:∀x ∈ gu l++more a,kG x:=λx hx=>(b9.mp hx).elim (lx W.hce.1 x) (nQ a x);have ef:=nT (n:=n+7) hP.hf hP.f0.2 (.lst B.roads) (.lst B.wishes);have ev:=OU W A (n:=n+7) (.int (r:Int)) (.tup p);have et:=(hh n).2 (.ref 0) [.dct (bv l) (s.map .p)] (.inr ⟨0,rfl,.inl rfl⟩);have htr:trunc 1 [SO.dct (bv l) (s.map .p)]=[SO.dct (bv l) (s.map .p)]:=eY [SO.dct (bv l) (s.map .p)];have hcl:=W.cl;have hcn:=A.1;have hlk:=tP K V a g;let st:P:=.tup [.tup hs,.tup S]
 let f:P:=b0 nm L m l b H
 let step:P:=a6 x (.str G) wh a g sn N
 let F:Option D->Option D->Option D->Option D->Option D->Option D->Option D->Option D->Option D->Lc:=λq6 q7 q8 q9 q10 q11 q12 q13 q14=>[O (a8 B),O st,Y (hd:Int),O step,O y,qt I,q6,q7,q8,q9,q10,q11,q12,q13,q14,none,none,none,none,none]
 rw[o7];refine um rfl ?_;show ∃L' S',g9 (Ph (n+9)) (F none none none none none none none none none) []=_;unfold g9;rw[ag (e:=F (O f) none none none none none none none none) (c:=[]) (by simp[F,ef,ba hf,f])];rw[ag (e:=F (O f) (Y (r:Int)) (qt s) (qt p) none none none none none) (c:=[]) (by simp[F,st,ba Z])];rw[ag (e:=F (O f) (Y (r:Int)) (qt s) (qt p) (qr 0) none none none none) (c:=[.dct (bv l) (s.map .p)]) (by simp[F,st,ba Z,ev,f])];by_cases M:(decide (rn=G) && h)=true
 .rw [aj M];rw[aD]at M;have q1:=bC M.1;have q2:=M.2;subst q1 q2;rw[ag (e:=F (O f) (Y (r:Int)) (qt s) (qt p) (qr 0) none none none none) (c:=[.dct (bv l) (s.map .p)]) (by simp[F,f,step,Ko,ba hrn,et,htr])];rw[ag (e:=F (O f) (Y (r:Int)) (qt s) (qt p) (qr 0) (qt S) none none none) (c:=[.dct (bv l) (s.map .p)]) (by simp[F,st])];have en:=pf W.hce.1 (F (O f) (Y (r:Int)) (qt s) (qt p) (qr 0) (qt S) none none none++[none]) 20 (by simp[F]) [.dct (bv l) (s.map .p)];have hc6:l.length≤1000000:=by lia
  rw[ag (e:=F (O f) (Y (r:Int)) (qt s) (qt p) (qr 0) (qt S) (ql (gu l)) none none) (c:=[.dct (bv l) (s.map .p)]) (by simp only[F,lS,cH]at en;simp[F,f,Hc,bE,hc6,li];simp only[f]at en;simp[en])]
  rw[ag (e:=F (O f) (Y (r:Int)) (qt s) (qt p) (qr 0) (qt S) (ql (gu l)) (qr 1) none) (c:=[.dct (bv l) (s.map .p),.lst (s.map .p)]) (by simp[F,GH])];rw[ag (e:=EL B st hd step y (.tup I) f r s p S (gu l) none none none none none) (c:=[.dct (bv l) (s.map .p),.lst (s.map .p),.lst (p.map .p)]) (by simp[F,GH])];obtain⟨u,i,e1⟩:=h1 (n+3) st (.tup I) r none none none none none;rw[ag e1];obtain⟨C,E,e2⟩:=B7 (B:=B) (hd:=hd) W A (n:=n) hN he st step y (.tup I) r p d w u i none (S:=g) (λc hc=>⟨Q.ch c hc,Q.cn c hc⟩) (ri K V a λ_=>none) none none;rw[<- Ji Q.htk Q.ci]at e2;rw[ag (by rw[bq];simp only[fG];rw[show(ab dF nH) (EL B st hd step y (.tup I) f r s p d (gu l) u i none none none) [.dct K (V.map .p),.lst ((gw (ri K V a λ_=>none) l s).map .p),.lst (w.map .p)]=some (.lst g,[.dct K (V.map .p),.lst ((gw (ri K V a λ_=>none) l s).map .p),.lst (w.map .p)]) by simp[step,Nc]];exact e2)];change ∃L' S',ae _ _ (EL B st hd step y (.tup I) f r s p d (gu l) u i C E none) [.dct K (V.map .p),.lst ((gw (tP K V a g) l s).map .p),.lst (w.map .p)]=_;have hfi:∀z ∈ gw (tP K V a g) l s,l_ z:=λz hz=>Ci A z hz;have ec:=JI A W.hce.1 (tP K V a g) hfi (EL B st hd step y (.tup I) f r s p d (gu l) u i C E none) rfl [.dct K (V.map .p),.fz (.lst (gw (tP K V a g) l s)),.lst (w.map .p)];have hba:=CI (lk:=tP K V a g) A.1 hib;have hbo:cK 20 (.lst (((l.zip (gw (tP K V a g) l s)).filter λv=>m5 v.1 v.2).map (·.1)))=true:=bY (n:=2) (DO λc hc=>by obtain⟨v,hv,rfl⟩:=aM.mp hc;obtain⟨x,lo,hi,at',hx,_,_,_,_,e⟩:=W.hce.1 v.1 (ny (eR.mp hv).1).1;rw[e];have:aq x=true:=hx;simp[this]) (by decide)
  have hne:=l7 hbo;rw[List.isEmpty_map,hba]at hne;generalize ((l.zip (gw (tP K V a g) l s)).filter λv=>m5 v.1 v.2).map (·.1)=bad at ec hne;have hfl:=Ch (lk:=tP K V a g) A.1;unfold cF;generalize htold:gw (tP K V a g) l s=t at ec hfl;have t1:toP 9 (.ref 1) [.dct K (V.map .p),.lst (t.map .p),.lst (w.map .p)]=some (.lst t,[.dct K (V.map .p),.fz (.lst t),.lst (w.map .p)]):=eS rfl;have hzl:(rX l t).length≤1000000:=by unfold rX;rw[aR,vj];lia
  have hz2:l.length≤t.length:=by lia
  have R:∀X Y9:ES,cQ (cU (U (bE (O0 (ab ig gp) kt) [] 2 (aP [af 20,af 21]) (uS (bV (lr (vv 21) (ab (vv 20) bX))) (bV (mq (vv 21) (ab (vv 20) eW)))) (vv 20))) (U (bf aY))) X Y9 (EL B st hd step y (.tup I) f r s p d (gu l) u i C E none) [.dct K (V.map .p),.lst (t.map .p),.lst (w.map .p)]=if (!l.all (CH (tP K V a g)))=true then X (EL B st hd step y (.tup I) f r s p d (gu l) u i C E none) [.dct K (V.map .p),.fz (.lst t),.lst (w.map .p)] else Y9 (EL B st hd step y (.tup I) f r s p d (gu l) u i C E none) [.dct K (V.map .p),.fz (.lst t),.lst (w.map .p)]:=λX Y9=>by simp only[lS,cH]at ec;simp[f,Hc,t1,hz2,bE,hzl,li];simp only[f]at ec;simp[ec,hne]
  by_cases hb:l.all (CH (tP K V a g))=true
  .rw [aj hb];rw[ag (e:=EL B st hd step y (.tup I) f r s p d (gu l) u i C E none) (c:=[.dct K (V.map .p),.fz (.lst t),.lst (w.map .p)]) (by rw[R,al (by simp[hb])];rfl)];have eg:=OX hP (n:=n+3) W hwl' hf hg Q.hsn hgl x (.str rn) wh a N g;have em:=OW hm (n+2);have t2:toP 9 (.ref 2) [.dct K (V.map .p),.fz (.lst t),.lst (w.map .p)]=some (.lst w,[.dct K (V.map .p),.fz (.lst t),.fz (.lst w)]):=eS rfl;have t3:toP 9 (.ref 0) [.dct K (V.map .p),.fz (.lst t),.fz (.lst w)]=some (.dct K V,[.fz (.dct K V),.fz (.lst t),.fz (.lst w)]):=by
    have:tN (toP 8) (V.map .p) [SO.dct K (V.map .p),.fz (.lst t),.fz (.lst w)]=some (V,[SO.dct K (V.map .p),.fz (.lst t),.fz (.lst w)]):=l8 ..;simp[toP,this]
   let T:P->Option D->Lc:=λq q19=>[O (a8 B),O st,Y (hd:Int),O step,O y,qt I,O f,Y (r:Int),qt s,qt p,qr 0,O q,ql (gu l),qr 1,qr 2,u,i,C,E,q19]
   rw[ag (e:=T ((o.map P.tup).getD .non) none) (c:=[.fz (.dct K V),.fz (.lst t),.fz (.lst w)]) (by simp[T,step,t2,eg,t3,em])];cases o with
   |none=>exact⟨T .non none,[.fz (.dct K V),.fz (.lst t),.fz (.lst w)],mU (by simp[T,mj,cv,wB])⟩
   |some r'=>rw[ag (e:=T (.tup r') none) (c:=[.fz (.dct K V),.fz (.lst t),.fz (.lst w)]) (by simp[T,mj,cv])];have u1:toP 9 (.ref 1) [.fz (.dct K V),.fz (.lst t),.fz (.lst w)]=some (.lst t,[.fz (.dct K V),.fz (.lst t),.fz (.lst w)]):=rfl;have u2:toP 9 (.ref 2) [.fz (.dct K V),.fz (.lst t),.fz (.lst w)]=some (.lst w,[.fz (.dct K V),.fz (.lst t),.fz (.lst w)]):=rfl;rw[ag (e:=T (.tup r') (O (hp j t w))) (c:=[.fz (.dct K V),.fz (.lst t),.fz (.lst w)]) (by simp[T,f,step,Ko,DM,ej,u1,u2,bO])];have es:=v9 (x:=hs) (k:=hd) (bF Z) (by lia) (hp j t w);refine⟨T (.tup r') (O (hp j t w)),[.fz (.dct K V),.fz (.lst t),.fz (.lst w)],?_⟩;simp[T,st,kM,jc,es.1,es.2,wB]
  .rw [al hb];exact⟨_,_,mU ((R _ _).trans (by rw[aj (by simp[hb])];rfl))⟩
 .rw [al M];refine⟨F (O f) (Y (r:Int)) (qt s) (qt p) (qr 0) none none none none,[.dct (bv l) (s.map .p)],mU ?_⟩;by_cases q1:rn=G
  .have q2:h=false:=by
    cases h with
    |false=>rfl
    |true=>exact absurd (by simp[q1]) M
   subst q1 q2;simp[F,f,step,Ko,ba hrn,et,htr]
  .simp [F,f,step,Ko,ba hrn,q1]
theorem xV{h a:Type}(g:h->Option a):∀s:List h,(s.flatMap λx=>(g x).toList)=s.filterMap g
 | []=>rfl
 |x::s=>by rw[dU,xV g s,lU];cases g x<;>rfl
abbrev zB(B:BD)(st:P)(hd:Nat)(f step:P)(q h x:Option D):Lc:=[O (a8 B),O st,qr 0,Y (hd:Int),O f,O step,q,h,x]
def Jk(B:BD)(st:P)(hd:Nat)(step y:P)(n:Bool)(z:P):Prop:=∃c e,z=.tup [.tup [.str "step",.int (hd:Int),.str (aX step),y,.tup c],e]/\(∀a ∈ c,l_ a)/\G5 B e/\(n=true->dM (Ph 20 "_law_step_end") [a8 B,st,.int (hd:Int),step,y,.tup c]=some e)
theorem Om{B:BD}(hP:BP B)(hL:Places B){n:Nat}{hd:Nat}{nm:Str}{F:Nat}{o l a p:List P}(hF:Fam B.roads nm F o l a p)(hf:(aN B.fams)[hd]? = some (b0 nm F o l a p)){r:Nat}{cs ws:List P}(hcs:CellsOk l cs)(hib:He l cs)(hwl:ws.length=a.length)(hwi:∀w ∈ ws,l_ w){v:List P}(hrd:bP B v){x:Str}(hx:aq x=true){u:Str}{wh Q:P}{A T:List P}{I:P}(R:Stp nm o l a B.roads (.str u) wh Q A T I){y:P}(hy:(Q=.non/\y=.non)\/(Q≠.non/\LetOk B v hd y)){C:List P}(hS:StL B C v)(hhx:C[hd]? = some (.tup [.int (r:Int),.tup cs,.tup ws])){rn:Str}(hrn:o[r]? = some (.str rn)){h:Bool}(hh:HOk (bv l) cs 9 wh h) :
  ∃E:List P,E.length≤64/\((∀z ∈ E,Jk B (.tup [.tup C,.tup v]) hd (a6 x (.str u) wh Q A T I) y (decide (rn=u) && h) z)/\∀n:Nat,jR (af 6) (ee (Ph (n+10))) (λL=>∃q6 q7 q8,L=zB B (.tup [.tup C,.tup v]) hd (b0 nm F o l a p) (a6 x (.str u) wh Q A T I) q6 q7 q8) y (if (decide (rn=u) && h)=true then E else []))/\∀(b i:Nat)(S:az),Bd B b i S->∃d S',Ph (n+8) "step_ends" [.ref i,.p (.tup [.tup C,.tup v]),.p (.int (hd:Int)),.p (a6 x (.str u) wh Q A T I),.p y] S=some (d,S')/\Fr b S S'/\tB S S' d E:=by
 obtain⟨K,V,N,he,hr',hl1,eit⟩:=Oo hP hL (n:=n+5) hF hcs hrd hwl (x:=x) R hy;obtain⟨hco,ecb⟩:=Py hF hcs (x:=x) R he;have ecb:=ecb (n+1);have hy2:(Q=.non/\y=.non)\/(Q≠.non/\sL y):=by
  rcases hy with h|⟨h1,s,sp,_,_,e,_⟩
  .exact .inl h
  .exact .inr ⟨h1,s,sp,e⟩
 obtain⟨hwl',hwi',ewb⟩:=NS hF hwl hwi R.htk hy2;have ewb:=ewb (n+4);generalize hws:Bu a ws Q y=H at hwl' hwi' ewb hl1;have hN:∀x ∈ gu l++more Q,kG x:=λx hx=>(b9.mp hx).elim (lx hF.hce.1 x) (nQ Q x);obtain⟨hW1,esd⟩:=Op hP hL (n:=n+1) hF hf hwl' hwi' hN he R.hsn R.sl hr';have hzz:=JS hP hL (n:=n+1+2) hF hf hwl' hwi' hN he R.hsn hr';have hzf:=Ef (oI B hd a H) (xt B K V (n+1+2) hd) T N;have hsl3:=R.sl;have htl:∀c ∈ T,(oI B hd a H c).length≤4:=λc hc=>by obtain⟨m,tr,way,nm2,_,_,_,hcw,rfl⟩:=R.hsn c hc;exact(tg_ok hP (n:=0) hF hf hwl' hwi' hcw).1
 have hch:=λn=>(FQ hP (hd:=hd) (j:=H) hN R.hsn htl R.sl n).1;rw[<- hzf]at hch;have hzl:(zz (oI B hd a H) (xt B K V (n+1+2) hd) T N).length≤64:=by
  have h1:=gZ nu hzf;rw[aR]at h1;have h2:=wQ htl;have:=vD (show 0 < 4 by decide) R.sl
  lia
 generalize zz (oI B hd a H) (xt B K V (n+1+2) hd) T N=Z at hW1 esd hzz hch hzl;obtain⟨j,hj,ej⟩:=nW (s:=o) (x:=I) (λz hz=>(hF.hro z hz).ok 19) R.h2;have h4:=jb hP;have hsl:=hS.hl;have hle:∀z ∈ Z,∀n:Nat,dM (Ph (n+10) "_law_step_end") [a8 B,.tup [.tup C,.tup v],.int (hd:Int),a6 x (.str u) wh Q A T I,y,.tup z.1]=some (if (decide (rn=u) && h)=true then wB C hd j H (cF (tP K V Q A) l cs) z.2 else .non):=λz hz n=>by obtain⟨_,_,gs,hgl,hg,hm⟩:=hzz z hz;exact OY hP hF hf hcs hib R (hs:=C) (by lia) hhx he hl1 hwl' hrn hh ej hg (by lia) hm n
 have hp0:∀t rs,CellsOk l t->bP B rs->G5 B (.tup [.tup (C.set hd (hp j t H)),.tup rs]):=λt rs hc hr=>⟨_,_,rfl,hS.put hf ⟨nm,F,o,l,a,p,rfl,j,t,H,rfl,hj,hc,hwl',hwi'⟩ hr⟩;have hE:∀cO:Option (List P),cO=cF (tP K V Q A) l cs->(Z.filterMap λz=>cO.bind λt=>z.2.map λr'=>oa (C.set hd (hp j t H)) hd x y (z.1,r')).length≤64/\((∀z ∈ Z.filterMap λz=>cO.bind λt=>z.2.map λr'=>oa (C.set hd (hp j t H)) hd x y (z.1,r'),Jk B (.tup [.tup C,.tup v]) hd (a6 x (.str u) wh Q A T I) y (decide (rn=u) && h) z)/\∀n:Nat,jR (af 6) (ee (Ph (n+10))) (λL=>∃q6 q7 q8,L=zB B (.tup [.tup C,.tup v]) hd (b0 nm F o l a p) (a6 x (.str u) wh Q A T I) q6 q7 q8) y (if (decide (rn=u) && h)=true then (Z.filterMap λz=>cO.bind λt=>z.2.map λr'=>oa (C.set hd (hp j t H)) hd x y (z.1,r')) else [])):=λcO hcO=>by
  refine⟨aF (List.length_filterMap_le ..) hzl,λe hm=>?_,λn=>?_⟩
  .obtain⟨z,hz,q⟩:=nC.mp hm;obtain⟨t,q1,q⟩:=nr.mp q;obtain⟨r',q2,rfl⟩:=fO.mp q;obtain⟨hi,hro,_⟩:=hzz z hz;refine⟨z.1,_,rfl,hi,hp0 t r' (hco t (hcO.symm.trans q1)) (hro r' q2),λq=>?_⟩;have:=hle z hz 10
   rw[aj q,<- hcO,q1,q2]at this;exact this
  .intro L acc ⟨q6,q7,q8,e⟩ hM;subst e;have eF:(if (decide (rn=u) && h)=true then (Z.filterMap λz=>cO.bind λt=>z.2.map λr'=>oa (C.set hd (hp j t H)) hd x y (z.1,r')) else [])=Z.flatMap λz=>if (decide (rn=u) && h)=true then (cO.bind λt=>z.2.map λr'=>oa (C.set hd (hp j t H)) hd x y (z.1,r')).toList else []:=by
    by_cases hen:(decide (rn=u) && h)=true
    .simp only[aj hen];rw[xV]
    .simp only[al hen];simp
   rw [eF] at hM ⊢;obtain⟨L',e,q7',q8',rfl⟩:=vP (s:=Z) (c:=fun z=>P.tup z.1) (g:=af 7) (b:=g8 (Ph (n+10))) (p:=fun L=>∃q7 q8,L=zB B (.tup [.tup C,.tup v]) hd (b0 nm F o l a p) (a6 x (.str u) wh Q A T I) (O y) q7 q8) (f:=fun z=>if (decide (rn=u) && h)=true then (cO.bind fun t=>z.2.map fun r'=>oa (C.set hd (hp j t H)) hd x y (z.1,r')).toList else []) (fun z hz L acc hL hM=>by
    obtain⟨q7,q8,rfl⟩:=hL;have el:=hle z hz n;have hac:acc.length≤1000000:=by lia
    generalize hen:(decide (rn=u) && h)=en at el ⊢;refine⟨zB B (.tup [.tup C,.tup v]) hd (b0 nm F o l a p) (a6 x (.str u) wh Q A T I) (O y) (qt z.1) q8,zB B (.tup [.tup C,.tup v]) hd (b0 nm F o l a p) (a6 x (.str u) wh Q A T I) (O y) (qt z.1) (O (if en=true then wB C hd j H (cF (tP K V Q A) l cs) z.2 else .non)),.nx,rfl,?_,.inl rfl,⟨_,_,rfl⟩⟩;unfold g8;rw[ag (e:=zB B (.tup [.tup C,.tup v]) hd (b0 nm F o l a p) (a6 x (.str u) wh Q A T I) (O y) (qt z.1) (O (if en=true then wB C hd j H (cF (tP K V Q A) l cs) z.2 else .non))) (c:=[.lst (acc.map .p)]) (by simp[el])];rw[<- hcO];cases en with
    |false=>simp[cD,cv]
    |true=>
     cases cO with
     |none=>simp[cD,cv,wB]
     |some t=>
      cases z.2 with
      |none=>simp[cD,cv,wB]
      |some r'=>simp[cD,cv,wB,oa,d8,hac]) (zB B (.tup [.tup C,.tup v]) hd (b0 nm F o l a p) (a6 x (.str u) wh Q A T I) (O y) q7 q8) acc ⟨_,_,rfl⟩ hM
   refine⟨zB B (.tup [.tup C,.tup v]) hd (b0 nm F o l a p) (a6 x (.str u) wh Q A T I) (O y) q7 q8,zB B (.tup [.tup C,.tup v]) hd (b0 nm F o l a p) (a6 x (.str u) wh Q A T I) (O y) q7' q8',.nx,rfl,?_,.inl rfl,⟨_,_,_,rfl⟩⟩;have ech:=hch (n+(5-T.length));rw[show n+(5-T.length)+T.length+5=n+10 by lia,gC]at ech;unfold ee;rw[bq,fG,show(cy (Ph (n+10) "_law_chosen") (v3 bM dF (ab jB qX))) (zB B (.tup [.tup C,.tup v]) hd (b0 nm F o l a p) (a6 x (.str u) wh Q A T I) (O y) q7 q8) [.lst (acc.map .p)]=some (.lst (Z.map (P.tup ∘ λx=>x.1)),[.lst (acc.map .p)]) by simp[Li,ech]];exact e
 let step:P:=a6 x (.str u) wh Q A T I
 let X:P:=b0 nm F o l a p
 have pre:∀(b i:Nat) (S:az),Bd B b i S->∃q11,∀g:ES,(ae (am 5 (fg (mT Tb (Ph (n+7))) fE "family_of" (HV i4)))
   (ae (xm (aP [af 6,af 7,af 8]) (ab (ab cP cI) dh))
   (ae (am 9 (U (ab cP bX)))
   (ae (am 10 (iI (Ph (n+7) "values_of") (rY (a_ 5) yF)))
   (ae (cQ (bV (eC cD lZ (U (vC (.non))))) (ae (am 11 (x2 (fh (aT Att) fE "places") (v2 (ab gX cI) dh)))
    (ae (fF jM (vt "it") (ab (ab (ab jf gm) (ab gX bX)) bX))
    (am 9 (U (cy (Ph (n+7) "replaced") (v3 jf gm (cy (Ph (n+7) "without") (v2 (ab jf gm) (ab gX bX))))))))) dA) g)))))
   [qr i,qt [.tup C,.tup v],Y (hd:Int),O step,O y,none,none,none,none,none,none,none,none,none,none,none] S=g (SL i (.tup [.tup C,.tup v]) (.int (hd:Int)) step y X (.int (r:Int)) (qt cs) (qt ws) (qt N) (qr S.length) q11 none none none none) (S++[.dct K (V.map .p)]):=λb i S hB=>by
  have ef:=zf (n:=n+5) hB hf;obtain⟨q11,e5⟩:=eit b i S (.tup [.tup C,.tup v]) step X (.int (r:Int)) (qt cs) (qt ws) none none none none none hB;obtain⟨jh,jp,jl,jm,mk,mv,h⟩:=hB;refine⟨q11,λg=>?_⟩;refine(ag (e:=[qr i,qt [.tup C,.tup v],Y (hd:Int),O step,O y,O X,none,none,none,none,none,none,none,none,none,none]) (c:=S) ?_).trans ?_
  .rw [am,h.meth rfl (Qc _) Qj (d:=[.p (.int (hd:Int))]) (by simp),ef];rfl
  rw[ag (by simp[ba hhx];exact⟨rfl,rfl⟩)];rw[ag (by simp;exact⟨rfl,rfl⟩)];refine(ag (e:=SL i (.tup [.tup C,.tup v]) (.int (hd:Int)) step y X (.int (r:Int)) (qt cs) (qt ws) (qt v) (qr S.length) none none none none none) (c:=S++[.dct (bv l) (cs.map .p)]) ?_).trans ?_
  .rw [am,iI];show cf (cf (some ([D.p X,D.p (.tup cs)],S)) _) _=_;rw[av,Bw (n:=n+5) hF hcs S];rfl
  exact ag e5
 have tv:∀S:az,toP 9 (.ref S.length) (S++[.dct K (V.map .p)])=some (.dct K V,S++[.fz (.dct K V)]):=λS=>by have:tN (toP 8) (V.map .p) (S++[.dct K (V.map .p)])=some (V,S++[.dct K (V.map .p)]):=l8 ..;simp[toP,this]
 cases hcF:cF (tP K V Q A) l cs with
 |none=>
  rw[hcF]at ecb;have ecb:dM (Ph (n+1+6) "cells_behind") [b0 nm F o l a p,.tup cs,a6 x (.str u) wh Q A T I,.dct K V]=some .non:=ecb;obtain⟨hE1,hE2⟩:=hE none hcF.symm;have hE0:(Z.filterMap λz=>(none:Option (List P)).bind λt=>z.2.map λr'=>oa (C.set hd (hp j t H)) hd x y (z.1,r'))=[]:=by simp
  rw[hE0]at hE1 hE2;refine⟨[],hE1,hE2,λb i S hB=>⟨.p (.lst []),S++[.fz (.dct K V)],?_,Fr.app _ _ _,.inl rfl⟩⟩;obtain⟨q11,ep⟩:=pre b i S hB;rw[my];show oX (fM _ [qr i,qt [.tup C,.tup v],Y (hd:Int),O step,O y,none,none,none,none,none,none,none,none,none,none,none] S)=_;unfold fM;rw[ep];simp only[X,step]at ecb ⊢;simp[tv,ecb,mj,cv]
 |some t=>
  rw[hcF]at ecb;have ecb:dM (Ph (n+1+6) "cells_behind") [b0 nm F o l a p,.tup cs,a6 x (.str u) wh Q A T I,.dct K V]=some (.tup t):=ecb;obtain⟨hE1,hE2⟩:=hE (some t) hcF.symm;have hhd:hd < C.length:=by rw[hS.hl];exact bF hf
  have er:=ss (n:=n+5) (x:=C) (k:=hd) hhd (by lia) (.tup [.int (j:Int),.tup t,.tup H]);have hE0:(Z.filterMap λz=>(some t).bind λt=>z.2.map λr'=>oa (C.set hd (hp j t H)) hd x y (z.1,r'))=(Z.filterMap (zo ([],N))).map (oa (C.set hd (hp j t H)) hd x y):=by rw[List.map_filterMap];congr 1;funext z;show z.2.map _=(z.2.map _).map _;rw[Option.map_map];rfl
  rw[hE0]at hE1 hE2;generalize hhs:C.set hd (hp j t H)=hs' at er hE1 hE2;generalize Z.filterMap (zo ([],N))=W at hW1 esd hE1 hE2;refine⟨W.map (oa hs' hd x y),hE1,hE2,λb i S hB=>?_⟩;have hfm:W.map (oa hs' hd x y)=(W.map w9).flatMap λw=>[oa hs' hd x y (mS (fV w 0),mS (fV w 1))]:=by rw[jz,List.map_eq_flatMap];rfl
  rw[hfm];obtain⟨h1,h3⟩:=jr (i:=GC B) (f:=λw=>[oa hs' hd x y (mS (fV w 0),mS (fV w 1))]) (g:=aP [af 14,af 15]) (b:=j8 (Ph (n+7))) (Sp:=λG S=>Fr G.b G.S0 S) (r:=λG=>G.r) (c:=1) (M:=1000) (s:=W.map w9)
   (p:=λG L=>∃q11 q14 q15,L=SL G.i (.tup [.tup C,.tup v]) (.int (hd:Int)) step y X (.int (r:Int)) (qt t) (qt H) (qt N) (qr G.S0.length) q11 (qt hs') (qr G.r) q14 q15) (λw hw=>by obtain⟨⟨as,rs⟩,_,rfl⟩:=aM.mp hw;refine⟨by simp,λG L S acc hLp fr hS' hM=>?_⟩;obtain⟨q11,q14,q15,rfl⟩:=hLp;refine⟨SL G.i (.tup [.tup C,.tup v]) (.int (hd:Int)) step y X (.int (r:Int)) (qt t) (qt H) (qt N) (qr G.S0.length) q11 (qt hs') (qr G.r) (qt as) (qt rs),_,_,rfl,kW rfl hS' (y:=.tup [.tup [.str "step",.int (hd:Int),.str x,y,.tup as],.tup [.tup hs',.tup rs]]) ?_ hS' (by lia),⟨_,_,_,rfl⟩,fr.set G.le G.hr _,jN hS'⟩;simp[step])
  obtain⟨q11,ep⟩:=pre b i S hB;have frA:=Fr.app b S [.fz (.dct K V),.lst []];have hk0:(S++[SO.fz (.dct K V),.lst []])[S.length]? = some (.fz (.dct K V)):=by simp
  have hk1:(S++[SO.fz (.dct K V),.lst []])[S.length+1]? = some (.lst []):=by simp
  obtain⟨d1,S1,e1,fr1,an1⟩:=esd b i (S++[.fz (.dct K V),.lst []]) S.length (hB.fr frA) hB.le hk0;have hb1:b≤(S++[SO.fz (.dct K V),.lst []]).length:=aF hB.le (by simp);obtain⟨S2,e2,fr2⟩:=ti (b:=b) (g:=Ph (n+7) "sendings") (s:=Sh fE i4 (U (ab dF qX)) jM (a_ 9) DL) (L:=SL i (.tup [.tup C,.tup v]) (.int (hd:Int)) step y X (.int (r:Int)) (qt t) (qt H) (qt N) (qr S.length) q11 (qt hs') (qr (S.length+1)) none none) (S:=S++[.fz (.dct K V),.lst []]) (n:=[.ref i,.p (.int (hd:Int)),.p (.lst T),.ref S.length,.p (.tup N),.p (.tup H)]) (by simp[step,Li]) e1 fr1 hb1 an1;obtain⟨L',S',e3,hL',fr3,h5⟩:=h3 ⟨b,i,S,S.length+1,hB,by lia⟩ _ S2 [] ⟨q11,none,none,rfl⟩ (frA.trans fr2) (fr2.hi _ _ (aF hB.le (by lia)) hk1) (by simp at hW1 ⊢;lia);obtain⟨q11',q14',q15',rfl⟩:=hL';refine⟨.ref (S.length+1),S',?_,fr3,.inr ⟨S.length+1,by lia,rfl,.inl h5⟩⟩;rw[my];show oX (fM _ [qr i,qt [.tup C,.tup v],Y (hd:Int),O step,O y,none,none,none,none,none,none,none,none,none,none,none] S)=_;unfold fM;rw[ep];rw[ag (by simp[tv,X,step,ecb];exact⟨rfl,rfl⟩)];rw[ag (by simp[mj,cv];exact⟨rfl,rfl⟩)];rw[ag (by simp[X,step,oS,ewb];exact⟨rfl,rfl⟩)];rw[ag (by simp[X,step,DM,Ko,ej,er];exact⟨rfl,rfl⟩)];rw[ag (by simp;exact⟨rfl,rfl⟩)];rw[ag (by rw[bq,fG,e2];exact e3)];rfl
end My
namespace My
open PySem L2 Ev
def MF(w:Str)(z:P):Prop:=∃(a c s:Int)(e:P),z=.tup [.tup [.str w,.int a,.int c,.int s],e]
theorem Ic{k:Str}{x:List P}{i:Nat}(h:i ∈ Eu k x):i < x.length:=lQ.mp (eR.mp h).1
theorem Ie{k:Str}{x:List P}:(Eu k x).length≤x.length:=aF (ib ..) (by simp)
theorem Km{B:BD}(hP:BP B){n:Nat}(hn:n=8){w:Str}(hw:w="lose"\/w="double"){hs u:List P}(hS:StL B hs u) :
  ∃E:List P,E.length≤6144/\(∀z ∈ E,MF w z)/\∀(b i:Nat)(S:az),Bd B b i S->∃d Q,Ph (n+5) "flaw_ends" [.ref i,.p (.tup [.tup hs,.tup u]),.p (.str w)] S=some (d,Q)/\Fr b S Q/\tB S Q d E:=by
 have how:aq w=true:=by rcases hw with rfl|rfl<;>simp
 have hpl:=tt hP;have hrl:=hS.hr.1;let m:Nat->Nat->Option D->Option D->Option D->Option D->Option D->Option D->Option D->Option D->Lc:=λi r' X Z K A C I s e=>[qr i,qt [.tup hs,.tup u],qs w,qr r',X,Z,K,A,C,I,s,e]
 obtain⟨F,h1,hR,h3⟩:=g6 (t:=GC B) (R:=fun _ ys=>∀z ∈ ys,MF w z) (g:=aP [af 4,af 5]) (b:=fD (Ph (n+4))) (Sp:=fun G S=>Fr G.b G.S0 S) (r:=fun G=>G.r) (c:=3) (M:=10000) (s:=bJ 0 B.PR) (p:=fun G L=>∃X Z K A C I s e,L=m G.i G.r X Z K A C I s e) (fun x hx=>by
  obtain⟨k,hk,hxe⟩:=h_.mp hx;obtain⟨p,hp,rfl⟩:=fL (s:=B.PR) (i:=k) (v:=x) (by rw[bj hk,hxe]);obtain⟨road,hro,a,c,rfl⟩:=tq (aZ hp);obtain⟨hkl,l,W,hkr⟩:=hS.hr.at hp;have o:=hP.hr road hro;obtain⟨N,hkd⟩:∃N:Str,tG road (.int 2)=some (.str N):=by obtain⟨ra,rb,N,c,d1,d2,_,_,_,_,_,rfl⟩:=o;exact⟨N,by simp⟩
  obtain⟨hfb,ef⟩:=O5 (n:=n+2) hw o l;have eu:=JY (n:=n+2) N W;have hul:=Ie (k:=N) (x:=l);generalize Jo w road l=fb at hfb ef;have hls3:=W.1;have pre:∀(i r':Nat)(K A C I s e:Option D)(S:az)(g:ES),ae (xm (aP [af 6,af 7,af 8]) jB) (ae (am 9 (U (ab (ab cP bX) gX))) g) (m i r' (Y (k:Int)) (O (pr road a c)) K A C I s e) S=g (m i r' (Y (k:Int)) (O (pr road a c)) (O road) (Y (a:Int)) (Y (c:Int)) (qt l) s e) S:=λi r' K A C I s e S g=>by
   rw [ag (by simp [m,pr];exact⟨rfl,rfl⟩),
    ag (by simp[m,ba hkr];exact⟨rfl,rfl⟩)]
   rfl
  cases fb with
  |false=>refine⟨[],by simp,λ_ h=>(by cases h),λG L S T j fr t hM=>?_⟩;obtain⟨X,Z,K,A,C,I,s,e,rfl⟩:=j;refine⟨m G.i G.r (Y (k:Int)) (O (pr road a c)) K A C I s e,m G.i G.r (Y (k:Int)) (O (pr road a c)) (O road) (Y (a:Int)) (Y (c:Int)) (qt l) s e,S,rfl,?_,⟨_,_,_,_,_,_,_,_,rfl⟩,fr,by simpa using t⟩;unfold fD;rw[pre];simp[m,ef]
  |true=>
   obtain⟨f,k1,kR,k3⟩:=g6 (t:=GC B) (R:=λ_ zs=>∀z ∈ zs,MF w z) (g:=af 10) (b:=hU (Ph (n+4))) (Sp:=λG S=>Fr G.b G.S0 S) (r:=λG=>G.r) (c:=1) (M:=10000) (s:=bu (Eu N l)) (p:=λG L=>∃s e,L=m G.i G.r (Y (k:Int)) (O (pr road a c)) (O road) (Y (a:Int)) (Y (c:Int)) (qt l) s e) (λy hy=>by obtain⟨sp,hsp',rfl⟩:=aM.mp hy;have hsp:=Ic hsp';obtain⟨H,ez⟩:=Pe (n:=n+1) hw W (λq=>hfb q rfl) hsp;have er:=ss (n:=n+2) (x:=u) (k:=k) hkl (by lia) (.tup (Pd w l sp));generalize Pd w l sp=zs at H ez er;refine⟨[.tup [.tup [.str w,.int (a:Int),.int (c:Int),.int (sp:Int)],.tup [.tup hs,.tup (u.set k (.tup zs))]]],by simp,λz H=>⟨_,_,_,_,cS.mp H⟩,λG L S T j fr t hM=>?_⟩;obtain⟨s,e,rfl⟩:=j;refine⟨m G.i G.r (Y (k:Int)) (O (pr road a c)) (O road) (Y (a:Int)) (Y (c:Int)) (qt l) (Y (sp:Int)) e,m G.i G.r (Y (k:Int)) (O (pr road a c)) (O road) (Y (a:Int)) (Y (c:Int)) (qt l) (Y (sp:Int)) (qt (u.set k (.tup zs))),_,rfl,?_,⟨_,_,rfl⟩,fr.set G.le G.hr _,jN t⟩;unfold hU;refine(ag (by simp[m,ez,er])).trans (kW rfl t ?_ t (by lia));simp[m])
   have hnl:(bu (Eu N l)).length=(Eu N l).length:=by simp[bu]
   rw[hnl]at k1 k3;refine⟨_,aF k1 (by lia),λz H=>?_,λG L S T j fr t hM=>?_⟩
   .obtain⟨y,hy,H⟩:=dt.mp H;exact kR y hy z H
   obtain⟨X,Z,K,A,C,I,s,e,rfl⟩:=j;obtain⟨L',Q,e3,⟨q10',q11',rfl⟩,V,h5⟩:=k3 G _ S T ⟨s,e,rfl⟩ fr t (by lia);refine⟨m G.i G.r (Y (k:Int)) (O (pr road a c)) K A C I s e,m G.i G.r (Y (k:Int)) (O (pr road a c)) (O road) (Y (a:Int)) (Y (c:Int)) (qt l) q10' q11',Q,rfl,?_,⟨_,_,_,_,_,_,_,_,rfl⟩,V,h5⟩;unfold fD;rw[pre];simp only[m]at e3;simp[m,ef,hkd,eu,e3])
 rw[dD]at h1 h3;refine⟨(bJ 0 B.PR).flatMap F,by lia,λz H=>?_,λb i S hB=>?_⟩
 .obtain⟨v,hv,H⟩:=dt.mp H;exact hR v hv z H
 have frA:=Fr.app b S [.lst []];obtain⟨jh,jp,jl,jm,mk,mv,h⟩:=hB.fr frA;have frB:=frA.trans (Fr.frz h.bp h.pr);have hb:=hB.le;have hjp:=h.bp;obtain⟨L',Q,e3,⟨X,Z,K,A,C,I,s,e,rfl⟩,V,h5⟩:=h3 ⟨b,i,S,S.length,hB,ah _⟩ (m i S.length none none none none none none none none) ((S++[SO.lst []]).set jp (.fz (.lst B.PR))) [] ⟨none,none,none,none,none,none,none,none,rfl⟩ frB (by rw[aG (by lia)];exact gS _ _) (by simp;lia);refine⟨.ref S.length,Q,?_,V,.inr ⟨S.length,ah _,rfl,.inl h5⟩⟩;rw[show Ph (n+5) "flaw_ends"=jS 3 12 (io (Ph (n+4))) by subst hn;exact t8];show oX (io _ [qr i,qt [.tup hs,.tup u],qs w,none,none,none,none,none,none,none,none,none] S)=_;unfold io;rw[ag (by simp[m];exact⟨rfl,rfl⟩)];rw[ag (by rw[bq,iD,vE,h.pairs rfl,av,h.pr.frz];exact e3)];rfl
abbrev Hd(B:BD)(st:P)(q h x a e s:Option D):Lc:=[O (a8 B),O st,qr 0,q,h,x,a,e,s]
def Se(B:BD)(st:P)(hd:Nat)(t:List P)(z:P):Prop:=∃s ∈ t,∃y,(y=.non\/sL y)/\Jk B st hd s y true z
theorem O6{B:BD}(hP:BP B)(hL:Places B){n:Nat}(hn:n=1){hd:Nat}{T:Str}{k:Nat}{o l a t:List P}(hF:Fam B.roads T k o l a t)(hf:(aN B.fams)[hd]? = some (b0 T k o l a t)){r:Nat}{cs ws:List P}(hr1:r < o.length)(hcs:CellsOk l cs)(hib:He l cs)(hwl:ws.length=a.length)(hwi:∀w ∈ ws,l_ w){m:List P}(hrd:bP B m){H:List P}(hS:StL B H m)(hhx:H[hd]? = some (.tup [.int (r:Int),.tup cs,.tup ws])) :
  ∃E:List P,E.length≤6144/\((∀z ∈ E,Se B (.tup [.tup H,.tup m]) hd t z)/\∀n:Nat,jR (aP [af 3,af 4]) (d_ (Ph (n+10))) (λL=>∃q3 q4 q5 V W X,L=Hd B (.tup [.tup H,.tup m]) q3 q4 q5 V W X) (.tup [.int (hd:Int),b0 T k o l a t]) E)/\∀(b i:Nat)(S:az),Bd B b i S->∃d S',Ph (n+12) "hand_ends" [.ref i,.p (.tup [.tup H,.tup m]),.p (.int (hd:Int))] S=some (d,S')/\Fr b S S'/\tB S S' d E:=by
 have ev:=CO (n:=n+9) hF hcs;have henv:=wt hcs;have hrg:o[r]? = some o[r]:=bj hr1;obtain⟨rn,hrn,hre⟩:=hF.hro o[r] (gF _);rw[hre]at hrg;let Q:Nat->Nat->Option D->Option D->Lc:=λi r' q9 u=>[qr i,qt [.tup H,.tup m],Y (hd:Int),O (b0 T k o l a t),Y (r:Int),qt cs,qt ws,O (.dct (bv l) cs),qr r',q9,u]
 obtain⟨F,h1,hR,h3⟩:=g6 (t:=GC B) (g:=af 9) (b:=fC (Ph (n+11))) (Sp:=fun G S=>Fr G.b G.S0 S) (r:=fun G=>G.r) (R:=fun x ys=>(∀z ∈ ys,Se B (.tup [.tup H,.tup m]) hd t z)/\∀n:Nat,jR (af 5) (fx (Ph (n+10))) (fun L=>∃q5 V W X,L=Hd B (.tup [.tup H,.tup m]) (Y (hd:Int)) (O (b0 T k o l a t)) q5 V W X) x ys) (c:=768) (M:=10000) (s:=t) (p:=fun G L=>∃q9 u,L=Q G.i G.r q9 u) (fun x hx=>by
  obtain⟨C,j,N,I,p,A,v,hsx,hSt,rfl⟩:=hF.hst x hx;obtain⟨j,hrm,rfl⟩:=hF.hro j hSt.h1;obtain⟨hb,hH⟩:=Ge (lx hF.hce.1) henv hSt.wh;have eh:=(hH (n+2)).1;have hcond:∀(i r':Nat)(u:Option D)(S:az),(kc (aS (U (ab jf bX)) (U (ab (ab dF eW) gX))) (bT (U (cy (Ph (n+11) "holds") (v2 (ab jf eW) iC))))) (Q i r' (O (a6 C (.str j) N I p A v)) u) S=some (decide (rn=j) && hb,S):=λi r' u S=>by
   by_cases q:j=rn
   .simp [Q,Ko,ba hrg,q,eh]
   .simp [Q,Ko,ba hrg,q,eh,show ¬rn=j from λz=>q z.symm]
  obtain⟨ls,hl1,⟨hl2,hlaw⟩,el⟩:=Io hP hL (n:=n+7) hf hrd hSt.htk;obtain⟨f,k1,kR,k3⟩:=g6 (t:=GC B) (g:=af 10) (b:=ka (Ph (n+11))) (Sp:=λG S=>Fr G.b G.S0 S) (r:=λG=>G.r) (R:=λy zs=>(∀z ∈ zs,Jk B (.tup [.tup H,.tup m]) hd (a6 C (.str j) N I p A v) y (decide (rn=j) && hb) z)/\∀n:Nat,jR (af 6) (ee (Ph (n+10))) (λL=>∃V W X,L=zB B (.tup [.tup H,.tup m]) hd (b0 T k o l a t) (a6 C (.str j) N I p A v) V W X) y (if (decide (rn=j) && hb)=true then zs else [])) (c:=64) (M:=10000) (s:=ls) (p:=λG L=>∃u,L=Q G.i G.r (O (a6 C (.str j) N I p A v)) u) (λy hy=>by obtain⟨E,hE,hE2,h⟩:=Om hP hL (n:=n+3) hF hf hcs hib hwl hwi hrd hsx hSt (hl2 y hy) hS hhx hrg hH;refine⟨E,hE,hE2,λG L S K hLp fr Z hM=>?_⟩;obtain⟨u,rfl⟩:=hLp;obtain⟨d,S1,e1,fr1,an⟩:=h G.b G.i S (G.bd.fr fr);obtain⟨S2,e2,fr2⟩:=ti (b:=G.b) (g:=Ph (n+11) "step_ends") (s:=KG fE gq i4 (a_ 9) jM) (L:=Q G.i G.r (O (a6 C (.str j) N I p A v)) (O y)) (S:=S) (n:=[.ref G.i,.p (.tup [.tup H,.tup m]),.p (.int (hd:Int)),.p (a6 C (.str j) N I p A v),.p y]) rfl e1 fr1 (aF G.le fr.len) an;have hS2:=fr2.hi _ _ (aF G.le G.hr) Z;exact⟨Q G.i G.r (O (a6 C (.str j) N I p A v)) (O y),_,_,rfl,n_ rfl Z e2 hS2 (by lia),⟨_,rfl⟩,(fr.trans fr2).set G.le G.hr _,jN hS2⟩)
  have hT:∀n:Nat,jR (af 5) (fx (Ph (n+10))) (λL=>∃q5 V W X,L=Hd B (.tup [.tup H,.tup m]) (Y (hd:Int)) (O (b0 T k o l a t)) q5 V W X) (a6 C (.str j) N I p A v) (if (decide (rn=j) && hb)=true then ls.flatMap f else []):=λn L K hL hM=>by
   obtain⟨q5,V,W,X,rfl⟩:=hL;have eF:(if (decide (rn=j) && hb)=true then ls.flatMap f else [])=ls.flatMap λy=>if (decide (rn=j) && hb)=true then f y else []:=by
    by_cases q:(decide (rn=j) && hb)=true
    .simp only[aj q]
    .simp only[al q];simp
   rw[eF]at hM ⊢;obtain⟨L',e,q6',q7',q8',rfl⟩:=turns (λy hy=>(kR y hy).2 n) (zB B (.tup [.tup H,.tup m]) hd (b0 T k o l a t) (a6 C (.str j) N I p A v) V W X) K ⟨_,_,_,rfl⟩ hM;refine⟨zB B (.tup [.tup H,.tup m]) hd (b0 T k o l a t) (a6 C (.str j) N I p A v) V W X,zB B (.tup [.tup H,.tup m]) hd (b0 T k o l a t) (a6 C (.str j) N I p A v) q6' q7' q8',.nx,rfl,?_,.inl rfl,⟨_,_,_,_,rfl⟩⟩;have eL:=hlaw (n+3) H C (.str j) N v p A;unfold fx;rw[bq,fG,show(cy (Ph (n+10) "_law_letters") (v4 bM cP dF jB)) (zB B (.tup [.tup H,.tup m]) hd (b0 T k o l a t) (a6 C (.str j) N I p A v) V W X) [.lst (K.map .p)]=some (.lst ls,[.lst (K.map .p)]) by simp[eL]];exact e
  cases hc:(decide (rn=j) && hb) with
  |false=>rw[hc]at hT;refine⟨[],by simp,⟨λ_ h=>(by cases h),hT⟩,λG L S K hLp fr Z hM=>?_⟩;obtain⟨q9,u,rfl⟩:=hLp;refine⟨Q G.i G.r (O (a6 C (.str j) N I p A v)) u,Q G.i G.r (O (a6 C (.str j) N I p A v)) u,S,rfl,?_,⟨_,_,rfl⟩,fr,by simpa using Z⟩;unfold fC;rw[cQ,hcond,hc];rfl
  |true=>
   rw[hc]at hT kR;refine⟨ls.flatMap f,by lia,⟨λz hz=>?_,hT⟩,λG L S K hLp fr Z hM=>?_⟩
   .obtain⟨y,hy,hz⟩:=dt.mp hz;refine⟨_,hx,y,?_,(kR y hy).1 z hz⟩;rcases hl2 y hy with h|⟨_,s,sp,_,_,h,_⟩
    .exact .inl h.2
    .exact .inr ⟨s,sp,h⟩
   .obtain⟨q9,u,rfl⟩:=hLp;obtain⟨d,S1,e1,fr1,an⟩:=el G.b G.i S (G.bd.fr fr);obtain⟨S2,e2,fr2⟩:=ti (b:=G.b) (g:=Ph (n+11) "takeable") (s:=Si fE (U (ab cP bX)) i4 (U (ab jf gp))) (L:=Q G.i G.r (O (a6 C (.str j) N I p A v)) u) (S:=S) (n:=[.ref G.i,.p (.tup m),.p (.int (hd:Int)),.p I]) (by simp[Q,oS]) e1 fr1 (aF G.le fr.len) an;obtain⟨L',S',e3,⟨q10',rfl⟩,fr3,h5⟩:=k3 G _ S2 K ⟨u,rfl⟩ (fr.trans fr2) (fr2.hi _ _ (aF G.le G.hr) Z) (by lia);refine⟨Q G.i G.r (O (a6 C (.str j) N I p A v)) u,Q G.i G.r (O (a6 C (.str j) N I p A v)) q10',S',rfl,?_,⟨_,_,rfl⟩,fr3,h5⟩;unfold fC;rw[cQ,hcond,hc];show bq _ _ _ _ _=_;rw[bq,fG,e2];exact e3)
 have hsl:=hF.sl;refine⟨t.flatMap F,by lia,⟨λz hz=>?_,λn L K hL hM=>?_⟩,λb i S hB=>?_⟩
 .obtain⟨s,H,hz⟩:=dt.mp hz;exact(hR s H).1 z hz
 .obtain⟨q3,q4,q5,V,W,X,rfl⟩:=hL;obtain⟨L',e,q5',q6',q7',q8',rfl⟩:=turns (λy hy=>(hR y hy).2 n) (Hd B (.tup [.tup H,.tup m]) (Y (hd:Int)) (O (b0 T k o l a t)) q5 V W X) K ⟨_,_,_,_,rfl⟩ hM;refine⟨Hd B (.tup [.tup H,.tup m]) (Y (hd:Int)) (O (b0 T k o l a t)) q5 V W X,Hd B (.tup [.tup H,.tup m]) (Y (hd:Int)) (O (b0 T k o l a t)) q5' q6' q7' q8',.nx,rfl,?_,.inl rfl,⟨_,_,_,_,_,_,rfl⟩⟩;unfold d_;rw[bq,fG,show(ab gX qX) (Hd B (.tup [.tup H,.tup m]) (Y (hd:Int)) (O (b0 T k o l a t)) q5 V W X) [.lst (K.map .p)]=some (.lst t,[.lst (K.map .p)]) by simp[SF]];exact e
 obtain⟨L',S',e3,⟨q9,u,rfl⟩,fr3,h5⟩:=h3 ⟨b,i,S,S.length,hB,ah _⟩ (Q i S.length none none) (S++[.lst []]) [] ⟨none,none,rfl⟩ (Fr.app _ _ _) (gS _ _) (by simp;lia);refine⟨.ref S.length,S',?_,fr3,.inr ⟨S.length,ah _,rfl,.inl h5⟩⟩;have ef:=zf (n:=n+9) hB hf;obtain⟨jh,jp,jl,jm,mk,mv,h⟩:=hB;rw[show Ph (n+12) "hand_ends"=jS 3 11 (im (Ph (n+11))) by subst hn;exact t6];show oX (im _ [qr i,qt [.tup H,.tup m],Y (hd:Int),none,none,none,none,none,none,none,none] S)=_;unfold im;rw[ag (e:=[qr i,qt [.tup H,.tup m],Y (hd:Int),O (b0 T k o l a t),none,none,none,none,none,none,none]) (c:=S) (by rw[am,h.meth rfl (Qc _) Qj (d:=[.p (.int (hd:Int))]) (by simp),ef];rfl)];rw[ag (by simp[ba hhx];exact⟨rfl,rfl⟩)];rw[ag (by simp[ev];exact⟨rfl,rfl⟩)];rw[ag (by simp[Q];exact⟨rfl,rfl⟩)];rw[ag (by rw[bq,fG,show(ab dF qX) (Q i S.length none none) (S++[.lst []])=some (.lst t,S++[.lst []]) by simp[Q,SF]];exact e3)];rfl
theorem StL.at(S:StL B h r)(s:k < (aN B.fams).length):∃f x,(aN B.fams)[k]? = some f/\h[k]? = some x/\HandOk f x:=by have a:=bj s;have e:h[k]? = some (h[k]'(by rw[S.hl];exact s)):=bj _;exact⟨_,_,a,e,S.hh k _ _ a e⟩
def Qv(B:BD)(h:List P):Prop:=∀(k:Nat) f x,(aN B.fams)[k]? = some f->h[k]? = some x->He (mS (fV f 3)) (mS (fV x 1))
theorem Lh:∀n:Nat,Ph (n+14) "ends_on"=Ph 14 "ends_on"
 |0=>rfl
 |n+1=>by have h:qS 14 (n+14)=true:=Nat.ble_eq_true_of_le (by lia);rw[<- Lh n];exact C2 (n:=n+14) (by unfold xk;rw[h];generalize qS 13 (n+14)=c;revert c;decide +kernel)
def uA(B:BD)(st z:P):Prop:=∃(k:Nat)(f:P),(aN B.fams)[k]? = some f/\Se B st k (mS (fV f 5)) z
theorem Pj(F:BP B)(hL:Places B)(X:StL B m s)(hSB:Qv B m) :
  ∃u fl:List P,(u++fl).length≤40000/\(∀z ∈ u,uA B (.tup [.tup m,.tup s]) z)/\(∀z ∈ fl,MF "lose" z\/MF "double" z)/\(∀n:Nat,dM (Ph (n+11) "_law_steps") [a8 B,.tup [.tup m,.tup s]]=some (.lst u))/\∀(b i:Nat)(S:az),Bd B b i S->∃S',Ph 14 "ends_on" [.ref i,.p (.tup [.tup m,.tup s])] S=some (.ref S.length,S')/\Fr b S S'/\S'[S.length]? = some (.lst ((u++fl).map .p)):=by
 have h4:=jb F;have hhl:=o5 (f:=B.fams);obtain⟨la,la1,la3,ela⟩:=Km F (n:=8) rfl (.inl rfl) X;obtain⟨da,da1,da3,eda⟩:=Km F (n:=8) rfl (.inr rfl) X;let p:Nat->Nat->Option D->Lc:=λi r' q=>[qr i,qt [.tup m,.tup s],qr r',q]
 obtain⟨f,h1,hR,h3⟩:=g6 (t:=GC B) (g:=af 3) (b:=lK (Ph 13)) (Sp:=fun G S=>Fr G.b G.S0 S) (r:=fun G=>G.r) (R:=fun v N=>(∀z ∈ N,uA B (.tup [.tup m,.tup s]) z)/\∀n:Nat,jR (aP [af 3,af 4]) (d_ (Ph (n+10))) (fun L=>∃q q4 q5 q6 q7 q8,L=Hd B (.tup [.tup m,.tup s]) q q4 q5 q6 q7 q8) (.tup [v,((aN B.fams)[(iv v).toNat]?).getD .non]) N) (c:=6144) (M:=100000) (s:=intsFrom 0 (homes B.fams).length) (p:=fun G L=>∃q,L=p G.i G.r q) (fun x hx=>by
  obtain⟨k,rfl,hk⟩:=jq hx;simp only[dq];obtain⟨f,x,V,g2,_,_,_,_,_,_,hfe,r,cs,ws,rfl,hr1,hcs,hwl,hwi⟩:=X.at (k:=k) (by lia);obtain⟨nm,Q,A,o,whos,C,hF,rfl⟩:=iw F.hf (aZ V);obtain⟨rfl,hce,rfl,rfl,rfl,rfl⟩:nm=_/\Q=_/\A=_/\o=_/\whos=_/\C=_:=by simp only[P.tup.injEq,jx,P.str.injEq,P.int.injEq,P.lst.injEq,mQ]at hfe;obtain⟨a,b,c,d,e,f⟩:=hfe;exact⟨a,Int.ofNat.inj b,c,d,e,f⟩
  obtain⟨E,m1,m2,m3⟩:=O6 F hL (n:=1) rfl hF V hr1 hcs (hSB k _ _ V g2) hwl hwi X.hr X g2;refine⟨E,m1,⟨λz K=>⟨k,_,V,m2.1 z K⟩,λn=>by rw[show(iv (.int (k:Int))).toNat=k from rfl,V];exact m2.2 n⟩,λG L S acc hLp fr Z hM=>?_⟩;obtain⟨q,rfl⟩:=hLp;obtain⟨d,S1,e1,t,an⟩:=m3 G.b G.i S (G.bd.fr fr);obtain⟨S2,e2,w⟩:=ti (b:=G.b) (g:=Ph 13 "hand_ends") (s:=KH fE gq oO) (L:=p G.i G.r (Y (k:Int))) (S:=S) (n:=[.ref G.i,.p (.tup [.tup m,.tup s]),.p (.int (k:Int))]) rfl e1 t (aF G.le fr.len) an;have hS2:=w.hi _ _ (aF G.le G.hr) Z;exact⟨p G.i G.r (Y (k:Int)),_,_,rfl,n_ rfl Z e2 hS2 (by lia),⟨_,rfl⟩,(fr.trans w).set G.le G.hr _,jN hS2⟩)
 rw[dj]at h1 h3;refine⟨(intsFrom 0 (homes B.fams).length).flatMap f,la++da,?_,λz K=>?_,λz K=>(b9.mp K).imp (la3 z) (da3 z),λn=>?_,λb i S W=>?_⟩
 .rw [bg,bg];lia
 .obtain⟨v,hv,K⟩:=dt.mp K;exact(hR v hv).1 z K
 .have e0:(intsFrom 0 (homes B.fams).length).flatMap f=(List.range (aN B.fams).length).flatMap λ(k:Nat)=>f (.int (k:Int)):=by
   rw[Cb,hhl];unfold bu;rw[jz]
  obtain⟨L',e,q,q4,q5,q6,q7,q8,rfl⟩:=vP (s:=List.range (aN B.fams).length) (c:=λ(k:Nat)=>P.tup [.int (k:Int),((aN B.fams)[k]?).getD .non]) (f:=λ(k:Nat)=>f (.int (k:Int))) (g:=aP [af 3,af 4]) (b:=d_ (Ph (n+10))) (p:=λL=>∃q q4 q5 q6 q7 q8,L=Hd B (.tup [.tup m,.tup s]) q q4 q5 q6 q7 q8) (λk hk=>(hR (.int (k:Int)) (by rw[Cb,hhl];exact aM.mpr ⟨k,hk,rfl⟩)).2 n) (Hd B (.tup [.tup m,.tup s]) none none none none none none) [] ⟨_,_,_,_,_,_,rfl⟩ (by rw[<- e0,qB];lia);rw[<- e0,<- Cp]at e;have ef:=nT (n:=n+8) F.hf F.f0.2 (.lst B.roads) (.lst B.wishes);generalize (intsFrom 0 (homes B.fams).length).flatMap f=u at e;simp only[eE,cH]at e;rw[tU,aJ];simp[mG,ef,e]
 .generalize (intsFrom 0 (homes B.fams).length).flatMap f=N at h1 h3;have T:=Fr.app b S [.lst []];have I:=W.le;obtain⟨L',S1,e1,⟨q,rfl⟩,t,hl1⟩:=h3 ⟨b,i,S,S.length,W,ah _⟩ (p i S.length none) (S++[.lst []]) [] ⟨none,rfl⟩ T (gS _ _) (by simp;lia);obtain⟨d2,T2,f2,w,an2⟩:=ela b i S1 (W.fr t);obtain⟨S2,e2,j⟩:=ti (b:=b) (g:=Ph 13 "flaw_ends") (s:=KH fE gq (U (vt "lose"))) (L:=p i S.length q) (S:=S1) (n:=[.ref i,.p (.tup [.tup m,.tup s]),.p (.str "lose")]) rfl f2 w (aF I t.len) an2;have hl2:=j.hi _ _ I hl1;have H:Fr b S (S2.set S.length (.lst (([]++N++la).map .p))):=(t.trans j).set I (ah _) _;have y:=jN (x:=.lst (([]++N++la).map .p)) hl2;obtain⟨d3,T3,f3,fr3,an3⟩:=eda b i _ (W.fr H);obtain⟨S3,e3,l⟩:=ti (b:=b) (g:=Ph 13 "flaw_ends") (s:=KH fE gq (U (vt "double"))) (L:=p i S.length q) (n:=[.ref i,.p (.tup [.tup m,.tup s]),.p (.str "double")]) rfl f3 fr3 (aF I H.len) an3;have hl3:=l.hi _ _ I y;refine⟨S3.set S.length (.lst (([]++N++la++da).map .p)),?_,(H.trans l).set I (ah _) _,by rw[jN hl3];simp⟩;obtain⟨jh,jp,jl,jm,mk,mv,h⟩:=W.fr T;have hq:(homes B.fams).length < 1000000:=by lia
  rw[xZ];show oX (lL _ [qr i,qt [.tup m,.tup s],none,none] S)=_;unfold lL;rw[ag (by simp[p];exact⟨rfl,rfl⟩)];rw[ag (e:=p i S.length q) (c:=S1) (by rw[bq,show jw (dP (fh (aT Att) fE "homes")) (p i S.length none) (S++[.lst []])=some (intsFrom 0 (homes B.fams).length,S++[.lst []]) by rw[B_,Ib,h.homes rfl];simp[h.ho.len,hq]];exact e1)]
  rw[ag (n_ rfl hl1 e2 hl2 (by simp;lia))];rw[ag (n_ rfl y e3 hl3 (by simp;lia))];rfl
theorem Cd:∀{s:List bG}{h:List D},dn k s h=bx k s h
 | [],_=>by cases ‹List D›<;>rfl
 |_::_,[]=>rfl
 |x::s,v::h=>by
  show(if x=k then some v else dn k s h)=if x=k then some v else bx k s h
  rw[Cd]
theorem Jt{n c:Nat}{a:List P}{S:az}{d x e:D}(h:S[c]? = some (.ins "Board" fields [.p (.lst a),.ref (c+1),d,x,e]))(t:S[c+1]? = some (.lst ((homes a).map .p))){k:Nat}{f:P}(q:(aN a)[k]? = some f):Ph (n+2) "Board.family_of" [.ref c,.p (.int (k:Int))] S=some (.p f,S):=by
 obtain⟨p,s,b⟩:=uC q;have m:i_ (fh (aT Att) (a_ 0) "homes") (vv 1) [qr c,Y (k:Int)] S=some (.p (.int (p:Int)),S):=lN.ix (j:=c+1) (.inl t) (by simp[h,mn,Je]) rfl (ba s);have r:fh (aT Att) (a_ 0) "families" [qr c,Y (k:Int)] S=some (.p (.lst a),S):=by simp[h,mn,Je]
 rw[iT];show oX (aL _ [qr c,Y (k:Int)] S)=_;rw[aL,i_,r,av,vE,m];simp[ba b]
noncomputable def jJ(N:LS)(t:Nat)(s:Str):List Nat:=(List.range t).filter λi=>decide (N[i]? = some s)
theorem kN(N:LS)(t:Nat)(s:Str):jJ N (t+1) s=if N[t]? = some s then jJ N t s++[t] else jJ N t s:=by
 unfold jJ;rw[List.range_succ,List.filter_append];by_cases h:N[t]? = some s
 .rw [aj h,qO (by simpa using h)];rfl
 .rw [al h,qN (by simpa using h)];simp
theorem zr(a:t≤N.length)(h:s ∉ N.take t):jJ N t s=[]:=by
 unfold jJ;refine vp.mpr λi x q=>h ?_
 have x:i < t:=lQ.mp x;have e:=bC q;rw[<- iW x]at e;exact aZ e
theorem xx(T X:az)(k:Nat):(T++X)[T.length+k]? = X[k]?:=by rw[ce (Bc _ _),Bi]
theorem xy(T X:az)(x:SO):(T++x::X)[T.length]? = some x:=xx T (x::X) 0
theorem L8(T X:az)(k:Nat)(o:SO):(T++X).set (T.length+k) o=T++X.set k o:=by rw[vo _ _ (Bc _ _),Bi]
theorem BX(T X:az)(x o:SO):(T++x::X).set T.length o=T++o::X:=L8 T (x::X) 0 o
structure MI(T:az)(fams:List P)(o2 o3:SO)(t:Nat)(mk:List bG)(mv:List D)(S:az):Prop where
 h0:S[T.length]? = some (.ins "Board" fields [.p (.lst fams),.ref (T.length+1),.ref (T.length+2),.ref (T.length+3),.ref (T.length+4)])
 h1:S[T.length+1]? = some (.lst ((homes fams).map .p))
 h2:S[T.length+2]? = some o2
 h3:S[T.length+3]? = some o3
 h4:S[T.length+4]? = some (.dct mk mv)
 nd:mk.Nodup
 ln:mk.length=mv.length
 le:mk.length≤t
 yes:∀s ∈ (aC fams).take t,∃j,dn (.inr s) mk mv=qr j/\T.length+5≤j/\S[j]? = some (.lst ((bu (jJ (aC fams) t s)).map .p))
 no:∀s,s ∉ (aC fams).take t->dn (.inr s) mk mv=none
 lo:∀k,k < T.length->S[k]? = T[k]?
 inj:∀s s' j,dn (.inr s) mk mv=qr j->dn (.inr s') mk mv=qr j->s=s'
abbrev ML(T:az)(p:P)(q h x:Option D):Lc:=[qr T.length,O p,q,h,x]
set_option tactic.hygienic true in
theorem Jb{T:az}{a:List P}{o2 o3:SO}{t:Nat}{mk:List bG}{m:List D}{S:az}(h:MI T a o2 o3 t mk m S){n:Nat}(ht:t≤100){rs:List P}(M:∀f ∈ a,isFam rs f){f:P}(L:(aN a)[t]? = some f)(l:P)(d u:Option D) :
  ∃W X S',MI T a o2 o3 (t+1) W X S'/\cX (Ph (n+2)) (ML T l d u (Y (t:Int))) S=some (.nx,(ML T l d u (Y (t:Int))),S'):=by
 have N:(aC a)[t]? = some (aX f):=by unfold aC;rw[dW,L];rfl
 have htl:t < (aC a).length:=bF N;have ef:=Jt (n:=n) h.h0 h.h1 L;have em:fg (mT Tb (Ph (n+2))) (a_ 0) "family_of" (cN (a_ 4) j3) (ML T l d u (Y (t:Int))) S=some (.p f,S):=by rw[fg];show cf (some (D.ref T.length,S)) _=_;rw[av];simp only[h.h0,Qc,Qj];exact ef
 have ek:(qY tG (vE (fg (mT Tb (Ph (n+2))) (a_ 0) "family_of" (cN (a_ 4) j3))) (vi 0)) (ML T l d u (Y (t:Int))) S=some (.str (aX f),S):=by obtain⟨nm,c,rooms,I,whos,steps,_,rfl⟩:=iw M (aZ L);rw[qY,vE,em];simp[aX]
 have eo:fh (aT Att) (a_ 0) "members" (ML T l d u (Y (t:Int))) S=some (.ref (T.length+4),S):=by simp[h.h0,mn,Je]
 have l5:T.length+4 < S.length:=bF h.h4;have E:(aC a).take (t+1)=(aC a).take t++[aX f]:=by rw[List.take_add_one,N];rfl
 have p:∀k,k < S.length->(S++[SO.lst []])[k]? = S[k]?:=λk v=>bA v;have g:lw (.ref (T.length+4)) S=some (T.length+4,mk,m):=by simp[lw,h.h4]
 have o:lw (.ref (T.length+4)) (S++[.lst []])=some (T.length+4,mk,m):=by simp[lw,p (T.length+4) l5,h.h4]
 have B:(mk.Nodup/\few mk=true):=⟨h.nd,by rw[mX];have:=h.le;lia⟩;by_cases V:aX f ∈ (aC a).take t
 .obtain⟨j,K,hj,e2⟩:=h.yes _ V;have Q:j < S.length:=bF e2;have A:(S++[SO.lst []])[j]? = some (.lst ((bu (jJ (aC a) t (aX f))).map .p)):=by rw[p j Q];exact e2
  have C:(bu (jJ (aC a) t (aX f))).length≤1000000:=by have:=ib (λi=>decide ((aC a)[i]? = some (aX f))) (List.range t);simp[bu,jJ];simp at this;lia
  refine⟨mk,m,(S++[SO.lst []]).set j (.lst ((bu (jJ (aC a) (t+1) (aX f))).map .p)),?_,?_⟩
  .have e:∀k,k < S.length->k≠j->((S++[SO.lst []]).set j (.lst ((bu (jJ (aC a) (t+1) (aX f))).map .p)))[k]? = S[k]?:=λk v q=>by rw[aG (λz=>q z.symm),p k v]
   refine⟨by rw[e T.length (by lia) (by lia)];exact h.h0,by rw[e (T.length+1) (by lia) (by lia)];exact h.h1,by rw[e (T.length+2) (by lia) (by lia)];exact h.h2,by rw[e (T.length+3) (by lia) (by lia)];exact h.h3,by rw[e (T.length+4) (by lia) (by lia)];exact h.h4,h.nd,h.ln,by have:=h.le;lia,λs x=>?_,λs x=>?_,λk v=>by rw[e k (by lia) (by lia)];exact h.lo k v,h.inj⟩
   .by_cases q:s=aX f
    .subst q;exact⟨j,K,hj,by rw[cc (by simp;lia)]⟩
    .have y:s ∈ (aC a).take t:=by
      rw[E]at x;rcases b9.mp x with z|z
      .exact z
      .exact absurd (cS.mp z) q
     obtain⟨H,b,r,F⟩:=h.yes s y;have R:H≠j:=λz=>q (h.inj s (aX f) j (z ▸ b) K);refine⟨H,b,r,?_⟩;rw[e H (bF F) R,kN,al λz=>q (by rw[N]at z;cases z;rfl)];exact F
   .exact h.no s λz=>x (by rw[E];exact lV _ z)
  .unfold cX;rw[cj,bH,oh,eo,av];simp only[g,ek,av];rw[show dB aY (ML T l d u (Y (t:Int))) S=some (.ref S.length,S++[.lst []]) by simp];simp only[av,o,cZ,aj B,K,d8,A];rw[show a_ 4 (ML T l d u (Y (t:Int))) (S++[SO.lst []])=some (.p (.int (t:Int)),S++[.lst []]) from rfl,av];simp only[A];rw[aj (by rw[mX,aR];exact C),kN,aj N];simp[bu]
 .have K:=h.no _ V;obtain⟨g1,g2,g3,g4,G⟩:=nX (.inr (aX f):bG) (.ref S.length) mk m h.nd h.ln;have c0:jJ (aC a) t (aX f)=[]:=zr (by lia) V;refine⟨(eD (Sum.inr (aX f):bG) (.ref S.length) mk m).1,(eD (Sum.inr (aX f):bG) (.ref S.length) mk m).2,((S++[SO.lst []]).set (T.length+4) (SO.dct (eD (Sum.inr (aX f):bG) (.ref S.length) mk m).1 (eD (Sum.inr (aX f):bG) (.ref S.length) mk m).2)).set S.length (.lst [.p (.int (t:Int))]),?_,?_⟩
  .have e:∀k,k < S.length->k≠T.length+4->(((S++[SO.lst []]).set (T.length+4) (.dct (eD (.inr (aX f)) (.ref S.length) mk m).1 (eD (.inr (aX f)) (.ref S.length) mk m).2)).set S.length (.lst [.p (.int (t:Int))]))[k]? = S[k]?:=λk v q=>by rw[aG (by lia),aG (λz=>q z.symm),p k v]
   refine⟨by rw[e T.length (by lia) (by lia)];exact h.h0,by rw[e (T.length+1) (by lia) (by lia)];exact h.h1,by rw[e (T.length+2) (by lia) (by lia)];exact h.h2,by rw[e (T.length+3) (by lia) (by lia)];exact h.h3,by rw[aG (by lia),cc (by simp;lia)],g1,g2,by have:=h.le;lia,λs x=>?_,λs x=>?_,λk v=>by rw[e k (by lia) (by lia)];exact h.lo k v,λs s' j b r=>?_⟩
   .by_cases q:s=aX f
    .subst q;refine⟨S.length,by rw[G,aj rfl],by lia,?_⟩;rw[cc (by simp),kN,aj N,c0];rfl
    .have y:s ∈ (aC a).take t:=by
      rw[E]at x;rcases b9.mp x with z|z
      .exact z
      .exact absurd (cS.mp z) q
     obtain⟨H,b,r,F⟩:=h.yes s y;refine⟨H,by rw[G,al λz=>q (ko z).symm];exact b,r,?_⟩;rw[e H (bF F) (by lia),kN,al λz=>q (by rw[N]at z;cases z;rfl)];exact F
   .rw [G,al λz=>x (by rw[E,<- ko z];simp)];exact h.no s λz=>x (by rw[E];exact lV _ z)
   .have low:∀s j,dn (.inr s) mk m=qr j->j < S.length:=λs j q=>by
     by_cases w:s ∈ (aC a).take t
     .obtain⟨H,b,_,F⟩:=h.yes s w;rw[q]at b;cases b;exact bF F
     .rw [h.no s w]at q;cases q
    rw[G]at b r;split at b
    .rename_i z1;cases b;split at r
     .rename_i z2;exact(ko z1).symm.trans (ko z2)
     .exact absurd (low _ _ r) (by lia)
    .split at r
     .cases r;exact absurd (low _ _ b) (by lia)
     .exact h.inj s s' j b r
  .have l1:((S++[SO.lst []]).set (T.length+4) (.dct (eD (.inr (aX f)) (.ref S.length) mk m).1 (eD (.inr (aX f)) (.ref S.length) mk m).2))[S.length]? = some (.lst []):=by
    rw[aG (by lia)];exact gS _ _
   unfold cX;rw[cj,bH,oh,eo,av];simp only[g,ek,av];rw[show dB aY (ML T l d u (Y (t:Int))) S=some (.ref S.length,S++[.lst []]) by simp];simp only[av,o,cZ,aj B,K,d8,l1];rw[show ∀Z:az,a_ 4 (ML T l d u (Y (t:Int))) Z=some (.p (.int (t:Int)),Z) from λ_=>rfl,av];simp only[l1];rfl
theorem Jc(r:∀f ∈ a,isFam A f)(H:(aN a).length≤100)(p:P)(s c:Option D)(h:MI T a o u 0 [] [] S) :
  ∃mk m x q,MI T a o u (aN a).length mk m x/\bb (af 4) (cX (Ph (n+2))) (intsFrom 0 (aN a).length) [qr T.length,O p,s,c,none] S=some (.nx,[qr T.length,O p,s,c,q],x):=by
 obtain⟨z,x,e,mk,m,q,I,rfl⟩:=cE (g:=af 4) (b:=cX (Ph (n+2))) (Inv:=λt L S=>∃mk m q,MI T a o u t mk m S/\L=[qr T.length,O p,s,c,q]) (s:=intsFrom 0 (aN a).length) (k:=0) (L:=[qr T.length,O p,s,c,none]) (S:=S) (λi v L S y I=>by obtain⟨rfl,l⟩:=ints_get y;obtain⟨mk,m,q,I,rfl⟩:=I;simp only[dq];rw[dX]at I ⊢;obtain⟨d,w,x,j,e⟩:=Jb I (n:=n) (by lia) r (bj l) p s c;exact⟨_,_,x,rfl,e,d,w,_,j,rfl⟩) ⟨[],[],none,h,rfl⟩
 rw[dj,dX]at I;exact⟨mk,m,x,q,I,e⟩
theorem ye(e:Pln f o w)(T:az):∃S,Ph (n+4) "Board.__init__" [.ref T.length,.p (.tup [.lst f,.lst o,.lst w])] (T++[.ins "Board" [] []])=some (.p .non,S)/\Bd (G' f o w) S.length T.length S/\∀k,k < T.length->S[k]? = T[k]?:=by
 let l:P:=.tup [.lst f,.lst o,.lst w]
 let R:=bt (aC f) o
 have C:R.length≤2048:=tt (B:=G' f o w) e;have Q:=jb e;have q:=o5 (f:=f);obtain⟨u,g,m⟩:=Ku (F:=Ph (n+3)) l (.p (.lst f)) (.ref (T.length+1)) (.ref (T.length+2)) (i:=T.length) (j:=T.length+3) (by lia) R 0 ([],[]) Sw (by simp;lia) (λp hp=>by obtain⟨r,_,a,b,rfl⟩:=tq (B:=G' f o w) hp;exact⟨r,a,b,rfl⟩) none none (T++[.ins "Board" ["families","homes","pairs","places"] [.p (.lst f),.ref (T.length+1),.ref (T.length+2),.ref (T.length+3)],.lst ((homes f).map .p),.fz (.lst R),.dtt [] []]) (xy _ _ _) (xx _ _ 3)
 rw[show((0:Nat):Int)=0 from rfl,L8]at m;generalize d:putAll 0 R ([],[])=v at m;let c:az:=T++[.ins "Board" ["families","homes","pairs","places"] [.p (.lst f),.ref (T.length+1),.ref (T.length+2),.ref (T.length+3)],.lst ((homes f).map .p),.lst (R.map .p),.dtt [] []]
 let x:az:=T++[.ins "Board" fields [.p (.lst f),.ref (T.length+1),.ref (T.length+2),.ref (T.length+3),.ref (T.length+4)],.lst ((homes f).map .p),.fz (.lst R),.dtt v.1 v.2,.dct [] []]
 have I:MI T f (.fz (.lst R)) (.dtt v.1 v.2) 0 [] [] x:=
  ⟨xy _ _ _,xx _ _ 1,xx _ _ 2,xx _ _ 3,xx _ _ 4,by simp,rfl,by simp,λs h=>(by simp at h),λs _=>rfl,λk A=>bA A,λs W j h=>(by cases h)⟩
 obtain⟨mk,z,S,V,M,H⟩:=Jc (n:=n+1) e.hf (by lia) l u g I;have t:Bat (G' f o w) S.length T.length (T.length+1) (T.length+2) (T.length+3) (T.length+4) mk z S:=by
  refine⟨M.h0,.inl M.h1,.inr M.h2,?_,M.h4,λs G=>?_,bF M.h0,bF M.h1,bF M.h2,bF M.h3,bF M.h4,ah _⟩
  .have:=M.h3;rw[<- d]at this;exact this
  .have N:(aC f).length=(aN f).length:=by simp[aC]
   obtain⟨j,L,_,y⟩:=M.yes s (by rw[<- N,nA];exact G);refine⟨j,bF y,by rw[<- Cd];exact L,.inl ?_⟩;have:jJ (aC f) (aN f).length s=bQ (G' f o w).N s:=by rw[<- N];rfl
   rw[<- this];exact y
 refine⟨S,?_,⟨_,_,_,_,mk,z,t⟩,M.lo⟩;have F:=Kn (n:=n+1) e.hf e.f0.2 (.lst o) (.lst w);have K:=Ka (n:=n) e;rw[sZ];show oX (jv _ [qr T.length,O l,none,none,none] (T++[.ins "Board" [] []]))=_;unfold jv;rw[ag (e:=[qr T.length,O l,none,none,none]) (c:=T++[.ins "Board" ["families"] [.p (.lst f)]]) (by simp[l,mn,Ev.putK,Ev.tL])];rw[ag (e:=[qr T.length,O l,none,none,none]) (c:=T++[.ins "Board" ["families","homes"] [.p (.lst f),.ref (T.length+1)],.lst ((homes f).map .p)]) (by simp[l,mn,Ev.putK,Ev.tL,F,xy,BX])];rw[ag (e:=[qr T.length,O l,none,none,none]) (c:=T++[.ins "Board" ["families","homes","pairs"] [.p (.lst f),.ref (T.length+1),.ref (T.length+2)],.lst ((homes f).map .p),.lst (R.map .p)]) (by simp[l,mn,Ev.putK,Ev.tL,K,R,xy,BX])];rw[ag (e:=[qr T.length,O l,none,none,none]) (c:=c) (by simp[c,mn,Ev.putK,Ev.tL,xy,BX])];rw[ag (by rw[bq,iD,vE];rw[show fh (aT Att) (a_ 0) "pairs" [some (D.ref T.length),O l,none,none,none] c=some (.ref (T.length+2),c) by simp[c,mn,jG,xy],av,eS (xx _ _ 2),L8];exact m)]
 rw[ag (e:=[qr T.length,O l,u,g,none]) (c:=x) (by simp[x,mn,Ev.putK,Ev.tL,mB,fields,xy,BX])];have E:(homes f).length < 1000000:=by lia
 rw[bq,show jw (dP (fh (aT Att) (a_ 0) "homes")) [some (D.ref T.length),O l,u,g,none] x=some (intsFrom 0 (homes f).length,x) by simp[x,mn,Je,dQ,E,xy,xx],av,q];rw[H];rfl
end My
namespace My
open PySem L2 Ev
theorem BA:∀s:List P,JZ (s.map .p)=some s
 | []=>rfl
 |x::s=>by simp[JZ,BA s]
theorem G9(h:∀(i:Nat) x,a[i]? = some x->∀c,e[i]? = some c->m5 c x=false):He e a:=λv n=>by obtain⟨i,s,rfl⟩:=h_.mp n;rw[vj]at s;rw[List.getElem_zip];exact h i _ (bj (by lia)) _ (bj (by lia))
theorem E1{T ι:Str->GF}{l:List P}(X:∀c ∈ l,isCel c)(hl:l.length≤3)(d:Int)(S:az)(s F K A B C:Option D)(n f m r t p o H:Option D) :
  ∃(N:List P)(j y:Option D),CellsOk l N/\He l N/\bb (aP [af 8,af 9]) (d7 T) (bJ 0 l) [s,F,K,A,B,C,Y d,qr S.length,o,H,n,f,m,r,t,p] (S++[.lst []])=some (.nx,[s,F,K,A,B,C,Y d,qr S.length,j,y,n,f,m,r,t,p],S++[.lst (N.map .p)]):=by
 obtain⟨L',I,e,w,j,y,E,Q,R,rfl,rfl⟩:=cE (g:=aP [af 8,af 9]) (b:=d7 T) (Inv:=fun i L I=>∃(w:List P) (o H:Option D),w.length=i/\(∀c ∈ w,∃i:Int,i.natAbs≤999/\c=.int i)/\(∀(i:Nat) x,w[i]? = some x->∀c,l[i]? = some c->m5 c x=false)/\L=[s,F,K,A,B,C,Y d,qr S.length,o,H,n,f,m,r,t,p]/\I=S++[.lst (w.map .p)]) (s:=bJ 0 l) (k:=0) (L:=[s,F,K,A,B,C,Y d,qr S.length,o,H,n,f,m,r,t,p]) (S:=S++[.lst []]) (fun i v L I Z W=>by
  obtain⟨c,u,rfl⟩:=fL Z;have hi:=bF u;obtain⟨x,lo,a,M,_,b1,b2,b3,b4,rfl⟩:=X c (aZ u);obtain⟨w,o,H,E,Q,R,rfl,rfl⟩:=W;obtain⟨z,hz,V⟩:∃z:Int,(0 < z/\z < 1152921504606846976)/\L2.atI [P.int 8,.int 32,.int 128] (i:Int)=some (.int z):=by
   have:i=0\/i=1\/i=2:=by lia
   rcases this with rfl|rfl|rfl
   .exact⟨8,by decide,by simp⟩
   .exact⟨32,by decide,by simp⟩
   .exact⟨128,by decide,by simp⟩
  have hp:0 < a-lo+1:=by lia
  have m0:0≤d / z % (a-lo+1):=dr _ (by lia);have m1:d / z % (a-lo+1) < a-lo+1:=dR _ hp;have G:w.length≤1000000:=by lia
  refine⟨_,[s,F,K,A,B,C,Y d,qr S.length,Y (i:Int),qt [.str x,.int lo,.int a,.int M],n,f,m,r,t,p],S++[.lst ((w++[P.int (lo+d / z % (a-lo+1))]).map .p)],rfl,?_,_,_,_,by simp[E],eM Q ⟨_,by lia,rfl⟩,sT R (λc q=>by rw[E,dX,u]at q;cases q;unfold m5;simp;lia),rfl,rfl⟩
  rw[<- d9];simp[d7,V,hz,hp,d8,G]) ⟨[],o,H,rfl,λ_ h=>(by cases h),λ_ _ h=>(by simp at h),rfl,rfl⟩
 rw[dD,dX]at E;exact⟨w,j,y,⟨E,Q⟩,G9 R,e⟩
theorem Iz{C T:Str->GF}(m:Nat)(R:m≤2)(fl:List P)(d:Int)(S:az)(s p u j l y:Option D)(H q x a n f t:Option D) :
  ∃(B:List P)(r:Option D),B.length=m/\(∀w ∈ B,l_ w)/\bb (af 8) (d6 C) (intsFrom 0 m) [s,p,u,ql fl,j,l,Y d,y,t,H,qr S.length,q,x,a,n,f] (S++[.lst []])=some (.nx,[s,p,u,ql fl,j,l,Y d,y,r,H,qr S.length,q,x,a,n,f],S++[.lst (B.map .p)]):=by
 obtain⟨N,K,e,c,r,F,A,rfl,rfl⟩:=cE (g:=af 8) (b:=d6 C) (Inv:=fun i L K=>∃(c:List P) (t:Option D),c.length=i/\(∀w ∈ c,l_ w)/\L=[s,p,u,ql fl,j,l,Y d,y,t,H,qr S.length,q,x,a,n,f]/\K=S++[.lst (c.map .p)]) (s:=intsFrom 0 m) (k:=0) (L:=[s,p,u,ql fl,j,l,Y d,y,t,H,qr S.length,q,x,a,n,f]) (S:=S++[.lst []]) (fun i v L K G I=>by
  obtain⟨rfl,Q⟩:=ints_get G;obtain⟨c,t,F,A,rfl,rfl⟩:=I;simp only[dq];obtain⟨z,M,E⟩:∃z:Int,(0 < z/\z < 1152921504606846976)/\L2.atI [P.int 512,.int 4096] (i:Int)=some (.int z):=by
   have:i=0\/i=1:=by lia
   rcases this with rfl|rfl
   .exact⟨512,by decide,by simp⟩
   .exact⟨4096,by decide,by simp⟩
  have hp:(0:Int) < (fl.length:Int)+1:=by lia
  have o:c.length≤1000000:=by lia
  refine⟨_,[s,p,u,ql fl,j,l,Y d,y,Y (i:Int),H,qr S.length,q,x,a,n,f],S++[.lst ((c++[P.int (d / z % ((fl.length:Int)+1)-1)]).map .p)],rfl,?_,_,_,by simp[F],eM A ⟨_,rfl⟩,rfl,rfl⟩;rw[<- d9];simp[d6,E,M,hp,dQ,eX,d8,o]) ⟨[],t,rfl,λ_ h=>(by cases h),rfl,rfl⟩
 rw[dj,dX]at F;exact⟨c,r,F,A,e⟩
theorem IA{T ι:Str->GF}(m:Nat)(hm:m≤3)(d:Int)(S:az)(s j o H F K A B x n f c:Option D)(w q:Option D) :
  ∃(Q:List P)(p r:Option D),Q.length=m/\(∀l ∈ Q,pF l)/\bb (af 8) (d4 T) (intsFrom 0 m) [s,j,o,H,F,K,Y d,A,w,B,x,n,f,c,qr S.length,q] (S++[.lst []])=some (.nx,[s,j,o,H,F,K,Y d,A,p,B,x,n,f,c,qr S.length,r],S++[.lst (Q.map .p)]):=by
 obtain⟨L',G,e,t,p,r,E,M,rfl,rfl⟩:=cE (g:=af 8) (b:=d4 T) (Inv:=fun i L G=>∃(t:List P) (w q:Option D),t.length=i/\(∀l ∈ t,pF l)/\L=[s,j,o,H,F,K,Y d,A,w,B,x,n,f,c,qr S.length,q]/\G=S++[.lst (t.map .p)]) (s:=intsFrom 0 m) (k:=0) (L:=[s,j,o,H,F,K,Y d,A,w,B,x,n,f,c,qr S.length,q]) (S:=S++[.lst []]) (fun i v L G hv Z=>by
  obtain⟨rfl,hi⟩:=ints_get hv;obtain⟨t,w,q,E,M,rfl,rfl⟩:=Z;simp only[dq];obtain⟨z,y,hz,hy,X,W⟩:∃z y:Int,(0 < z/\z < 1152921504606846976)/\(0 < y/\y < 1152921504606846976)/\L2.atI [P.int 8,.int 800,.int 80000] (i:Int)=some (.int z)/\L2.atI [P.int 4,.int 400,.int 40000] (i:Int)=some (.int y):=by
   have:i=0\/i=1\/i=2:=by lia
   rcases this with rfl|rfl|rfl
   .exact⟨8,4,by decide,by decide,by simp,by simp⟩
   .exact⟨800,400,by decide,by decide,by simp,by simp⟩
   .exact⟨80000,40000,by decide,by decide,by simp,by simp⟩
  obtain⟨u,hu1,hu2,V⟩:∃u:Int,-998≤u/\u≤997/\L2.atI [P.int 0,.int 997,.int 0,.int (-998)] (d / 8000000 % 4)=some (.int u):=by
   have h:d / 8000000 % 4=0\/d / 8000000 % 4=1\/d / 8000000 % 4=2\/d / 8000000 % 4=3:=by lia
   rcases h with h|h|h|h<;>rw[h]<;>simp
  obtain⟨mk,N,I⟩:=wd (a:="ma") (b:="mb") (d / y);have R:aq mk=true:=by rcases N with rfl|rfl<;>simp
  have m0:0≤d / z % 4:=dr _ (by decide);have m1:d / z % 4 < 4:=dR _ (by decide);have C:t.length≤1000000:=by lia
  refine⟨_,[s,j,o,H,F,K,Y d,A,Y (i:Int),B,x,n,f,c,qr S.length,Y (d / z % 4-1+u)],S++[.lst ((t++[P.tup [.str mk,.int (d / z % 4-1+u)]]).map .p)],rfl,?_,_,_,_,by simp[E],eM M ⟨mk,_,R,by lia,rfl⟩,rfl,rfl⟩;rw[<- d9];simp[d4,X,W,hz,hy,V,I,d8,C]) ⟨[],w,q,rfl,λ_ h=>(by cases h),rfl,rfl⟩
 rw[dj,dX]at E;exact⟨t,p,r,E,M,e⟩
theorem EZ{B:BD}(hP:Pln B.fams B.roads B.wishes){n:Nat}(V:List Int)(Z q5 Q N C E q u j y z H:Option D) :
  ∃(hs:List P)(S':az)(q4' q5' q6' q7' q8' q9' W:Option D),hs.length=(aN B.fams).length/\(∀(k:Nat) f x,(aN B.fams)[k]? = some f->hs[k]? = some x->HandOk f x/\He (mS (fV f 3)) (mS (fV x 1)))/\S'[0]? = some (.lst (hs.map .p)) /\
   bb (aP [af 4,af 5]) (d5 (Ph (n+2))) (bJ 0 (aN B.fams)) [O (gn V),O (a8 B),qr 0,ql (aN B.fams),Z,q5,Q,N,C,E,q,u,j,y,z,H] [.lst []]=some (.nx,[O (gn V),O (a8 B),qr 0,ql (aN B.fams),q4',q5',q6',q7',q8',q9',W,u,j,y,z,H],S'):=by
 have h4:=jb hP;obtain⟨L',S',e,M,q4',q5',q6',q7',q8',q9',W,h1,h2,h3,rfl⟩:=cE (g:=aP [af 4,af 5]) (b:=d5 (Ph (n+2))) (Inv:=fun i L S=>∃(M:List P) (Z q5 Q N C E q:Option D),M.length=i/\(∀(k:Nat) x,M[k]? = some x->∀f,(aN B.fams)[k]? = some f->HandOk f x/\He (mS (fV f 3)) (mS (fV x 1)))/\S[0]? = some (.lst (M.map .p))/\L=[O (gn V),O (a8 B),qr 0,ql (aN B.fams),Z,q5,Q,N,C,E,q,u,j,y,z,H]) (s:=bJ 0 (aN B.fams)) (k:=0) (L:=[O (gn V),O (a8 B),qr 0,ql (aN B.fams),Z,q5,Q,N,C,E,q,u,j,y,z,H]) (S:=[.lst []]) (fun i v L S hv hI=>by
  obtain⟨f,hf,rfl⟩:=fL hv;have hi:=bF hf;obtain⟨nm,K,o,l,w,t,hF,rfl⟩:=iw hP.hf (aZ hf);obtain⟨M,Z,q5,Q,N,C,E,q,h1,h2,h3,rfl⟩:=hI;obtain⟨c,d,hd,e1,e2⟩:=kL (n:=n) V (k:=29+(i:Int)) (p:=31) (by lia) (by lia) (by lia);obtain⟨A,R,s,hcs,hib,e3⟩:=E1 (T:=Ph (n+2)) (ι:=Ph (n+1)) hF.hce.1 hF.cl d S (O (gn V)) (O (a8 B)) (qr 0) (ql (aN B.fams)) (Y (i:Int)) (O (b0 nm K o l w t)) q u j y z H C E;obtain⟨X,I,hw1,hw2,e4⟩:=Iz (C:=Ph (n+2)) (T:=Ph (n+1)) w.length hF.wl (aN B.fams) d (S++[.lst (A.map .p)]) (O (gn V)) (O (a8 B)) (qr 0) (Y (i:Int)) (O (b0 nm K o l w t)) (qr S.length) s u j y z H R;have hl0:0 < S.length:=bF h3;have hr0:=len_pos hF.r0;have hrp:(0:Int) < (o.length:Int):=by lia
  have r0:0≤d % (o.length:Int):=dr _ (by lia);have r1:d % (o.length:Int) < (o.length:Int):=dR _ hrp;obtain⟨r,hr⟩:∃r:Nat,d % (o.length:Int)=(r:Int):=⟨(d % (o.length:Int)).toNat,by lia⟩;have hwn:w.length < 1000000:=by have:=hF.wl;lia
  let a:az:=S++[.lst (A.map .p)]
  let m:az:=a++[.lst (X.map .p)]
  let F:Option D->Option D->Option D->Option D->Option D->Lc:=λQ N C E q=>[O (gn V),O (a8 B),qr 0,ql (aN B.fams),Y (i:Int),O (b0 nm K o l w t),Q,N,C,E,q,u,j,y,z,H]
  let G:=F (Y d) (qr S.length)
  have t1:toP 9 (.ref S.length) m=some (.lst A,m.set S.length (.fz (.lst A))):=eS (by simp[m,a]);have t2:toP 9 (.ref a.length) (m.set S.length (.fz (.lst A)))=some (.lst X,(m.set S.length (.fz (.lst A))).set a.length (.fz (.lst X))):=eS (by rw[aG (by simp[a])];exact gS _ _);generalize hT:(m.set S.length (.fz (.lst A))).set a.length (.fz (.lst X))=T at t2;have hS0:m[0]? = some (.lst (M.map .p)):=by rw[bA (by simp[a]),bA hl0];exact h3
  have hT0:T[0]? = some (.lst (M.map .p)):=by rw[<- hT,aG (by simp[a]),aG (by lia)];exact hS0
  refine⟨(F Q N C E q),(G I s (qr a.length)),T.set 0 (.lst ((M++[P.tup [.int (r:Int),.tup A,.tup X]]).map .p)),rfl,?_,M++[P.tup [.int (r:Int),.tup A,.tup X]],_,_,_,_,_,_,_,by simp[h1],sT h2 (λf hf'=>?_),jN hT0,rfl⟩
  .unfold d5;rw [ag (e:=(F (Y d) N C E q)) (c:=S) (by simp [F,G,e1,e2])];rw [ag (e:=(G C E q)) (c:=S++[.lst []]) (by simp [G,F])];rw [ag (e:=(G R s q)) (c:=a) (by
    rw[bq,iD,show(ab jB gp) (G C E q) (S++[.lst []])=some (.lst l,S++[.lst []]) by simp[G,F,Hc]];exact e3)]
   rw[ag (e:=(G R s (qr a.length))) (c:=a++[.lst []]) (by simp[G,F])];rw[ag (e:=(G I s (qr a.length))) (c:=m) (by rw[bq,show jw (dP (U (ab jB nH))) (G R s (qr a.length)) (a++[.lst []])=some (intsFrom 0 w.length,a++[.lst []]) by simp[G,F,Nu,dQ,eX,hwn]];exact e4)]
   refine kW (k:=0) (c:=M) (x:=T) rfl hS0 ?_ hT0 (by lia);have m1:(aH ig (dP (U (ab jB eW)))) (G I s (qr a.length)) m=some (.int (r:Int),m):=by simp[G,F,Ko,dQ,eX,hr0,hr]
   have m2:(bS bO (v1 iC)) (G I s (qr a.length)) m=some (.tup A,m.set S.length (.fz (.lst A))):=by show cf (cf (toP 9 (.ref S.length) m) _) _=_;rw[t1];rfl
   have m3:(bS bO (v1 ku)) (G I s (qr a.length)) (m.set S.length (.fz (.lst A)))=some (.tup X,T):=by show cf (cf (toP 9 (.ref a.length) (m.set S.length (.fz (.lst A)))) _) _=_;rw[t2];rfl
   simp only[U,aI,bI,m1,m2,m3,av,aY];rfl
  .rw [h1,dX,hf]at hf';cases hf';exact⟨⟨nm,K,o,l,w,t,rfl,r,A,X,rfl,by lia,hcs,hw1,hw2⟩,hib⟩) ⟨[],Z,q5,Q,N,C,E,q,rfl,λk x h=>(by simp at h),rfl,rfl⟩
 rw[dD,dX]at h1;exact⟨M,S',_,_,_,_,_,_,_,h1,λk f x hf hx=>h2 k x hx f hf,h3,e⟩
theorem EY{B:BD}(hP:Pln B.fams B.roads B.wishes){n:Nat}(Q:List Int){r:Nat}{S0:az}{x0:SO}(h0:S0[0]? = some x0)(hr:S0[r]? = some (.lst []))(hr0:0 < r)(R V W X Z a7 a9 u C z j l q s:Option D) :
  ∃(rds:List P)(S':az)(q6' q8' E I t M:Option D),bP B rds/\S'[0]? = some x0/\S'[r]? = some (.lst (rds.map .p)) /\
   bb (aP [af 12,af 13]) (dZ (Ph (n+2))) (bJ 0 B.PR) [O (gn Q),R,V,W,X,Z,C,a7,z,a9,u,qr r,j,l,q,s] S0=some (.nx,[O (gn Q),R,V,W,X,Z,q6',a7,q8',a9,u,qr r,E,I,t,M],S'):=by
 have h4:=tt hP;obtain⟨L',S',e,H,q6',q8',E,I,t,M,h1,h2,h3,h5,rfl⟩:=cE (g:=aP [af 12,af 13]) (b:=dZ (Ph (n+2))) (Inv:=fun i L S=>∃(H:List P) (C z j l q s:Option D),H.length=i/\(∀r ∈ H,∃K,lg K/\r=.tup K)/\S[0]? = some x0/\S[r]? = some (.lst (H.map .p))/\L=[O (gn Q),R,V,W,X,Z,C,a7,z,a9,u,qr r,j,l,q,s]) (s:=bJ 0 B.PR) (k:=0) (L:=[O (gn Q),R,V,W,X,Z,C,a7,z,a9,u,qr r,j,l,q,s]) (S:=S0) (fun i v L S hv hI=>by
  obtain⟨x,hx,rfl⟩:=fL hv;have hi:=bF hx;obtain⟨road,hro,a,b,rfl⟩:=tq (aZ hx);obtain⟨ra,rb,kd,c,d1,d2,_,_,hkd,hc1,hc2,rfl⟩:=hP.hr road hro;obtain⟨H,C,z,j,l,q,s,h1,h2,h3,h5,rfl⟩:=hI;obtain⟨c',d,hd,e1,e2⟩:=kL (n:=n) Q (k:=34+(i:Int) % 20) (p:=33+(i:Int) / 20) (by lia) (by lia) (by lia);have m0:0≤d % (c+1):=dr _ (by lia);have m1:d % (c+1) < c+1:=dR _ (by lia);have hcp:0 < c+1:=by lia
  obtain⟨m,hm⟩:∃m:Nat,d % (c+1)=(m:Int):=⟨(d % (c+1)).toNat,by lia⟩;obtain⟨K,y,f,hl1,hl2,e3⟩:=IA (T:=Ph (n+2)) (ι:=Ph (n+1)) m (by lia) d S (O (gn Q)) R V W X Z a7 a9 u (qr r) (Y (i:Int)) (O (pr (.tup [.str ra,.str rb,.str kd,.int c,.bl d1,.bl d2]) a b)) z s;have hrl:=bF h5;have hls:lg K:=⟨by lia,hl2⟩;generalize hp:pr (.tup [.str ra,.str rb,.str kd,.int c,.bl d1,.bl d2]) a b=pp at e3;have N:tG pp (.int 0)=some (.tup [.str ra,.str rb,.str kd,.int c,.bl d1,.bl d2]):=by rw[<- hp];simp[pr]
  let F:Option D->Option D->Option D->Option D->Lc:=λC z q s=>[O (gn Q),R,V,W,X,Z,C,a7,z,a9,u,qr r,Y (i:Int),O pp,q,s]
  let G:=F (Y d)
  let w:az:=S++[.lst (K.map .p)]
  have T0:∀(o:SO),(S++[o])[0]? = some x0/\(S++[o])[r]? = some (.lst (H.map .p)):=λo=>⟨by rw[bA (by lia)];exact h3,by rw[bA hrl];exact h5⟩;have fin:∃(A:List P)(q:Option D)(T:az),lg A/\T[0]? = some x0/\T[r]? = some (.lst (H.map .p)) /\
    ae (cQ (aS (U (ab (ab kt cI) eW)) (U (vt "heap"))) (am 14 (U (ug (a_ 14)))) dA) (cj (bH (a_ 11) (U (bS bO (v1 (vv 14)))))) (G y (qr S.length) f) w=some (.nx,(G y q f),T.set r (.lst ((H++[P.tup A]).map .p))):=by
   by_cases hh:kd="heap"
   .obtain⟨A,hz,ez⟩:=uj hls;refine⟨A,ql A,w,hz,(T0 _).1,(T0 _).2,?_⟩;rw[ag (e:=(G y (ql A) f)) (c:=w) (by simp[G,F,w,N,hh,CY,BA,ez])];exact kW rfl (T0 _).2 (by simp[G,F,bO]) (T0 _).2 (by lia)
   .have t1:toP 9 (.ref S.length) w=some (.lst K,w.set S.length (.fz (.lst K))):=eS (by simp[w]);have hT:(w.set S.length (.fz (.lst K)))[r]? = some (.lst (H.map .p)):=by rw[aG (by lia)];exact(T0 _).2
    refine⟨K,qr S.length,w.set S.length (.fz (.lst K)),hls,by rw[aG (by lia)];exact(T0 _).1,hT,?_⟩;rw[ag (e:=(G y (qr S.length) f)) (c:=w) (by simp[G,F,N,hh])];refine kW rfl (T0 _).2 ?_ hT (by lia);show cf (cf (cf (toP 9 (.ref S.length) w) _) _) _=_;rw[t1];rfl
  obtain⟨A,t,T,hz,hT0,hTr,e4⟩:=fin;refine⟨(F C z q s),(G y t f),T.set r (.lst ((H++[P.tup A]).map .p)),rfl,?_,H++[P.tup A],_,_,_,_,_,_,by simp [h1],eM h2 ⟨A,hz,rfl⟩,by rw [aG (by lia)];exact hT0,jN hTr,rfl⟩;unfold dZ;rw [ag (e:=(G z q s)) (c:=S) (by simp [G,F,e1,e2])];rw [ag (e:=(G z (qr S.length) s)) (c:=S++[.lst []]) (by simp [G,F])];rw [ag (e:=(G y (qr S.length) f)) (c:=w) (by
   have hm3:m < 1000000:=by lia
   rw[bq,B_];simp only[G,F]at e3 ⊢;simp[N,hcp,hm,hm3,e3,w])]
  exact e4) ⟨[],C,z,j,l,q,s,rfl,λ_ h=>(by cases h),h0,hr,rfl⟩
 rw[dD,dX]at h1;exact⟨H,S',_,_,_,_,_,_,⟨h1,h2⟩,h3,h5,e⟩
variable{B:BD}
theorem Lg(hP:Pln B.fams B.roads B.wishes)(c:List Int):∃h s,StL B h s/\Qv B h/\dM (Ph (n+5) "_law_standing") [gn c,a8 B]=some (.tup [.tup h,.tup s]):=by
 obtain⟨h,e,v,w,u,g,i,j,q,F,l,t,y⟩:=EZ hP (n:=n+2) c none none none none none none none none none none none none;obtain⟨s,m,L,M,D,E,G,I,K,A,C,z⟩:=EY hP (n:=n+2) c (r:=e.length) (S0:=e++[.lst []]) (x0:=.lst (h.map .p)) (by rw[bA (bF t)];exact t) (gS _ _) (bF t) (O (a8 B)) (qr 0) (ql (aN B.fams)) v w g j q u i none none none none;refine⟨h,s,⟨F,λk f x a b=>(l k f x a b).1,K⟩,λk f x a b=>(l k f x a b).2,?_⟩;have o:=nT (n:=n+2) hP.hf hP.f0.2 (.lst B.roads) (.lst B.wishes);have H:=rf (n:=n) hP;have p:(0:Nat)≠e.length:=by have:=bF t;lia
 have N:toP 9 (.ref 0) m=some (.lst h,m.set 0 (.fz (.lst h))):=eS A;have Q:toP 9 (.ref e.length) (m.set 0 (.fz (.lst h)))=some (.lst s,(m.set 0 (.fz (.lst h))).set e.length (.fz (.lst s))):=eS (by rw[aG p];exact C);rw[o8,aJ];show(match g_ _ [O (gn c),O (a8 B),none,none,none,none,none,none,none,none,none,none,none,none,none,none] [] with|some (.rt d,_,S)=>(toP 9 d S).map (λx=>x.fst)|some (.nx,_,_)=>some .non|_=>none)=some (P.tup [.tup h,.tup s]);unfold g_;rw[ag (e:=[O (gn c),O (a8 B),qr 0,none,none,none,none,none,none,none,none,none,none,none,none,none]) (c:=[.lst []]) (by simp)];rw[ag (e:=[O (gn c),O (a8 B),qr 0,ql (aN B.fams),none,none,none,none,none,none,none,none,none,none,none,none]) (c:=[.lst []]) (by simp[o])];rw[ag (by rw[bq,show iD dF [O (gn c),O (a8 B),qr 0,ql (aN B.fams),none,none,none,none,none,none,none,none,none,none,none,none] [.lst []]=some (bJ 0 (aN B.fams),[.lst []]) by simp];exact y)];rw[ag (e:=[O (gn c),O (a8 B),qr 0,ql (aN B.fams),v,w,u,g,i,j,q,qr e.length,none,none,none,none]) (c:=e++[.lst []]) (by simp)];rw[ag (by rw[bq,show iD (cy (Ph (n+4) "_law_pairs") (v1 cP)) [O (gn c),O (a8 B),qr 0,ql (aN B.fams),v,w,u,g,i,j,q,qr e.length,none,none,none,none] (e++[.lst []])=some (bJ 0 B.PR,e++[.lst []]) by simp[H,BD.PR,BD.N]];exact z)];simp[N,Q,bO]
theorem isStep.ok(q:tz e)(f:∀x ∈ r,kG x)(h:isStep a r e w l v):cK 8 v=true:=by
 obtain⟨i,b,j,k,g,p,m,s,S,rfl⟩:=h;have N:=lx q.1;have M:∀x ∈ gu e++more k,kG x:=λx n=>(b9.mp n).elim (N x) (nQ k x);have o:cK 7 (.lst g)=true:=DO λc h=>by obtain⟨x,t,n,d,rfl⟩:=S.ch c h;simp[n,bY (d.ok M) (show 4≤5 by lia)]
 have u:cK 7 (.lst p)=true:=DO λc h=>bY ((S.hsn c h).ok M) (by lia);show(List.all [P.str i,b,j,k,.lst g,.lst p,m] (cK 7))=true;simp only[dS,qA,o,u,wm,s,(f b S.h1).ok 7,(f m S.h2).ok 7,S.wh.ok N,bY S.htk.ok (show 2≤7 by lia),qm]
theorem C5(hP:BP B):cK 19 (.tup [.lst B.fams,.lst B.roads,.lst B.wishes])=true:=by
 have C:cK 18 (.lst B.fams)=true:=DO λf m=>by
  obtain⟨A,n,o,e,w,t,F,rfl⟩:=hP.hf f m;have v:cK 16 (.lst o)=true:=gI F.hro 15;have u:cK 16 (.lst e)=true:=DO λc h=>by obtain⟨x,lo,L,j,S,_,_,_,_,rfl⟩:=F.hce.1 c h;have q:aq x=true:=S;simp[q]
  have g:cK 16 (.lst w)=true:=gI F.hwh 15;have i:cK 16 (.lst t)=true:=DO λc h=>bY ((F.hst c h).ok F.hce F.hro) (by lia);show(List.all [P.str A,.int (n:Int),.lst o,.lst e,.lst w,.lst t] (cK 16))=true;simp only[dS,qA,v,u,g,i,wm,BW,F.hnm,qm]
 have D:cK 18 (.lst B.roads)=true:=DO λr p=>by
  obtain⟨a,b,K,c,G,I,l,y,d,_,_,rfl⟩:=hP.hr r p;have:aq K=true:=by rcases d with rfl|rfl<;>simp
  simp[l,y,this]
 have E:cK 18 (.lst B.wishes)=true:=DO λr p=>by
  obtain⟨k,f,s,z,m,H,rfl⟩:=hP.hw r p;have:aq k=true:=by rcases z with rfl|rfl<;>simp
  simp[m,H,this]
 show(List.all [P.lst B.fams,.lst B.roads,.lst B.wishes] (cK 18))=true;simp only[dS,qA,C,D,E,qm]
theorem G5.ok(h:G5 B st):cK 5 st=true:=by
 obtain⟨k,d,rfl,S⟩:=h;have f:cK 4 (.tup k)=true:=bK.mpr λx a=>by
  obtain⟨i,n,rfl⟩:=h_.mp a;obtain⟨_,_,_,_,_,_,_,r,s,w,e,_,m,_,hw⟩:=S.hh i _ _ (bj (by rw[<- S.hl];exact n)) (bj n);have o:cK 2 (.tup s)=true:=bK.mpr λc h=>by obtain⟨i,_,rfl⟩:=m.2 c h;simp
  have p:cK 2 (.tup w)=true:=bK.mpr λc h=>(hw c h).ok 1;rw[e];show(List.all [_,P.tup s,P.tup w] (cK 2))=true;rw[dS,dS,dS,o,p];simp
 have b:cK 4 (.tup d)=true:=bK.mpr λx a=>by obtain⟨q,t,rfl⟩:=S.hr.2 x a;exact bK.mpr λl h=>bY (t.2 l h).ok (by lia)
 show(List.all [P.tup k,P.tup d] (cK 4))=true;rw[dS,dS,f,b];rfl
theorem yf{B:BD}(hP:BP B):StL B ((aN B.fams).map iR) (List.replicate B.PR.length (.tup []))/\Qv B ((aN B.fams).map iR):=by
 have y:∀(k:Nat) f x,(aN B.fams)[k]? = some f->((aN B.fams).map iR)[k]? = some x->HandOk f x/\He (mS (fV f 3)) (mS (fV x 1)):=λk f x v p=>by
  rw[dW,v]at p;cases p;obtain⟨S,n,m,e,o,s,F,rfl⟩:=iw hP.hf (aZ v);refine⟨⟨S,n,m,e,o,s,rfl,0,e.map o6,List.replicate o.length (.int (-1)),rfl,len_pos F.r0,⟨by simp,λc q=>?_⟩,by simp,λw hw=>⟨_,(qJ.mp hw).2⟩⟩,G9 (e:=e) (a:=e.map o6) λi x p c q=>?_⟩
  .obtain⟨d,hd,rfl⟩:=aM.mp q;obtain⟨x,lo,u,t,_,g,j,l,z,rfl⟩:=F.hce.1 d hd;exact⟨t,by lia,rfl⟩
  .rw [dW,q]at p;cases p;obtain⟨x,lo,u,t,_,g,j,l,z,rfl⟩:=F.hce.1 c (aZ q);show(decide (t < lo) ||decide (u < t))=false;simp;lia
 exact⟨⟨by simp,λk f x a b=>(y k f x a b).1,by simp,λr H=>⟨[],⟨by simp,λ_ h=>(by cases h)⟩,(qJ.mp H).2⟩⟩,λk f x a b=>(y k f x a b).2⟩
def iF(d:P):Prop:=(∃(k:Int)(x:Str)(y:P)(s:List P),d=.tup [.str "step",.int k,.str x,y,.tup s]/\aq x=true/\(y=.non\/sL y)/\∀a ∈ s,l_ a)\/∃(w:Str)(a c p:Int),(w="lose"\/w="double")/\d=.tup [.str w,.int a,.int c,.int p]
theorem xX:∀{s x:List P},(∀a ∈ s,l_ a)->(∀a ∈ x,l_ a)->hX (jW s) (jW x)=true->s=x
 | [],[],_,_,_=>rfl
 | [],_::_,_,_,h=>by simp[jW,hX]at h
 |_::_,[],_,_,h=>by simp[jW,hX]at h
 |a::s,b::x,e,n,h=>by obtain⟨i,rfl⟩:=e a ar;obtain⟨j,rfl⟩:=n b ar;simp only[pd,jW,hX,bz,aD,ll]at h;rw[h.1,xX (λa h=>e a (ao _ h)) (λa h=>n a (ao _ h)) h.2]
theorem Jv(e:y=.non\/sL y)(x:a=.non\/sL a)(h:bz (pd y) (pd a)=true):y=a:=by
 rcases e with rfl|⟨s,k,rfl⟩<;>rcases x with rfl|⟨n,p,rfl⟩
 .rfl
 .simp only[pd,jW,bz]at h;cases h
 .simp only[pd,jW,bz]at h;cases h
 .simp only[pd,jW,bz,hX,aD,ll]at h;rw[h.1,h.2.1]
variable{d:P}
theorem iF.ok(h:iF d):cK 3 d=true:=by
 rcases h with ⟨k,x,y,s,rfl,f,b,i⟩|⟨w,a,c,p,hw,rfl⟩
 .have o:cK 2 y=true:=by
   rcases b with e|⟨_,_,e⟩<;>rw[e]<;>simp
  have m:cK 2 (.tup s)=true:=bK.mpr λa n=>(i a n).ok 1;show(List.all [P.str "step",.int k,.str x,y,.tup s] (cK 2))=true;simp only[dS,qA,o,m,wm,BW,f,qm];decide +kernel
 .rcases hw with rfl|rfl<;>simp
theorem Pf(h:iF d)(s:iF e):zg d e=some (bz (pd d) (pd e)):=by
 have o:=bY h.ok (show 3≤20 by decide);have n:=bY s.ok (show 3≤20 by decide);have t:∀{x y:List P},cK 20 (.tup x)=true->cK 20 (.tup y)=true->zg (.tup x) (.tup y)=some (bz (pd (.tup x)) (pd (.tup y))):=λ{x y} a b=>by show(if (cK 20 (.tup x) && cK 20 (.tup y))=true then some _ else none)=_;rw[a,b];rfl
 rcases h with ⟨_,_,_,_,rfl,_⟩|⟨_,_,_,_,_,rfl⟩<;>rcases s with ⟨_,_,_,_,rfl,_⟩|⟨_,_,_,_,_,rfl⟩<;>exact t o n
theorem MG(h:iF d)(n:iF f)(q:bz (pd d) (pd f)=true):d=f:=by
 rcases h with ⟨k,x,y,l,rfl,_,r,b⟩|⟨w,a,c,H,hw,rfl⟩<;>rcases n with ⟨o,F,K,s,rfl,_,e,i⟩|⟨S,j,z,g,m,rfl⟩
 .simp only[pd,jW,bz,hX,aD,ll]at q;obtain⟨_,t,p,v,u,_⟩:=q;rw[t,p,Jv r e v,xX b i u]
 .simp only[pd,jW,bz,hX,aD,ll]at q;exact absurd q.2.2.2.2 (by simp)
 .simp only[pd,jW,bz,hX,aD,ll]at q;exact absurd q.2.2.2.2 (by simp)
 .simp only[pd,jW,bz,hX,aD,ll]at q;rw[q.1,q.2.1,q.2.2.1,q.2.2.2.1]
theorem Gq(h:iF d):bz (pd d) (pd d)=true:=p9 _ (fU 20 d (bY h.ok (by decide))).1
section
variable{B:BD}(hP:BP B){st:P}
include hP
theorem oj(h:uA B st z):∃d e,z=.tup [d,e]/\iF d/\G5 B e/\∃r,d=.tup (.str "step"::r):=by obtain⟨k,f,m,s,p,y,v,n,e,rfl,i,b,_⟩:=h;obtain⟨u,w,o,c,a,t,F,rfl⟩:=iw hP.hf (aZ m);obtain⟨x,_,_,_,_,_,_,q,_,rfl⟩:=F.hst s p;exact⟨_,e,rfl,.inl ⟨_,x,y,n,rfl,q,v,i⟩,b,_,rfl⟩
theorem Jz(h:uA B st (.tup [d,e]))(F:uA B st (.tup [d,H])):e=H:=by
 obtain⟨k,f,m,s,A,y,_,E,G,q,_,_,a⟩:=h;obtain⟨L,I,x,D,n,N,_,z,S,u,_,_,l⟩:=F;simp only[P.tup.injEq,jx,mQ]at q u;obtain⟨rfl,rfl⟩:=q;obtain⟨q,rfl⟩:=u;simp only[P.tup.injEq,jx,P.int.injEq,P.str.injEq,mQ,true_and]at q;obtain⟨C,g,rfl,rfl⟩:=q;cases Int.ofNat.inj C;rw[m]at x;cases x;obtain⟨M,w,r,c,o,t,K,rfl⟩:=iw hP.hf (aZ m);have:s=D:=by
  obtain⟨i,p,rfl⟩:=h_.mp A;obtain⟨j,v,rfl⟩:=h_.mp n;have hp:=qP.mp K.sd;rcases Nat.lt_trichotomy i j with h|h|h
  .exact absurd g (hp i j p v h)
  .subst h;rfl
  .exact absurd g.symm (hp j i v p h)
 subst this;have b:=a rfl;rw[l rfl]at b;exact(eP b).symm
end
structure Told(B:BD)(st:P)(due fl:List P):Prop where
 len:(due++fl).length≤40000
 du:∀z ∈ due,uA B st z
 hf:∀z ∈ fl,MF "lose" z\/MF "double" z
 law:∀n:Nat,dM (Ph (n+11) "_law_steps") [a8 B,st]=some (.lst due)
 on:∀(b i:Nat)(S:az),Bd B b i S->∃S',Ph 14 "ends_on" [.ref i,.p st] S=some (.ref S.length,S')/\Fr b S S'/\S'[S.length]? = some (.lst ((due++fl).map .p))
section
variable{B:BD}(hB:B=G' B.fams B.roads B.wishes)(hP:BP B){st:P}{due fl:List P}(hT:Told B st due fl){n:Nat}
include hP hT
theorem Told.sh(h:z ∈ due++fl):∃d e,z=.tup [d,e]/\iF d:=by
 rcases b9.mp h with h|h
 .obtain⟨d,e,x,n,_⟩:=oj hP (hT.du z h);exact⟨d,e,x,n⟩
 .rcases hT.hf z h with ⟨a,c,s,e,rfl⟩|⟨a,c,s,e,rfl⟩
  .exact⟨_,e,rfl,.inr ⟨_,a,c,s,.inl rfl,rfl⟩⟩
  .exact⟨_,e,rfl,.inr ⟨_,a,c,s,.inr rfl,rfl⟩⟩
include hB
theorem Gs(T:az):∃r S,r < S.length/\Ph (n+16) "ends_from" [.p (a8 B),.p st] T=some (.ref r,S)/\S[r]? = some (.lst ((due++fl).map .p)):=by obtain⟨S,s,b,_⟩:=ye hP (n:=n+10) T;rw[<- hB]at b;obtain⟨a,h,f,x⟩:=hT.on _ _ _ b;rw[<- Lh (n+1)]at h;refine⟨_,a,bF x,?_,x⟩;have e:Ph (n+14) "Board.__init__" [.ref T.length,.p (a8 B)] (T++[.ins "Board" [] []])=some (.p .non,S):=s;rw[t_];simp[jS,mM,e,h]
theorem Jw:dM (Ph (n+16) "ends_from") [a8 B,st]=some (.lst (due++fl)):=by obtain⟨r,S,_,e,h⟩:=Gs hB hP hT (n:=n) [];have t:=eS (n:=8) h;unfold dM;rw[aE,aE,eE,e];show(toP 9 (.ref r) S).map (·.1)=_;rw[t];rfl
theorem MM(S:az):Ph (n+17) "deeds" [.p (a8 B),.p st] S=some (.ref S.length,S++[.lst (((due++fl).map Dq).map .p)]):=by
 have x:=Jw hB hP hT (n:=n);have l:=hT.len;have h:=λz b=>Told.sh hP hT (z:=z) b;generalize due++fl=E at x l h;have q:E.length≤1000000:=by lia
 have a:bN (af 2) fm (ab dh cI) E [O (a8 B),O st,none] S=some (E.map Dq,S):=by rw[bW (p:=λ_=>true) (f:=Dq) (Inv:=λL=>∃d,L=[O (a8 B),O st,d]) (λv k L s=>?_) ⟨none,rfl⟩,ff];obtain⟨d,rfl⟩:=s;obtain⟨d,e,rfl,_⟩:=h v k;exact⟨[O (a8 B),O st,qt [d,e]],rfl,⟨_,rfl⟩,rfl,λ_=>by simp⟩
 rw[Dw];simp[jS,uQ,x,bE,q,li,a]
theorem Pm{d e:P}(hz:.tup [d,e] ∈ due):dM (Ph (n+18) "do") [a8 B,st,d]=some e:=by
 have hdd:iF d/\∃r,d=.tup (.str "step"::r):=by obtain⟨_,_,q,h2,_,h3⟩:=oj hP (hT.du _ hz);simp only[P.tup.injEq,jx,mQ]at q;obtain⟨rfl,rfl⟩:=q;exact⟨h2,h3⟩
 obtain⟨S',e1,hb,_⟩:=ye hP (n:=n+12) [];rw[<- hB]at hb;obtain⟨S2,e2,fr,h2⟩:=hT.on _ _ _ hb;rw[<- Lh (n+2)]at e2;obtain⟨S3,e3,fr3⟩:=ti (b:=S'.length) (g:=Ph (n+16) "ends_on") (s:=rY fE gq) (L:=[qr 0,O st,O d,none,none]) (S:=S') (n:=[.ref 0,.p st]) rfl e2 fr (ah _) (.inr ⟨_,ah _,rfl,.inl h2⟩);have key:∀{ys:List P},(∀z ∈ ys,∃d e,z=.tup [d,e]/\iF d)->(∀e',.tup [d,e'] ∈ ys->e'=e)->.tup [d,e] ∈ ys->∀q3 q4:Option D,∃L',bb (aP [af 3,af 4]) (ja (Ph (n+16))) ys [qr 0,O st,O d,q3,q4] S3=some (.rt (.p e),L',S3):=λ{ys}=>by
  induction ys with
  |nil=>exact λ_ _ h=>(by cases h)
  |cons y ys ih=>
   intro hsh hone hm q3 q4;obtain⟨d',e',rfl,hd'⟩:=hsh y ar;have eq:=Pf hd' hdd.1;cases hv:bz (pd d') (pd d) with
   |true=>have q1:=MG hd' hdd.1 hv;subst q1;have q2:=hone e' ar;subst q2;rw[hv]at eq;exact⟨_,lB rfl (by simp[ja,eq];rfl)⟩
   |false=>
    rw [hv] at eq;obtain⟨L',e4⟩:=ih (fun z h=>hsh z (ao _ h)) (fun e' h=>hone e' (ao _ h)) (by
     rcases aW.mp hm with q|q
     .simp only[P.tup.injEq,jx,mQ]at q;rw[<- q.1,Gq hdd.1]at hv;cases hv
     .exact q) (O d') (O e')
    exact⟨L',(bo (h:=[qr 0,O st,O d,O d',O e']) (x:=S3) rfl (by simp[ja,eq])).trans e4⟩
 obtain⟨L',e4⟩:=key (ys:=due++fl) (fun z hz=>Told.sh hP hT hz) (fun e' h=>by
  rcases b9.mp h with h|h
  .exact Jz hP (hT.du _ h) (hT.du _ hz)
  .obtain⟨r,hr⟩:=hdd.2;rcases hT.hf _ h with ⟨a,c,sp,e0,q⟩|⟨a,c,sp,e0,q⟩<;>(simp only[P.tup.injEq,jx,mQ]at q;rw[hr]at q;simp at q)) (lV _ hz) none none
 have e5:Ph (n+17) "do_on" [.ref 0,.p st,.p d] S'=some (.p e,S3):=by rw[Dv];show oX (pj _ [qr 0,O st,O d,none,none] S')=_;unfold pj;rw[mU (by rw[bq,fG,e3];exact e4)];rfl
 have e1':Ph (n+16) "Board.__init__" [.ref 0,.p (a8 B)] [.ins "Board" [] []]=some (.p .non,S'):=e1;rw[MJ,aJ];simp[GX,e1',e5]
end
theorem xq:∀s:List P,Fa (s.map .p)=some s
 | []=>rfl
 |x::s=>by simp[Fa,xq s]
variable{S:az}
theorem y0(h:S[r]? = some (.lst (x.map .p))):BV (.ref r) S=some (r,x):=by simp[BV,d8,h,xq]
theorem EN(h:S[r]? = some (.lst (x.map .p))):fJ S 9 (.ref r)=some (.lst x):=by simp[fJ,h,BZ]
abbrev WL(s:Option D)(B:BD)(st:P)(due:List P)(q h x a:Option D):Lc:=[s,O (a8 B),O (a8 B),O st,ql due,q,h,x,a]
theorem xO(a:ok S)(s:Option D)(B:BD)(st:P)(due:List P)(q x:Option D):∀{E:List P},(∀z ∈ E,∃d e,z=.tup [d,e]/\iF d)->∀n k:Option D,iK ok (aP [af 7,af 8]) fm iC E (WL s B st due q x n k) S=some (E.map Dq,S)
 | [],_,_,_=>aj a
 |z::E,h,n,k=>by obtain⟨d,e,rfl,_⟩:=h z ar;have i:=xO a s B st due q x (E:=E) (λz f=>h z (ao _ f)) (O d) (O e);unfold iK;rw[aj a];have g:aP [af 7,af 8] (.tup [d,e]) (WL s B st due q x n k)=some (WL s B st due q x (O d) (O e)):=rfl;rw[g];simp[i]
section
variable{B:BD}(hB:B=G' B.fams B.roads B.wishes)(hP:BP B){st:P}{due fl:List P}(hT:Told B st due fl){n:Nat}(s:Option D)
include hB hP hT
theorem OZ(g q6 q7 K:Option D)(S:az):∃q6' m,kS (Ph (n+17)) (WL s B st due g q6 q7 K) S=some (.nx,WL s B st due g q6' q7 K,m):=by
 obtain⟨b,k,hr1,e1,h1⟩:=Gs hB hP hT (n:=n+1) S;have V:=MM hB hP hT (n:=n) k;have t:=λz u=>Told.sh hP hT (z:=z) u;have C:=hT.len;have okE:cK 20 (.lst due)=true:=DO λz u=>by obtain⟨d,e,rfl,hd,he,_⟩:=oj hP (hT.du z u);show(List.all [d,e] (cK 18))=true;rw[dS,dS,bY hd.ok (by decide),bY he.ok (by decide)];rfl
 have F:cK 20 (.lst ((due++fl).map Dq))=true:=DO λd hd=>by obtain⟨z,u,rfl⟩:=aM.mp hd;obtain⟨d,e,rfl,X⟩:=t z u;exact bY X.ok (by decide)
 have o:(((due++fl).map Dq).drop due.length).filter (λd=>match fV d 0 with | .str w=>decide (w="step")|_=>false)=[]:=by rw[qC,List.drop_left' (by simp)];refine vp.mpr λd hd=>?_;obtain⟨z,u,rfl⟩:=aM.mp hd;rcases hT.hf z u with ⟨a,c,sp,e,rfl⟩|⟨a,c,sp,e,rfl⟩<;>simp
 have A:((due++fl).map Dq).length=(due++fl).length:=by simp
 have I:(due++fl).take due.length=due:=AK rfl;have l:∀d ∈ ((due++fl).map Dq).drop due.length,∃(w:Str)(r:List P),d=.tup (.str w::r):=λd hd=>by
  obtain⟨z,u,rfl⟩:=aM.mp (qL hd);obtain⟨d,e,rfl,h|h⟩:=t z u
  .obtain⟨_,_,_,_,rfl,_⟩:=h;exact⟨_,_,rfl⟩
  .obtain⟨_,_,_,_,_,rfl⟩:=h;exact⟨_,_,rfl⟩
 generalize due++fl=E at e1 V h1 t C F o A I l;generalize W:E.map Dq=i at V F o A l;let x:az:=k++[.lst (i.map .p)]++[.lst [.ref b,.ref k.length]]
 have M:x[b]? = some (.lst (E.map .p)):=by simp only[x];rw[bA (by simp;lia),bA hr1];exact h1
 have T:x[k.length]? = some (.lst (i.map .p)):=by simp only[x];rw[bA (by simp)];exact gS _ _
 have j:x[k.length+1]? = some (.lst [.ref b,.ref k.length]):=by have:=gS (k++[.lst (i.map .p)]) (.lst [.ref b,.ref k.length]);simpa[x] using this
 let L:Lc:=WL s B st due g (qr (k.length+1)) q7 K
 have Q:∀{m:az},m[k.length+1]? = some (.lst [.ref b,.ref k.length])->i_ lY cI L m=some (.ref b,m):=λh=>by simp[L,h]
 have R:∀{m:az},m[k.length+1]? = some (.lst [.ref b,.ref k.length])->i_ lY bX L m=some (.ref k.length,m):=λh=>by simp[L,h]
 have hq:E.length≤1000000:=by lia
 unfold kS;rw[ag (e:=L) (c:=x) (by simp[L,x,Cq,e1,V])];have cA:(uS (pZ (bT (U (k4 "list" (i_ lY cI))))) (pZ (bT (U (k4 "list" (i_ lY bX)))))) L x=some (false,x):=by
  have i0:k4 "list" (i_ lY cI) L x=some (.bl true,x):=by rw[k4,Q j];simp[xM,M]
  have i1:k4 "list" (i_ lY bX) L x=some (.bl true,x):=by rw[k4,R j];simp[xM,T]
  simp[-k4,i0,i1]
 rw[ag (e:=L) (c:=x) ((nV cA).trans rfl)];have v4:dP lZ L x=some (.int (due.length:Int),x):=by simp[L,dQ,eX]
 have s0:pQ (i_ lY cI) cY (cV (dP lZ)) L x=some (.lst due,x):=by rw[pQ,Q j];simp only[av,xA,xz,v4,y0 M,qx,kM,I]
 have s1:pQ (i_ lY bX) (cV (dP lZ)) cY L x=some (.lst (i.drop due.length),x):=by rw[pQ,R j];simp only[av,xA,xz,v4,y0 T,qx,ol]
 have d0:mR (i_ lY cI) [7,8] 0 (aP [af 7,af 8]) fm iC L x=some (.lst i,x):=by rw[mR,Q j];have hu:=xO (ok:=λS2=>S2[b]? = some (.lst (E.map .p))) M s B st due g (qr (k.length+1)) t none none;have H:li [7,8] 0 L=WL s B st due g (qr (k.length+1)) none none:=rfl;simp only[av,y0 M,kl,H,hu,W];rw[aj (by rw[mX];exact hq)]
 have cB:(uS (cU (U (pQ (i_ lY cI) cY (cV (dP lZ)))) lZ) (cU (U (mR (i_ lY cI) [7,8] 0 (aP [af 7,af 8]) fm iC)) (i_ lY bX))) L x=some (false,x):=by
  have j0:cU (U (pQ (i_ lY cI) cY (cV (dP lZ)))) lZ L x=some (false,x):=by unfold cU;rw[bV,eC,U,s0];simp[L,nP okE]
  have j1:cU (U (mR (i_ lY cI) [7,8] 0 (aP [af 7,af 8]) fm iC)) (i_ lY bX) L x=some (false,x):=by unfold cU;rw[bV,eC,U,d0];simp only[av,R j,Kk,vZ,EN T,kl,nP F,qx]
  rw[uS,j0];exact j1
 rw[ag (e:=L) (c:=x) ((nV cB).trans rfl)];have d1:bE (fG (pQ (i_ lY bX) (cV (dP lZ)) cY)) [7] 0 (af 7) (aS (U (ab iC cI)) (U (vt "step"))) iC L x=some (.lst [],x):=by
  have hg:bN (af 7) (aS (U (ab iC cI)) (U (vt "step"))) iC (i.drop due.length) (WL s B st due g (qr (k.length+1)) none K) x=some ([],x):=by
   rw[bW (p:=λd=>match fV d 0 with | .str w=>decide (w="step")|_=>false) (f:=id) (Inv:=λL=>∃q,L=WL s B st due g (qr (k.length+1)) q K) (λv hv L hL=>?_) ⟨none,rfl⟩,o]
   .rfl
   .obtain⟨q,rfl⟩:=hL;obtain⟨w,r,rfl⟩:=l v hv;exact⟨WL s B st due g (qr (k.length+1)) (qt (.str w::r)) K,rfl,⟨_,rfl⟩,by simp,λ_=>by simp⟩
  have Z:(i.drop due.length).length≤1000000:=by rw[qG];lia
  unfold bE;rw[fG,s1];simp only[av];rw[aj (by rw[mX];exact Z)];have H:li [7] 0 L=WL s B st due g (qr (k.length+1)) none K:=rfl;rw[H,hg];rfl
 have cC:cU (U (bE (fG (pQ (i_ lY bX) (cV (dP lZ)) cY)) [7] 0 (af 7) (aS (U (ab iC cI)) (U (vt "step"))) iC)) (U (bf aY)) L x=some (false,x):=by unfold cU;rw[bV,eC,U,d1];simp[nP (v:=.lst []) rfl]
 rw[ag (e:=L) (c:=x) ((nV cC).trans rfl)];have hne:b≠k.length+1:=by lia
 have G:b≠k.length:=by lia
 rw[ag (e:=L) (c:=x.set b (.lst [])) (by rw[cj,wL,Q j];simp[d8,M])]
 have k3':(x.set b (.lst []))[k.length+1]? = some (.lst [.ref b,.ref k.length]):=by rw[aG hne];exact j
 have N:(x.set b (.lst []))[k.length]? = some (.lst (i.map .p)):=by rw[aG G];exact T
 exact⟨_,_,kW (R k3') N (y:=.tup [.str "lose",.int 0,.int 1,.int 0]) (by simp) N (by lia)⟩
theorem Kh(k f:Option D)(S:az):∀{E:List P},(∀z ∈ E,z ∈ due)->∀b c:Option D,∃q x,bb (aP [af 7,af 8]) (m9 (Ph (n+18))) E (WL s B st due k f b c) S=some (.nx,WL s B st due k f q x,S)
 | [],_,b,c=>⟨b,c,rfl⟩
 |z::E,h,b,c=>by have a:=h z ar;obtain⟨d,e,rfl,hd,t,_⟩:=oj hP (hT.du z a);have m:=Pm hB hP hT (n:=n) a;obtain⟨q,x,r⟩:=Kh k f S (E:=E) (λz a=>h z (ao _ a)) (O d) (O e);refine⟨q,x,(bo (h:=WL s B st due k f (O d) (O e)) (x:=S) rfl ?_).trans r⟩;simp[m9,m,nP (bY t.ok (show 5≤20 by decide))]
theorem Kg(F r f c m:Option D)(S:az):∃u j,(∃p h q x a,u=[s,O (a8 B),O (a8 B),O st,p,h,q,x,a])/\m7 (Ph (n+18)) [s,O (a8 B),O (a8 B),O st,F,r,f,c,m] S=some (.nx,u,j):=by
 have o:=hT.law (n+7);obtain⟨L2,t,l,h,q,x,a,rfl⟩:=cE (g:=af 5) (b:=kS (Ph (n+18))) (Inv:=λ_ L S=>∃r f c m,L=WL s B st due r f c m) (s:=intsFrom 0 2) (k:=0) (L:=WL s B st due r f c m) (S:=S) (λi v L S K I=>by obtain⟨r,f,c,m,rfl⟩:=I;obtain⟨q,j,e⟩:=OZ hB hP hT (n:=n+1) s (O v) f c m S;exact⟨_,_,_,rfl,e,_,_,_,_,rfl⟩) ⟨_,_,_,_,rfl⟩
 obtain⟨d,w,y⟩:=Kh hB hP hT (n:=n) s h q t (E:=due.take 12) (λz H=>nD H) x a;refine⟨WL s B st due h q d w,t,⟨_,_,_,_,_,rfl⟩,?_⟩;unfold m7;rw[ag (e:=WL s B st due r f c m) (c:=S) (by simp[o])];rw[ag (by rw[bq,show jw eW (WL s B st due r f c m) S=some (intsFrom 0 2,S) by simp];exact l)];rw[bq,fG,show i5 gX cY (cV (vi 12)) (WL s B st due h q x a) t=some (.lst (due.take 12),t) by simp;exact kM (x:=due) 12]
 exact y
end
theorem Mg{n:Nat}(s:List Int):dM (Ph (n+20) "law") [gn s]=some (.bl true):=by
 obtain⟨f,o,w,hP,A⟩:=IQ (n:=n+13) s;generalize h:G' f o w=B;have u:B.fams=f:=by rw[<- h];rfl
 have i:B.roads=o:=by rw[<- h];rfl
 have hw:B.wishes=w:=by rw[<- h];rfl
 have hB:B=G' B.fams B.roads B.wishes:=by rw[u,i,hw,h]
 rw[<- u,<- i,<- hw]at hP A;clear h u i hw;have V:Places B:=by rw[hB];exact Dc _ hP.rd
 have t:∀{m x:List P},StL B m x->Qv B m->∃due fl,Told B (.tup [.tup m,.tup x]) due fl:=λR T=>by obtain⟨due,fl,a,b,c,d,e⟩:=Pj hP V R T;exact⟨due,fl,a,b,c,d,e⟩
 obtain⟨m,x,N,Q,K⟩:=Lg hP (n:=n+14) s;have G:=GW (n:=n+15) hP;have k:dM (Ph (n+19) "begin") [a8 B]=some (.tup [.tup ((aN B.fams).map iR),.tup (List.replicate B.PR.length (.tup []))]):=G;obtain⟨S,I,C⟩:=t N Q;obtain⟨F,M,D⟩:=t (yf hP).1 (yf hP).2;have q:dM (Ph (n+19) "_law_plan") [gn s,.int 3]=some (a8 B):=A;have W:=Gr (bY (C5 hP) (show 19≤20 by decide));generalize P.tup [.tup ((aN B.fams).map iR),.tup (List.replicate B.PR.length (.tup []))]=p at k D;generalize P.tup [.tup m,.tup x]=st at K C;obtain⟨L1,E,⟨j,l,y,z,H,rfl⟩,X⟩:=Kg hB hP C (n:=n+1) (O (gn s)) none none none none none [];obtain⟨L2,S2,⟨_,_,_,_,_,rfl⟩,Z⟩:=Kg hB hP D (n:=n+1) (O (gn s)) j l y z H E;rw[Jx];refine um rfl ?_;show ∃L' S',wX (Ph (n+19)) [O (gn s),none,none,none,none,none,none,none,none] []=_;unfold wX;rw[ag (e:=[O (gn s),O (a8 B),none,none,none,none,none,none,none]) (c:=[]) (by simp[q])];rw[ag (e:=[O (gn s),O (a8 B),O (a8 B),none,none,none,none,none,none]) (c:=[]) (by simp[gb])];rw[ag (by rw[bq,fG,show(bf (v2 (cy (Ph (n+19) "_law_standing") (v2 bM cP)) (cy (Ph (n+19) "begin") (v1 cP)))) [O (gn s),O (a8 B),O (a8 B),none,none,none,none,none,none] []=some (.lst [st,p],[]) by simp[K,k]];exact(bo (L:=[O (gn s),O (a8 B),O (a8 B),none,none,none,none,none,none]) (v:=st) (r:=[p]) rfl X).trans ((bo (g:=af 3) (L:=[O (gn s),O (a8 B),O (a8 B),O st,j,l,y,z,H]) (v:=p) (r:=[]) rfl Z).trans rfl))]
 exact⟨_,_,by simp[W];exact⟨rfl,rfl⟩⟩
theorem FR{K:FG}{H:Hp}{a:Addr}{s:List Int}(l:s.length≤63)(h:DK H)(S:gY K H a (s.map V.int)):sk K (JQ Gv Att Tb 200 "law") [.ref a] H (λv _=>v=.bl true) (λ_ _ _=>False):=by have e:dM (JQ Gv Att Tb 200 "law") [.ro (s.map .int)]=some (.bl true):=Mg (n:=180) s;exact Mh h S e
end My
set_option tactic.hygienic true
namespace PySem.W.Fast
def tw1852311451949095684:=Nat
def tw8076834826427447961:=Nat
def tw10600852891303664041:=Nat
def tw528946950604719136:=Nat
def tw16213354045256588954:=Nat
def tw9651743671608413641:=Nat
def tw16033319584010397545:=Nat
def tw17392408616944315000:=Nat
def tw9275397633094821979:=Nat
def tw10172520149707836733:=Nat
def tw10996188957999032275:=Nat
def tw306745931122507267:=Nat
def tw7196826769265028844:=Nat
def tw6235255621458947869:=Nat
def tw1374143686797385206:=Nat
def tw17351091634406556416:=Nat
def tw14900835129702710065:=Nat
def tw12053829448452860448:=Nat
def tw3783081405385648927:=Nat
def tw4669951182108396776:=Nat
def tw13549336216317684615:=Nat
def tw14246333093422759805:=Nat
def tw8553791295208939103:=Nat
def tw16839091452882314144:=Nat
def tw13138453306845961677:=Nat
def tw4212685205440566278:=Nat
def tw16566511680522391177:=Nat
def tw7920434777193905300:=Nat
def tw6561120765555100363:=Nat
def tw13986274962410028628:=Nat
def tw1038321524773205608:=Nat
def tw3484527107052076164:=Nat
def tw10188775200213424793:=Nat
def tw14205551147721172905:=Nat
def tw12376396006006775702:=Nat
def tw6231235502296367979:=Nat
def tw6380866092258631193:=Nat
def tw9500098456560840419:=Nat
def tw16995883539389425298:=Nat
def tw8915453291448941018:=Nat
def tw17201459360467221489:=Nat
def tw11437061730534340987:=Nat
def tw5510169535134821074:=Nat
def tw10970658623816560109:=Nat
def tw5246024470397636773:=Nat
def tw6328942803883095945:=Nat
def tw12284304019511682059:=Nat
def tw228903917329785778:=Nat
def tw4390975440047037433:=Nat
def tw12840802437331162117:=Nat
def tw13242816294952942482:=Nat
def tw2413052147473803532:=Nat
def tw17338826191435744225:=Nat
def tw13383840596735914970:=Nat
def tw7999779793683435223:=Nat
def tw12701190732621143014:=Nat
def tw11807422778280006553:=Nat
def tw7272332388911307198:=Nat
def tw7727199442558956859:=Nat
def tw15354436147022265563:=Nat
def tw3781054471446974612:=Nat
def tw13816401986786947482:=Nat
def tw5814973124681729437:=Nat
def tw18276524732451992240:=Nat
def tw12257587171151805768:=Nat
def tw1313282545734028359:=Nat
def tw352303445864668585:=Nat
def tw15468229299325543659:=Nat
def tw11238239590223952284:=Nat
def tw10732007422418471580:=Nat
def tw15876652703954441439:=Nat
def tw8918906822689108712:=Nat
def tw6777556414252342063:=Nat
def tw5732128076033356075:=Nat
def tw8900573766041955557:=Nat
def tw9490345177283795578:=Nat
def tw4697072236437051536:=Nat
def tw12935048460039797883:=Nat
def tw5022815029085342062:=Nat
def tw14437884997611662552:=Nat
def tw14504859397486613957:=Nat
def tw9486407157687272508:=Nat
def tw628373605129421557:=Nat
def tw9359701409852960951:=Nat
def tw6190143213507554143:=Nat
def tw2773764223321280810:=Nat
def tw12362195253295126750:=Nat
def tw7550634017491056621:=Nat
def tw14669534342748920922:=Nat
def tw7514911458311636418:=Nat
def tw12517845549221059796:=Nat
def tw17592739076778600512:=Nat
def tw9264308980804401249:=Nat
def tw8542749120886200442:=Nat
def tw1757679806494615031:=Nat
def tw17560927689245019313:=Nat
def tw15182638364840915256:=Nat
def tw4288780639537281652:=Nat
def tw6984230488141616092:=Nat
def tw6148856910956338594:=Nat
def tw6428415851248103718:=Nat
def tw10066289514680012143:=Nat
def tw8673880600395607507:=Nat
def tw3319559988245948606:=Nat
def tw12781762576580918017:=Nat
def tw4175299145751065474:=Nat
def tw2701953699805698995:=Nat
def tw12235776246848964807:=Nat
def tw13913193473519786609:=Nat
def tw7067898036002098018:=Nat
def tw13516319597040447347:=Nat
def tw9756406476445041764:=Nat
def tw9426605984641711164:=Nat
def tw13224620369964767582:=Nat
def tw5284487828919526884:=Nat
def tw8839149482410003663:=Nat
def tw9013484083420679398:=Nat
def tw14316600493029467550:=Nat
def tw13749758259570888017:=Nat
def tw11870813268432967648:=Nat
def tw5869713407901033206:=Nat
def tw17187843475642279574:=Nat
def tw9912692347966730777:=Nat
def tw15301868495503696712:=Nat
def tw9375949647647920190:=Nat
def tw9316786743580343632:=Nat
def tw18201225721300286546:=Nat
def tw8280826921537892378:=Nat
def tw8632747288065026545:=Nat
def tw8263047288820636223:=Nat
def tw16800296483816188487:=Nat
def tw762610619750399514:=Nat
def tw8645342141448070289:=Nat
def tw7429707387791325861:=Nat
def tw3751966318248407014:=Nat
def tw16787120547174864975:=Nat
def tw17196621809011742697:=Nat
def tw2383803134880659307:=Nat
def tw17857151255969496010:=Nat
def tw17917394500434339843:=Nat
def tw10143365654889373301:=Nat
def tw13410696953484699382:=Nat
def tw18088965744198131096:=Nat
def tw10590149409344948963:=Nat
def tw5089385823221153055:=Nat
def tw14794722698435565204:=Nat
def tw2447990227493632618:=Nat
def tw5325175480740262451:=Nat
def tw15767613940547489272:=Nat
def tw1537395405953559169:=Nat
def tw7098000207401640752:=Nat
def tw2570517659579727090:=Nat
def tw8187323372298320351:=Nat
def tw6012489188692534155:=Nat
def tw520932528064355145:=Nat
def tw4950568396834149877:=Nat
def tw14763557228260740399:=Nat
def tw11555515507008828593:=Nat
def tw14982136251962086056:=Nat
def tw11212691196155935463:=Nat
def tw9638916148394276575:=Nat
def tw4779952042715970553:=Nat
def tw9726279320415787510:=Nat
def tw5521750636785474885:=Nat
def tw6973587334254778048:=Nat
def tw786502431600981405:=Nat
def tw2837809076627521885:=Nat
def tw491305723761818822:=Nat
def tw13975000815364975802:=Nat
def tw5148593027764042109:=Nat
def tw8462771050157056931:=Nat
def tw1585392993712524507:=Nat
def tw15578265268383477827:=Nat
def tw13140329158838769854:=Nat
def tw7609031103759058343:=Nat
def tw6349483389245146755:=Nat
def tw4363638202907626321:=Nat
def tw14166261670212925319:=Nat
def tw11018073334153536358:=Nat
def tw4364783527295825695:=Nat
def tw13282255841876390234:=Nat
def tw16591867351461527777:=Nat
def tw6907515902520128447:=Nat
def tw4597002265505820000:=Nat
def tw3056905018933516708:=Nat
def tw17141131646424541032:=Nat
def tw5556879123681894287:=Nat
def tw8593128043354829829:=Nat
def tw3118082770026795386:=Nat
def tw2650352659459614256:=Nat
def tw515298786535454138:=Nat
def tw5455944057723923189:=Nat
def tw15924758899929544539:=Nat
def tw7238967054708866525:=Nat
def tw565151482609986284:=Nat
def tw7000549289440687199:=Nat
def tw1945076219515913754:=Nat
def tw9653151487127747953:=Nat
def tw6278069986386809290:=Nat
def tw9273563355106991177:=Nat
def tw4346788708139922820:=Nat
def tw15087805663640546084:=Nat
def tw8114530582261006044:=Nat
def tw7243806016283231246:=Nat
def tw15389819826633539257:=Nat
def tw8101566840166154800:=Nat
def tw13412769038666913518:=Nat
def tw15203444342132483103:=Nat
def tw732762852154745470:=Nat
def tw10760811386199133945:=Nat
def tw3729655515862435086:=Nat
def tw9519324462648599448:=Nat
def tw16788991480057613776:=Nat
def tw223920707079864468:=Nat
def tw5840605738986342042:=Nat
def tw15955947929770653272:=Nat
def tw4721685732377712009:=Nat
def tw13738962595911641488:=Nat
def tw10365165773047096608:=Nat
def tw4166096475161327328:=Nat
def tw11698636627960478447:=Nat
def tw14572891084308972609:=Nat
def tw15309332397980324422:=Nat
def tw13170150912625893861:=Nat
def tw13411901055285646009:=Nat
def tw6425479667870539866:=Nat
def tw1921593713247587835:=Nat
def tw9968203227014486770:=Nat
def tw1627167563872526843:=Nat
def tw17727512264939395373:=Nat
def tw13769070014359578635:=Nat
def tw6018432942867093432:=Nat
def tw15457747034749994216:=Nat
def tw1294748090258864698:=Nat
def tw1078710676899063380:=Nat
def tw4161665016843114041:=Nat
def tw4154065908416352848:=Nat
def tw1430793469306889305:=Nat
def tw8802274688020366132:=Nat
end PySem.W.Fast
open PySem PySem.W PyProof.Rows
set_option maxRecDepth 100000 in
set_option maxHeartbeats 0 in
theorem PySem.Challenge.cw_roadsall_k21_possible_deeds_holds : PySem.Challenge.rw_roadsall_k21_possible_deeds.Holds := by
 w_on;o_law;k_head;(case hw=>w_witness2)
 k_fill
 refine L2.Er (l:=PySem.Challenge.rw_roadsall_k21_possible_deeds) (n:=63) (k:=200) (x:="_law_script") (CX:=L2.tH) (sp:=fun K=>Ev.sk K (Ev.JQ My.Gv My.Att My.Tb 200 "law")) rfl (by decide) rfl ⟨rfl,by decide,by decide⟩ (fun w h Y=>PySem.W.kIn_of Y) ?F ?S ?C
 case F=>
  intro w mg fa h KX G hmg
  have T:Ev.TOk w My.Gv My.Att My.Tb (L2.SN KX) mg:=by
   dsimp only [L2.SN]
   refine' My.M4 KX G ?cb ?hh ?gv0 ?gv1 ?z
   case cb=>exact⟨⟨by k_is,by k_is,by k_is,by k_is,by k_is,by k_is,by k_is⟩,by k_is,by k_is,by k_is,by k_is,by k_is,⟨_,_,_,_,_,_,_,_,_,_,by k_is,by k_is,by k_is,by k_is,by k_is⟩,⟨_,_,_,_,_,_,_,_,_,_,by k_is,by k_is,by k_is,by k_is,by k_is⟩,⟨_,_,_,_,_,_,_,_,_,_,by k_is,by k_is,by k_is,by k_is,by k_is⟩⟩
   case hh=>
    intro d hd
    simp only [My.Nw,List.mem_cons,List.not_mem_nil,or_false] at hd
    rcases hd with rfl|rfl|rfl|rfl|rfl|rfl|rfl|rfl|rfl|rfl|rfl|rfl|rfl|rfl|rfl|rfl|rfl|rfl|rfl|rfl|rfl|rfl|rfl|rfl|rfl|rfl|rfl|rfl|rfl|rfl|rfl|rfl|rfl|rfl|rfl|rfl|rfl|rfl|rfl|rfl|rfl|rfl|rfl|rfl|rfl|rfl|rfl|rfl|rfl|rfl|rfl|rfl|rfl <;> (dsimp only [My.rk,My.iz,My.Qd];exact⟨_,_,_,_,_,_,_,_,_,_,by k_is,by k_is,by k_is,by k_is⟩)
   case gv0|gv1=>exact⟨_,by k_is⟩
   case z=>
    intro x hx
    simp only [Ev.JH,List.mem_cons,List.not_mem_nil,or_false] at hx
    rcases hx with rfl|rfl|rfl|rfl|rfl|rfl|rfl|rfl|rfl|rfl|rfl|rfl|rfl|rfl|rfl|rfl|rfl|rfl|rfl <;> k_is
  obtain⟨f,fd,h1⟩:=T.fn My.rk (by simp [My.Tb,My.Nw])
  have e0:=hmg.symm.trans (h1.gl (by decide +kernel))
  cases e0
  refine⟨fd,?_,fun base kb nb=>(Ev.Ct T 200).1 My.rk (by simp [My.Tb,My.Nw]) _ fd h1.fn⟩
  obtain⟨kV,doc,pm,an,cdv,ct,rfl⟩:=h1.pl (by decide +kernel)
  exact fun s v=>.of_eq rfl
 case S=>exact fun w H a ns hl hO hS=>My.FR hl hO hS
 case C=>exact fun _ _ _ _ z=>z
