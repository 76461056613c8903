import PyProof.Rows.All
import Wide.All
import OpenK.AllK
import Wide.FinOn
import Lean
import PyProof.EqAt
import PyProof.EqKinds
import PyProof.TupleCall
import PyProof.ExcInit
import PyProof.ExcClass2
import PySem.Challenge.RW_roadsall_k04_no_conditions
set_option Elab.async false
set_option linter.all false
set_option maxRecDepth 100000
set_option maxHeartbeats 4000000
noncomputable section
abbrev VP:=PySem.Value->PySem.Shared->Prop
abbrev PN:=List (PySem.Addr×PySem.Obj)
abbrev SV:=PySem.Str->Option PySem.Value
abbrev Aa:=PySem.Addr->Prop
abbrev LS:=List PySem.Str
abbrev LV:=List PySem.Value
abbrev Ab:=List PySem.Expr
abbrev OV:=Option PySem.Value
abbrev FG:=PySem.W.Frag
abbrev ae:=@if_pos
abbrev bP:=@of_decide_eq_true
abbrev ai:=@if_neg
abbrev cT:=@decide_eq_false
abbrev gY:=@decide_eq_true_eq
abbrev gn:=@decide_eq_true
abbrev dz:=@congrArg
abbrev fU:=@iff_false
abbrev nQ:=@beq_eq_false_iff_ne
abbrev ig:=@if_false
abbrev fX:=@eq_false
abbrev i0:=@beq_iff_eq
abbrev fW:=@if_true
abbrev gP:=@eq_true
open PySem.Heap renaming get?_push_of_some->cv,lt_size->bC,get?_push_size->gy,SameBut->kg,get?_update_other->uf,FlyingW->pW,get?_none_of_le->xB,size_push->xA,MadeExcOf->xz,get?_update_self->CI,get?_some_iff->CH
open PySem.W renaming mg_of->av,kitOne->bO,nsIn->bN,findIn->d_,kia_one->eR,keepIn->gO,emptyDict->jt,instObj->kf,looks_findIn->lF,callWith_K->pV,kitx_list->pU,kitAny->ny,fnOf->lE,exmOne->nv,methodCall_KW->tq,hideAll->pT,kitCls->pS,specialIn->tm,hasDictIn->tj,mroIn->pR,plainGet->tf,cellsFrom_some->xy,lookIn->s_,codeIn->s0,looks_mroIn->sZ,plainGet_of->xx,clsIn->sY,methodObj->xw,kitx_none->xu,takesIn->xt,takerIn->xr,tailIn->xq,nsOkIn->xn,isFn->xm,looks_clsIn->xl,hideAll_none->CG,hideAll_get->CF,findObj_own->CD,callWith_K0->CC,tail_of_in->CB,of_hideAll->CA,kitx_tuple->Cz,codeRec_of->Cy,plainOver->Cw,kitx_dict->Cv,handedIn->Cu,makesIn->Cs,kia_tup->Cr,OpenLaw->Cq,WalkO->Cp,Looks->Co,mg_none_of->Cm,set_plain->Ck,handed_on->Cj
open PySem renaming wpAny_bind->ak,wpAny_pure->aP,wpAny_mono->bK,wpAny_holding->iZ,codeAny_mono->js,wpAny_passesOwn->lD,mem_of_lookup->pQ,intText?->nr,wpAny_loadPart'->nq,wpAny_call->jr,wpAny_Call_Name_kw->pP,wpAny_getItem_str_slice->sX,wpAny_truthy_bool->pO,wpAny_newObj_type->pN,wpAny_loadPart_at->pM,codeAny_call_builtin->sW,tupleKind_room_in1->sV,call_meets->lC,wpAny_standAt->pL,wpAny_execs_nil->sU,post_val_or_str->sT,sizeLine_eq->ml,typeIs_int->mj,wpAny_typeOf->pv,plainObj_wpAny_Assign_Attribute->z8,noFill_tuple_add->ux,Within->uw,wpAny_newFunctionEnv_cells->z7,wpAny_binaryOp_repeat_ref->z6,wpAny_attempt->uv,seq_tuple_add->uu,wpAny_callSpecial?_slot->z5,wpAny_pyNext_range_end->z4,wpAny_pyIter_rangeiter->z3,seqSlot_of->z0,concat_meets->ut,codeAny_call_function->zZ,wpAny_loadName_local->zY,wpAny_field->ur,wpAny_loadName_cell->zX,wpAny_isSubtype_exc->zW,wpAny_pyIter_range->zV,wpAny_Name->uq,typeIs_str->uo,wpAny_sequenceKey->zU,wpAny_assign_Name->zT,wpAny->zS,slot_list_getitem->zR,slot_dict_getitem->zQ,wpAny_lookBehind->zP,wpAny_getItem_of->zO,wpAny_execs_cons->zN,wpAny_call_entry->zM,wpAny_Try_except->zL,pastItsLine_dict->zK,wpAny_loadPart->zJ,evalPart_none->zI
open Nat renaming le_refl->ar,lt_of_lt_of_le->cg,le_trans->ce,ne_of_lt->cx,zero_le->eh,lt_succ_self->jx,lt_irrefl->iN,lt_of_le_of_lt->mh,min_eq_left->pu,reduceSub->pq,reduceAdd->pk,mul_comm->pj,not_lt_zero->um,zero_add->ul,succ_mul->uk,le_of_lt->uj,log2_lt->ui,le_succ->uh,not_lt->ug,sub_zero->zH,ne_of_gt->zG,lt_trans->zF,le_of_eq->zD,add_comm->zC
open List renaming length_cons->aA,length_append->aI,mem_cons->ay,mem_cons_of_mem->bn,getElem?_eq_some_iff->bX,mem_cons_self->bi,map_cons->aX,takeWhile_append_dropWhile->ee,mem_append_right->cw,size_toArray->cc,getElem?_set_ne->dC,append_assoc->c_,getElem?_set_self->eM,replicate_succ->dR,getElem?_append_left->fF,all_eq_true->cZ,mem_of_getElem?->eL,takeWhile_cons->eK,nil_append->dv,length_take->dQ,length_nil->eI,length_map->eH,getElem?_append_right->iM,length_set->fk,append_nil->fj,mem_append_left->g_,map_nil->ed,lookup->dP,length->dO,flatten_cons->gC,eq_nil_of_length_eq_zero->kY,length_drop->gB,any_cons->fE,cons_append->g9,getElem?_take_of_lt->kX,nodup_cons->g8,length_replicate->kW,map_append->iL,foldl_cons->iK,length_pos_iff->kU,find?_cons->jw,length_singleton->me,reverse_cons->kT,getElem?_map->kR,mem_map->iJ,mem_of_find?_eq_some->pi,mem_append->kQ,take_append_drop->ph,lookup_cons->md,mem_of_mem_take->pf,filterMap_cons->pe,mem_filterMap->pb,drop_zero->ma,isEmpty_iff->pa,getElem?_replicate->ue,any_eq_true->o_,of_mem_zip->o9,mem_filter->o8,find?_some->o7,getElem?_eq_none->ud,eq_nil_or_concat->uc,tail_cons->o6,zip_cons_cons->ub,contains_cons->ua,take_length->t_,drop_length->t8,foldl->o0,drop_eq_getElem_cons->zB,getElem?_cons_zero->zA,getElem?_cons_succ->zz,take_of_length_le->zy,map_map->t6,any_nil->t4,dropLast_eq_take->zx,concat_eq_append->zw,mem_of_mem_drop->zu,set_cons_zero->zt,set_cons_succ->zr,mem_singleton->zq,mem_replicate->zo,take_sublist->zn,nodup_append->zm,mem_reverse->zl,all_cons->zk,set_set->zj
open Array renaming length_toList->tZ,getElem?_toList->zi,find?_toList->zh,append_assoc->zg,size_append->zf,toList->ze
open Ne renaming symm->cI
open Option.some renaming inj->jv
open PySem.Calls renaming spliced_cons->oZ,callWith_builtin->tY,evalArgs_plain->tW,spliced_nil->tU,Name_function_global->zd
open PyProof.Rows renaming slot_tuple_getitem->ju,boot_isinstance->tT,callWith_type1->tS,boot_int->zc,reads_list_at->tR,subscriptTail_builtinR->zb,iadd_int->za,tail_any->oY,entry_tuple_getitem->y',args_tuple_getitem->y_,callWith_builtin1->Gw,boot_tuple->Gu,boot_str->Gs,boot_min->Gr,boot_max->Gq,boot_bool->Gp,slicePart_none->y9,reads_tuple_at->y8,tupleItemsOf_->y7
open Bool renaming and_eq_true->aE,false_ne_true->cb,or_eq_true->fD,false_eq_true->g7,not_eq_true'->oX,eq_iff_iff->oW,false_and->oV,true_and->oU,or_false->oS,not_eq_true->tP,false_or->tN,or_true->tM,or_eq_true_iff->y6,or_assoc->y4,not_true->y0,and_true->yZ,true_or->yY
open PySem.Builtin.Range renaming rangeSize->iI,small->Go,rangeFitsLong->Gn
open PySem.EqNone renaming ne_str_none->Gm,ne_none_str->Gk,ne_none_none->Gj,ne_none_int->Gi,ne_none_bool->Gh,ne_int_none->Gg,ne_bool_none->Gf,eq_str_none->Ge,eq_none_str->Gd,eq_none_none->Gc,eq_none_int->Gb,eq_none_bool->Ga,eq_int_none->F_,eq_bool_none->F9
open PySem.EqMixed renaming ne_str_int->F7,ne_str_bool->F6,ne_int_str->F0,ne_bool_str->FZ,eq_str_int->FY,eq_str_bool->FX,eq_int_str->FW,eq_bool_str->FV
open PySem.Builtin.Str renaming strSliceIndices->kP,occurrences->oR
open PySem.W.Looks renaming here->oQ,ld->yX
open PySem.Code renaming quiet_builtin->tL,isFrame->tK,frames->yW
open Option renaming map_eq_some_iff->fV,bind_some->gA,map_some->l_,map->lZ,isSome_iff_exists->yV,isSome_map->yU,getD_none->yS
open PySem.F renaming slot_tuple_mul->oP,slot_int_rmul->oO,args_tuple_add_2->tJ,entry_tuple_add->tH,slot_tuple_add->tG,slot_dict_get->tF,attrBase_ValueError->yR,excBase_ValueError->yQ,args_tuple_mul_2->yP,slot_tuple_rmul->yO,plainAttrs_list->yN,entry_tuple_mul->yM,args_dict_get_3->yL,entry_dict_get->yK,entry_bexc_ga->yJ,args_bexc_ga->yI,slot_list_append->yH,args_int_rmul_2->yG,slot_int_index->yF,entry_int_rmul->yE,slot_list_pop->yD,fills_int_mul->yC
open PySem.Builtin.Slice renaming slicePlaces->oN,sliceAdjust->tD,sliceApplied->yB,slicePartIndex->FU,sliceFields->FT
open PySem.Builtin.Tuple renaming tupleExact->oM,tupleItemsOf->yA,tupleTooMany->FS
open PySem.Str renaming length->kO,ofString_eq_toList->yz
open PySem.Builtin.List renaming listTooLong->tB
open Int renaming emod_lt_of_pos->fh,emod_nonneg->d9,toNat_of_nonneg->yy,natCast_mul->yx
open PySem.PyData renaming eqv->gz,strOk->oK,depth->oJ,canLayAll0->tz,depthAll->tu
open PySem.AutoSeq1 renaming sub_tuple_tuple->yw,idx_int->yv
open List.cons renaming injEq->tt
open PySem.Txt renaming slice_le->oH
open PySem.StrLaws renaming sliceText->g6,sliceText_to->FR,sliceText_plain->FQ,sliceText_from->FP
open Nat.succ renaming inj->oG
open Classical renaming choose_spec->oF
set_option tactic.hygienic false
namespace L2
open PySem PySem.Spec PyProof.Rows
noncomputable abbrev fR:=Sum Int Str
noncomputable def sB:fR->Value->Bool
 | .inl k,v=>Value.isInt k v
 | .inr x,v=>Value.isStrOf x v
noncomputable def Q'(w:World):fR->Int
 | .inl k=>hashInt k
 | .inr x=>hashStr w x
theorem dE:∀{k:fR}{v:Value},sB k v=true->(∃i t,k=Sum.inl i/\v=Value.int i t)\/(∃x t,k=Sum.inr x/\v=Value.str x t)
 | .inl i,v,h=>by obtain⟨t,e⟩:=Value.isInt_shape (k:=i) (v:=v) h;exact .inl ⟨i,t,rfl,e⟩
 | .inr x,v,h=>by obtain⟨t,e⟩:=Value.isStrOf_shape (x:=x) (v:=v) h;exact .inr ⟨x,t,rfl,e⟩
theorem BH(i:Int)(t:Tok):sB (.inl i) (.int i t)=true:=by simp[sB,Value.isInt]
theorem BG(x:Str)(t:Tok):sB (.inr x) (.str x t)=true:=by simp[sB,Value.isStrOf]
theorem Le(a b:Int):decide ((Sum.inl a:fR)=Sum.inl b)=(a == b):=by
 by_cases e:a=b
 .subst e;simp
 .have h:¬(Sum.inl a:fR)=Sum.inl b:=λq=>e (Sum.inl.inj q);rw[cT h];exact(nQ.mpr e).symm
theorem La(a b:Str):decide ((Sum.inr a:fR)=Sum.inr b)=decide (a=b):=by
 by_cases e:a=b
 .subst e;simp
 .have h:¬(Sum.inr a:fR)=Sum.inr b:=λq=>e (Sum.inr.inj q);rw[cT h,cT e]
theorem Ld(a:Int)(b:Str):decide ((Sum.inl a:fR)=Sum.inr b)=false:=cT (λq=>nomatch q)
theorem Lb(a:Str)(b:Int):decide ((Sum.inr a:fR)=Sum.inl b)=false:=cT (λq=>nomatch q)
def cm(prog:Program)(w:World):PySem.KeyKind prog w fR where
 is:=sB
 hash:=Q' w
 inj:=λv a b c f=>by
  rcases dE c with ⟨i,t,rfl,rfl⟩|⟨x,t,rfl,rfl⟩
  .rcases dE f with ⟨j,u,rfl,e⟩|⟨y,u,rfl,e⟩
   .injection e with s _;rw[s]
   .exact nomatch e
  .rcases dE f with ⟨j,u,rfl,e⟩|⟨y,u,rfl,e⟩
   .exact nomatch e
   .injection e with s _;rw[s]
 byValue:=λk v h=>by rcases dE h with ⟨i,t,rfl,rfl⟩|⟨x,t,rfl,rfl⟩<;>rfl
 pyHash:=λn h=>by
  rcases dE n with ⟨i,t,rfl,rfl⟩|⟨x,t,rfl,rfl⟩
  .exact wpAny_pyHash_int h
  .exact wpAny_pyHash_str h
 eqBool:=λm n h=>by
  rcases dE m with ⟨i,t,rfl,rfl⟩|⟨x,t,rfl,rfl⟩
  .rcases dE n with ⟨j,u,rfl,rfl⟩|⟨y,u,rfl,rfl⟩
   .rw [Le]at h;exact wpAny_eqBool_int h
   .rw [Ld]at h;exact SeqAt.EqAt.int_str i t y u _ _ _ _ h
  .rcases dE n with ⟨j,u,rfl,rfl⟩|⟨y,u,rfl,rfl⟩
   .rw [Lb]at h;exact SeqAt.EqAt.str_int x t j u _ _ _ _ h
   .rw [La]at h;exact wpAny_eqBool_str h
 «strs»:=λk x t v h=>by
  rcases dE h with ⟨i,u,rfl,e⟩|⟨y,u,rfl,e⟩
  .exact nomatch e
  .injection e with s _;subst s;cases v<;>rfl
theorem wA(prog:Program)(w:World)(i:Int)(t:Tok):(cm prog w).is (.inl i) (.int i t)=true:=BH i t
theorem kq(prog:Program)(w:World)(x:Str)(t:Tok):(cm prog w).is (.inr x) (.str x t)=true:=BG x t
inductive V where
 |non|bl (b:Bool)|int (i:Int)|str (x:Str)|byt (b:Array UInt8)|flt (b:UInt64)|ref (a:Addr)|ty (n:String)
 deriving DecidableEq
def RelV:V->Value->Prop
 | .non,u=>u=Value.none
 | .bl b,u=>u=Value.bool b
 | .int i,u=>∃t,u=Value.int i t
 | .str x,u=>∃t,u=Value.str x t
 | .byt b,u=>∃t,u=Value.bytes b t
 | .flt b,u=>∃t,u=Value.float b t
 | .ref a,u=>u=Value.ref a
 | .ty n,u=>u=Value.type n
abbrev bB:List V->LV->Prop:=Paired RelV
variable{q:LV}
theorem bB.length(r:bB xs q):xs.length=q.length:=Paired.length r
theorem bB.get:∀{xs:List V}{q:LV}{i:Nat}{x:V},bB xs q->xs[i]? = some x->∃u,q[i]? = some u/\RelV x u
 |_,_,_,_,.nil,e=>by simp at e
 |_,_,0,_,.cons r _,e=>by simp at e;subst e;exact⟨_,rfl,r⟩
 |_,_,i+1,x,.cons _ t,e=>by obtain⟨u,I,h2⟩:=bB.get (i:=i) (x:=x) t (by simpa using e);exact⟨u,by simpa using I,h2⟩
theorem bB.append:∀{xs ys:List V}{q w:LV},bB xs q->bB ys w->bB (xs++ys) (q++w)
 |_,_,_,_,.nil,s=>s
 |_,_,_,_,.cons r t,s=>.cons r (bB.append t s)
theorem bB.take:∀{xs:List V}{q:LV}(n:Nat),bB xs q->bB (xs.take n) (q.take n)
 |_,_,0,_=>.nil
 |_,_,_+1,.nil=>.nil
 |_,_,n+1,.cons r t=>.cons r (bB.take n t)
theorem bB.drop:∀{xs:List V}{q:LV}(n:Nat),bB xs q->bB (xs.drop n) (q.drop n)
 |_,_,0,r=>r
 |_,_,_+1,.nil=>.nil
 |_,_,n+1,.cons _ t=>bB.drop n t
def jQ:Option V->OV->Prop
 |some v,some u=>RelV v u
 |none,none=>True
 |_,_=>False
def KV:List (κ×V)->List (κ×Value)->Prop:=Paired λ(p:κ×V)(q:κ×Value)=>p.1=q.1/\RelV p.2 q.2
noncomputable def kV:fR->V
 | .inl i=>.int i
 | .inr x=>.str x
def q_(h:Heap)(a:Addr)(i:Array Value):Prop:=∃o,h.get? a=some o/\(o.cls=.type "tuple"/\∃n,o.data=.seq i n)/\o.dict=none
variable{h:Heap}{a:Addr}
theorem q_.tup(x:q_ h a i):IsTup h a i:=by obtain⟨o,e,c,_⟩:=x;exact⟨o,e,c⟩
theorem q_.lt(x:q_ h a i):a < h.objs.size:=x.tup.lt
theorem q_.new(h:Heap)(i:Array Value):q_ (h.push { cls:=.type "tuple",data:=.seq i }) h.objs.size i:=⟨_,gy _ rfl,⟨rfl,_,rfl⟩,rfl⟩
inductive HO where
 |lst (xs:List V)
 |tup (xs:List V)
 |dK (kvs:List (fR×V))|dT (kvs:List (List fR×V))
 |set (S:Int->Bool) (n:Nat)
 |ins (C dx:Addr) (fs:List (Str×V))
 |own (x:Addr)
 |xd (fs:List (Str×V))
 |met (f x:Addr)
 |rng (lo hi:Int)
 |frz (o:Obj) (u:HO)
 |tbl (ps:Array Value)
 |ext (φ:Heap->Prop)
noncomputable abbrev Hp:=Addr->Option HO
noncomputable def upd(H:Hp)(a:Addr)(o:HO):Hp:=λb=>if b=a then some o else H b
variable{H:Hp}
theorem bc:upd H a o a=some o:=by unfold upd;rw[ae rfl]
variable{b:Addr}
theorem aR(h:b≠a):upd H a o b=H b:=by unfold upd;rw[ai h]
theorem GJ{H:Hp}{a:Addr}{o u:HO}:upd (upd H a o) a u=upd H a u:=by funext b;unfold upd;split<;>rfl
theorem ip(h:H a=some o)(h':H b=none):a≠b:=by intro e;subst e;rw[h]at h';cases h'
section
variable(P:Program)(w:World)
def du(H:Hp)(h:Heap)(a:Addr):HO->Prop
 | .lst xs=>xs.length≤sizeLine/\∃(i:LV)(n:Nat),bB xs i/\h.get? a=some { cls:=.type "list",data:=.seq i.toArray n }
 | .tup xs=>xs.length≤sizeLine/\∃i:LV,bB xs i/\q_ h a i.toArray
 | .dK k=>k.length≤sizeLine/\(a == sysModules)=false/\∃s,KV k s/\h.DictOf (cm P w) a s
 | .dT k=>k.length≤sizeLine/\(a == sysModules)=false/\∃xs:List (List fR×Addr×Value),
   Paired (λ(p:List fR×V)(q:List fR×Addr×Value)=>p.1=q.1/\H q.2.1=some (.tup (p.1.map kV))/\RelV p.2 q.2.2) k xs /\
   ∃o es b,h.get? a=some o/\o.ExactDict/\o.data=.dict es b/\es.toList=xs.map (entryOfKey (tupleKind (cm P w)))/\(xs.map (·.1)).Nodup
 | .set S n=>h.SetOf (intKind P w) a S n
 | .ins C dx fs=>H dx=some (.own a)/\fs.length≤1000/\dx≠a/\h.get? a=some (kf C dx) /\
   ∃mA,h.Ns1 dx mA/\(∀f,jQ (fs.lookup f) (mA f))/\uw mA (fs.map (·.1))
 | .own _=>∃o,h.get? a=some o
 | .xd fs=>∃mA,h.Ns1 a mA/\∀f,jQ (fs.lookup f) (mA f)
 | .rng lo hi=>∃t u v,h.get? a=some { cls:=.type "range",data:=.fields #[.int lo t,.int hi u,.int 1 v] }
 | .frz o u=>h.get? a=some o/\du H h a u
 | .tbl ps=>h.get? a=some { cls:=.none,data:=.fields ps }
 | .met f x=>h.get? a=some (xw (.ref f) (.ref x))
 | .ext e=>e h/\(∃o,h.get? a=some o)/\∀I h2:Heap,e I->(∀o,I.get? a=some o->h2.get? a=some o)->e h2
def j7(H:Hp)(h:Heap):Prop:=∀a o,H a=some o->du P w H h a o
end
section
variable{P:Program}{w:World}{H H':Hp}{h h':Heap}{a:Addr}{o:HO}
theorem du.lt(x:du P w H h a o):a < h.objs.size:=by
 cases o with
 |lst xs=>obtain⟨_,_,_,_,e⟩:=x;exact bC e
 |tup xs=>obtain⟨_,_,_,p⟩:=x;exact p.lt
 |dK k=>obtain⟨_,_,_,_,o,_,_,e,_⟩:=x;exact bC e
 |dT k=>obtain⟨_,_,_,_,o,_,_,e,_⟩:=x;exact bC e
 |set S n=>obtain⟨o,_,_,_,e,_⟩:=x;exact bC e
 |ins C dx fs=>obtain⟨_,_,_,e,_⟩:=x;exact bC e
 |own y=>obtain⟨_,e⟩:=x;exact bC e
 |xd fs=>obtain⟨_,⟨_,_,_,e,_⟩,_⟩:=x;exact bC e
 |rng lo hi=>obtain⟨_,_,_,e⟩:=x;exact bC e
 |frz b u=>obtain⟨e,_⟩:=x;exact bC e
 |tbl ps=>exact bC (show h.get? a=some _ from x)
 |met f y=>exact bC (show h.get? a=some _ from x)
 |ext s=>obtain⟨_,⟨_,e⟩,_⟩:=x;exact bC e
theorem Paired.mapP:∀{l:List α}{h:List z},Paired F l h->(∀a b,F a b->i a b)->Paired i l h
 |_,_,.nil,_=>.nil
 |_,_,.cons r t,f=>.cons (f _ _ r) (Paired.mapP t f)
theorem du.stay(x:du P w H h a o)(k:∀b u,(b=a\/H b=some (.own a))->h.get? b=some u->h'.get? b=some u)
  (F:∀b,H b=some (.own a)->H' b=some (.own a)) (K:∀b xs,H b=some (.tup xs)->H' b=some (.tup xs)):du P w H' h' a o:=by
 induction o with
 |lst xs=>obtain⟨z,i,n,r,e⟩:=x;exact⟨z,i,n,r,k _ _ (.inl rfl) e⟩
 |tup xs=>obtain⟨z,i,r,s,e,c⟩:=x;exact⟨z,i,r,s,k _ _ (.inl rfl) e,c⟩
 |dK g=>obtain⟨z,y,D,r,s,es,m,e,c⟩:=x;exact⟨z,y,D,r,s,es,m,k _ _ (.inl rfl) e,c⟩
 |dT g=>obtain⟨z,y,xs,r,s,es,m,e,c⟩:=x;exact⟨z,y,xs,Paired.mapP r λp q z=>⟨z.1,K _ _ z.2.1,z.2.2⟩,s,es,m,k _ _ (.inl rfl) e,c⟩
 |set S n=>obtain⟨s,es,m,t,e,c⟩:=x;exact⟨s,es,m,t,k _ _ (.inl rfl) e,c⟩
 |ins C dx fs=>obtain⟨d,z,B,e,mA,⟨j,es,m,l,c⟩,r⟩:=x;exact⟨F _ d,z,B,k _ _ (.inl rfl) e,mA,⟨j,es,m,k _ _ (.inr d) l,c⟩,r⟩
 |own y=>obtain⟨s,e⟩:=x;exact⟨s,k _ _ (.inl rfl) e⟩
 |xd fs=>obtain⟨mA,⟨j,es,m,e,c⟩,r⟩:=x;exact⟨mA,⟨j,es,m,k _ _ (.inl rfl) e,c⟩,r⟩
 |rng lo hi=>obtain⟨t,u,v,e⟩:=x;exact⟨t,u,v,k _ _ (.inl rfl) e⟩
 |frz s u A=>obtain⟨e,q⟩:=x;exact⟨k _ _ (.inl rfl) e,A q⟩
 |tbl ps=>have e:h.get? a=some { cls:=.none,data:=.fields ps }:=x;show h'.get? a=some { cls:=.none,data:=.fields ps };exact k a _ (.inl rfl) e
 |met f y=>have e:h.get? a=some (xw (.ref f) (.ref y)):=x;show h'.get? a=some (xw (.ref f) (.ref y));exact k a _ (.inl rfl) e
 |ext E=>obtain⟨p,⟨o,e⟩,st⟩:=x;exact⟨st _ _ p λo q=>k _ _ (.inl rfl) q,⟨o,k _ _ (.inl rfl) e⟩,st⟩
theorem j7.lt(x:j7 P w H h)(e:H a=some o):a < h.objs.size:=(x a o e).lt
theorem j7.fresh(x:j7 P w H h)(e:h.objs.size≤a):H a=none:=by
 cases q:H a with
 |none=>rfl
 |some u=>exact absurd (cg (x.lt q) e) (iN _)
theorem j7.kept(x:j7 P w H h)(k:∀b u,h.get? b=some u->h'.get? b=some u):j7 P w H h':=λa o e=>
 (x a o e).stay (λb u _ q=>k b u q) (λ_ q=>q) λ_ _ q=>q
theorem j7.laid(x:j7 P w H h)(k:∀b u,h.get? b=some u->h'.get? b=some u)(p:h.objs.size≤a)(n:du P w (upd H a o) h' a o):j7 P w (upd H a o) h':=λb u e=>by
 have f:=x.fresh p;by_cases s:b=a
 .subst s;rw[bc]at e;cases e;exact n
 .rw [aR s]at e;exact(x b u e).stay (λc v _ q=>k c v q) (λc q=>by rw[aR (ip q f)];exact q) λc xs q=>by rw[aR (ip q f)];exact q
end
def Rd(H:Hp)(a:Addr)(u:HO):Prop:=H a=some u\/∃o,H a=some (.frz o u)
theorem Rd.ok{P:Program}{w:World}{H:Hp}{h:Heap}{a:Addr}{u:HO}(r:Rd H a u)(x:j7 P w H h):du P w H h a u:=by
 rcases r with r|⟨o,r⟩
 .exact x a u r
 .obtain⟨_,q⟩:=x a _ r;exact q
def Pb:Option HO->Prop
 |some (.lst _)=>True
 |some (.dK _)=>True
 |some (.dT _)=>True
 |some (.set _ _)=>True
 |some (.ins _ _ _)=>True
 |some (.ext _)=>True
 |_=>False
section
variable{P:Program}{w:World}{H:Hp}{h h':Heap}{x e:Addr}{o':HO}
theorem j7.write(ok:j7 P w H h)(m:Pb (H x))(d:e=x\/H e=some (.own x))(k:∀b u,b≠e->h.get? b=some u->h'.get? b=some u)(o:∃u,h'.get? e=some u)
  (p:du P w (upd H x o') h' x o'):j7 P w (upd H x o') h':=λb u q=>by
 have n:∀c y,H c=some (.own y)->c≠x:=λc y r z=>by subst z;rw[r]at m;exact m
 have t:∀c xs,H c=some (.tup xs)->c≠x:=λc xs r z=>by subst z;rw[r]at m;exact m
 by_cases s:b=x
 .subst s;rw[bc]at q;cases q;exact p
 .rw [aR s]at q;by_cases a:b=e
  .have g:H b=some (.own x):=by
    rcases d with z|z
    .exact absurd (a.trans z) s
    .rw [a];exact z
   rw[q]at g;cases g;obtain⟨v,i⟩:=o;exact⟨v,by rw[a];exact i⟩
  .refine (ok b u q).stay (λc v f r=>k c v ?_ r) (λc r=>by rw[aR (n c b r)];exact r) λc xs r=>by rw[aR (t c xs r)];exact r
   rcases f with rfl|f
   .exact a
   .rintro rfl;rcases d with z|z
    .exact n c b f z
    .rw [f]at z;cases z;exact s rfl
end
structure Un(fs ex:List Addr)(H H':Hp)(h h':Heap):Prop where
 keep:∀b o,h.get? b=some o->H b=none->b ∉ fs->b ∉ ex->h'.get? b=some o
 slot:∀b o,h.get? b=some o->H b=none->b ∈ fs->b ∉ ex->∃sl,h'.get? b=some { o with slots:=sl }
 free:∀b o,h.get? b=some o->H b=none->b ∉ ex->H' b=none
 there:∀b o,h.get? b=some o->b ∉ ex->∃o',h'.get? b=some o'
 tups:∀b xs,H b=some (.tup xs)->H' b=some (.tup xs)
 frzs:∀b o u,H b=some (.frz o u)->H' b=some (.frz o u)
 tbls:∀b ps,H b=some (.tbl ps)->∃more,H' b=some (.tbl (ps++more))
section
variable{fs fs' ex ex':List Addr}{H j H2:Hp}{h I h2 h':Heap}{a x e:Addr}{o:HO}
theorem Un.any(u:Un fs ex H j h I)(q:h.get? b=some i)(n:H b=none)(a:b ∉ ex):∃s,I.get? b=some { i with slots:=s }:=by
 by_cases x:b ∈ fs
 .exact u.slot b i q n x a
 .exact⟨i.slots,u.keep b i q n x a⟩
theorem Un.kept(k:∀b u,h.get? b=some u->h'.get? b=some u):Un fs ex H H h h':=
 ⟨λb o q _ _ _=>k b o q,λb o q _ _ _=>⟨o.slots,k b o q⟩,λ_ _ _ n _=>n,λb o q _=>⟨o,k b o q⟩,λ_ _ q=>q,λ_ _ _ q=>q,λ_ ps q=>⟨#[],by rw[q];simp⟩⟩
theorem Un.refl:Un fs ex H H h h:=Un.kept λ_ _ q=>q
theorem Un.laid(k:∀b u,h.get? b=some u->h'.get? b=some u)(p:h.objs.size≤a)(x:H a=none):Un fs ex H (upd H a o) h h' where
 keep:=λb u q _ _ _=>k b u q
 slot:=λb u q _ _ _=>⟨u.slots,k b u q⟩
 free:=λb u q n _=>by rw[aR (cx (cg (bC q) p))];exact n
 there:=λb u q _=>⟨u,k b u q⟩
 tups:=λb xs q=>by rw[aR (ip q x)];exact q
 frzs:=λb u xs q=>by rw[aR (ip q x)];exact q
 tbls:=λb ps q=>⟨#[],by rw[aR (ip q x),q];simp⟩
theorem Un.write(m:Pb (H x))(p:e=x\/H e=some (.own x))(k:∀b u,b≠e->h.get? b=some u->h'.get? b=some u)(s:∃u,h'.get? e=some u):Un fs ex H (upd H x o) h h':=by
 have t:∀b,H b=none->b≠x:=λb n z=>by subst z;rw[n]at m;exact m
 have c:∀b,H b=none->b≠e:=λb n z=>by
  subst z;rcases p with r|r
  .exact t b n r
  .rw [n]at r;cases r
 have f:∀b u,H b=some u->¬Pb (some u)->b≠x:=λb u q nm z=>by subst z;rw[q]at m;exact nm m
 refine⟨fun b u q n _ _=>k b u (c b n) q,fun b u q n _ _=>⟨u.slots,k b u (c b n) q⟩,fun b u q n _=>by rw [aR (t b n)];exact n,fun b u q _=>?_,
  λb xs q=>by rw[aR (f b _ q λz=>z)];exact q,λb u xs q=>by rw[aR (f b _ q λz=>z)];exact q,λb ps q=>⟨#[],by rw[aR (f b _ q λz=>z),q];simp⟩⟩
 by_cases a:b=e
 .subst a;exact s
 .exact⟨u,k b u a q⟩
end
noncomputable def trk(h:Heap)(H:Hp):List Addr:=(List.range h.objs.size).filter λa=>(H a).isSome
def u9(h:Heap)(H:Hp):Heap:=pT h (trk h H)
theorem BM(h:Heap)(H:Hp):(u9 h H).objs.size=h.objs.size:=PySem.W.hideAll_size _ _
variable{o:Obj}
theorem Ey(e:h.get? b=some o)(n:H b=none):(u9 h H).get? b=some o:=
 CF _ e λm=>by have q:(H b).isSome=true:=(o8.mp m).2;rw[n]at q;simp at q
theorem Hy(e:(u9 h H).get? b=some o):h.get? b=some o/\H b=none:=by
 have a:h.get? b=some o:=CA (trk h H) e;refine⟨a,?_⟩;cases q:H b with
 |none=>rfl
 |some x=>have m:b ∈ trk h H:=o8.mpr ⟨List.mem_range.mpr (bC a),by simp[q]⟩;have z:(u9 h H).get? b=none:=CG (trk h H) m;rw[z]at e;cases e
variable{g:Heap}{L:Addr}
structure Mod(K:FG)(mg:SV)(base:Heap):Prop where
 kin:K.In base
 glob:base.Ns mainGlobals mg
 blt:∃mb,base.Ns builtinsNs mb/\∀x:Str,x≠"__name__"->mb x=bootBuiltins x
 nolimit:base.NoLimit
structure Cx where
 p:Program
 w:World
 K:FG
 g:SV
 b:Heap
 A:Around
 N:LS
 z:Shared
 y:Hp
 e:Env
 o:List Env
 k:List Env
 ex:List Addr
 fn:Str->Bool
 c:Bool
 pn:PN
 xe:VP
noncomputable def ke(l:List Env):List Addr:=l.filterMap (·.frame)
abbrev Cx.fs(X:Cx):List Addr:=ke X.o
def FO(sc:Scope)(x:Str):Prop:=sc.names.lookup x=some .local\/sc.names.lookup x=some .cell\/sc.names.lookup x=some .free
def Loc(sc:Scope)(x:Str):Prop:=sc.names.lookup x=some .local\/sc.names.lookup x=some .cell
def Look(e:Env)(h:Heap)(m:SV)(x:Str)(u:Value):Prop:=
 (e.kindOf x=some .local/\m x=some u)\/((e.kindOf x=some .cell\/e.kindOf x=some .free)/\∃c,e.cells.lookup x=some c/\h.IsCell c (some u))
structure Cx.Ok(X:Cx):Prop where
 mod:Mod X.K X.g X.b
 kind:X.e.scope.kind=.function
 glob:X.e.globals=mainGlobals
 blt:X.e.builtins=builtinsNs
 above:X.z.heap.objs.size≤X.e.locals
 inj:∀x y c,X.e.cells.lookup x=some c->X.e.cells.lookup y=some c->x=y
 has:∀x,(X.e.kindOf x=some .cell\/X.e.kindOf x=some .free)->∃c,X.e.cells.lookup x=some c
 cab:∀x c,X.fn x=true->X.e.cells.lookup x=some c->X.z.heap.objs.size≤c
 hd:X.c=true->X.A.handled=none
 frames:X.A.frames=some X.k
 stk:X.k=X.o\/(X.k=X.e::X.o/\X.e.frame=some X.e.locals)
 exf:∀b ∈ X.ex,b≠X.e.locals/\∀x c,X.e.cells.lookup x=some c->c≠b
 bs:∀b o,X.b.get? b=some o->X.z.heap.get? b=some o/\X.y b=none
 bsz:X.b.objs.size≤X.z.heap.objs.size
 noex:∀b o,X.b.get? b=some o->b ∉ X.ex
 exfs:∀b ∈ X.ex,b ∉ X.fs
 funs:X.z.heap.FunFrames X.b X.o
 frf:∀b ∈ X.fs,X.y b=none
structure Inv(X:Cx)(pins:PN)(J:List (Option V))(H:Hp)(s:Shared):Prop where
 o:X.Ok
 os:s.os=X.z.os
 bare:AllBare s.gens
 base:Un X.fs X.ex X.y H X.z.heap s.heap
 loc:∃m,s.heap.Ns X.e.locals m/\∀(i:Nat)(x:Str)(v:V),X.N[i]? = some x->J[i]? = some (some v)->FO X.e.scope x->∃u,RelV v u/\Look X.e s.heap m x u
 cell:∀x c,X.e.cells.lookup x=some c->∃v,s.heap.IsCell c v
 free:H X.e.locals=none
 freeC:∀x c,X.e.cells.lookup x=some c->H c=none
 pin:∀p ∈ X.pn++pins,s.heap.get? p.1=some p.2/\H p.1=none/\p.1≠X.e.locals/\p.1 ∉ X.fs/\∀v,p.2.data≠.cell v
 h:j7 X.p X.w H s.heap
 len:J.length=X.N.length
section
variable{X:Cx}{B:PN}{J:List (Option V)}{H H':Hp}{s:Shared}{h':Heap}
theorem Cx.Ok.nofr(ok:X.Ok)(e:X.b.get? b=some o):b ∉ X.fs:=λh=>by have:=(ok.funs.mem h).1;rw[e]at this;cases this
theorem Inv.bs(I:Inv X B J H s):∀b o,X.b.get? b=some o->s.heap.get? b=some o/\H b=none:=λb o e=>
 ⟨I.base.keep b o (I.o.bs b o e).1 (I.o.bs b o e).2 (I.o.nofr e) (I.o.noex b o e),I.base.free b o (I.o.bs b o e).1 (I.o.bs b o e).2 (I.o.noex b o e)⟩
theorem Inv.bk(I:Inv X B J H s):∀b o,X.b.get? b=some o->s.heap.get? b=some o:=λb o e=>(I.bs b o e).1
theorem Inv.mod(I:Inv X B J H s):Mod X.K X.g X.b:=I.o.mod
theorem Inv.kIn(I:Inv X B J H s):X.K.In s.heap:=I.o.mod.kin.keeps I.bk
theorem Inv.lt(I:Inv X B J H s):X.e.locals < s.heap.objs.size:=let ⟨_,h,_⟩:=I.loc;h.lt
theorem Inv.sz(I:Inv X B J H s):X.z.heap.objs.size≤s.heap.objs.size:=ce I.o.above (uj I.lt)
theorem Inv.nofs(I:Inv X B J H s)(h:s.heap.objs.size≤a):a ∉ X.fs:=λb=>by obtain⟨_,o,x,_⟩:=I.o.funs.mem b;exact absurd (cg (bC x) (ce I.sz h)) (iN _)
theorem Inv.cne(I:Inv X B J H s):∀x c,X.e.cells.lookup x=some c->c≠X.e.locals:=λx c e z=>by obtain⟨v,o,n,d⟩:=I.cell x c e;obtain⟨m,⟨o',es,p,a,h,_⟩,_⟩:=I.loc;rw[z,a]at n;cases n;rw[h]at d;cases d
theorem Inv.funs(I:Inv X B J H s):s.heap.FunFrames X.b X.o:=by
 have all:∀(l:List Env),(∀b ∈ ke l,b ∈ X.fs)->X.z.heap.FunFrames X.b l->s.heap.FunFrames X.b l:=by
  intro l;induction l with
  |nil=>intro _ _;trivial
  |cons n r i=>
   intro a c;obtain⟨k,⟨L,o,f,m,t,d⟩,p⟩:=c;have h:L ∈ X.fs:=a L (by unfold ke;rw[pe,f];exact bi);obtain⟨q,e⟩:=I.base.slot L o t (I.o.frf L h) h λz=>I.o.exfs L z h
   exact⟨k,⟨L,_,f,m,e,d⟩,i (λb x=>a b (by unfold ke;rw[pe,f];exact bn _ x)) p⟩
 exact all X.o (λ_ x=>x) I.o.funs
theorem Inv.stack(I:Inv X B J H s):s.heap.FunFrames X.b X.k:=by
 rcases I.o.stk with e|⟨e,h⟩
 .rw [e];exact I.funs
 .rw [e];obtain⟨m,n,_⟩:=I.loc;refine .cons (by rw[I.o.kind];decide) h n ?_ I.funs;exact xB (ce I.o.bsz I.o.above)
theorem Inv.stkSub(I:Inv X B J H s):∀b ∈ ke X.k,b ∈ X.e.locals::X.fs:=λb h=>by
 rcases I.o.stk with e|⟨e,f⟩
 .rw [e]at h;exact bn _ h
 .rw [e]at h;unfold ke at h;rw[pe,f]at h;exact h
theorem Inv.stkFree(I:Inv X B J H s):∀b ∈ ke X.k,H b=none:=λb h=>by
 rcases ay.mp (I.stkSub b h) with e|h
 .rw [e];exact I.free
 .obtain⟨_,o,x,_⟩:=I.o.funs.mem h;exact I.base.free b o x (I.o.frf b h) λz=>I.o.exfs b z h
theorem Inv.step{g':Array GenState}{t':Nat}{d':Drawn}{ch:List Addr}(I:Inv X B J H s)
  (a:∀b ∈ ch,(b ∈ X.ex\/X.z.heap.objs.size≤b)/\b≠X.e.locals/\(∀x c,X.e.cells.lookup x=some c->c≠b)/\∀p ∈ X.pn++B,p.1≠b)
  (t:∀b o,b≠X.e.locals->b ∉ X.fs->b ∉ ch->s.heap.get? b=some o->H b=none->h'.get? b=some o)
  (slot:∀b o,b≠X.e.locals->b ∈ X.fs->b ∉ ch->s.heap.get? b=some o->H b=none->∃N,h'.get? b=some { o with slots:=N }) (f:∀b o,b ∉ ch->s.heap.get? b=some o->H b=none->H' b=none)
  (y:∀b o,b ∉ ch->s.heap.get? b=some o->∃o',h'.get? b=some o')
  (E:∀b xs,H b=some (.tup xs)->H' b=some (.tup xs)) (P:∀b o u,H b=some (.frz o u)->H' b=some (.frz o u)) (D:∀b ps,H b=some (.tbl ps)->∃A,H' b=some (.tbl (ps++A)))
  (ns:∀m,s.heap.Ns X.e.locals m->h'.Ns X.e.locals m) (M:j7 X.p X.w H' h') (hg:AllBare g') :
  Inv X B J H' { s with heap:=h',gens:=g',drawn:=d',toks:=t' }:=by
 have L:∀b o,X.z.heap.get? b=some o->b≠X.e.locals:=λb o e=>cx (cg (bC e) I.o.above);have C:∀b o,X.z.heap.get? b=some o->b ∉ X.ex->b ∉ ch:=λb o e h j=>by
  rcases(a b j).1 with z|z
  .exact h z
  .exact absurd (cg (bC e) z) (iN _)
 have K:∀x c,X.e.cells.lookup x=some c->∀v,s.heap.IsCell c v->h'.IsCell c v:=λx c e v hz=>by
  obtain⟨o,S,G⟩:=hz;have w:c ∉ ch:=λz=>(a c z).2.2.1 x c e rfl;by_cases R:c ∈ X.fs
  .obtain⟨N,q⟩:=slot c o (I.cne x c e) R w S (I.freeC x c e);exact⟨_,q,G⟩
  .exact⟨o,t c o (I.cne x c e) R w S (I.freeC x c e),G⟩
 refine⟨I.o,I.os,hg,⟨λb o e n j h=>?_,λb o e n j h=>?_,λb o e n h=>?_,λb o e h=>?_,λb xs e=>E b xs (I.base.tups b xs e),λb o xs e=>P b o xs (I.base.frzs b o xs e),λb ps e=>?_⟩,?_,λx c e=>?_,?_,λx c e=>?_,λp T=>?_,M,I.len⟩
 .exact t b o (L b o e) j (C b o e h) (I.base.keep b o e n j h) (I.base.free b o e n h)
 .obtain⟨N,g⟩:=I.base.slot b o e n j h;obtain⟨Q,F⟩:=slot b _ (L b o e) j (C b o e h) g (I.base.free b o e n h);exact⟨Q,F⟩
 .obtain⟨o',g⟩:=I.base.there b o e h;exact f b o' (C b o e h) g (I.base.free b o e n h)
 .obtain⟨o',g⟩:=I.base.there b o e h;exact y b o' (C b o e h) g
 .obtain⟨m1,g⟩:=I.base.tbls b ps e;obtain⟨m2,F⟩:=D b _ g;exact⟨m1++m2,by rw[F,zg]⟩
 .obtain⟨m,hn,hl⟩:=I.loc;refine⟨m,ns m hn,λi x v g F Z=>?_⟩;obtain⟨u,r,l⟩:=hl i x v g F Z;refine⟨u,r,?_⟩;rcases l with l|⟨k,c,e,z⟩
  .exact .inl l
  .exact .inr ⟨k,c,e,K x c e _ z⟩
 .obtain⟨v,z⟩:=I.cell x c e;exact⟨v,K x c e v z⟩
 .obtain⟨m,⟨o,_,_,S,_⟩,_⟩:=I.loc;exact f _ o (λz=>(a _ z).2.1 rfl) S I.free
 .obtain⟨v,o,S,G⟩:=I.cell x c e;exact f c o (λz=>(a c z).2.2.1 x c e rfl) S (I.freeC x c e)
 .obtain⟨e,n,V,W,d⟩:=I.pin p T;have w:p.1 ∉ ch:=λz=>(a p.1 z).2.2.2 p T rfl;exact⟨t p.1 p.2 V W w e n,f p.1 p.2 w e n,V,W,d⟩
theorem Inv.un{t':Nat}(I:Inv X B J H s)(u:Un X.fs [] H H' s.heap h')(k:j7 X.p X.w H' h'):Inv X B J H' { s with heap:=h',toks:=t' }:=by
 obtain⟨m,⟨o,es,q,f,r⟩,_⟩:=id I.loc;obtain⟨l,L⟩:=u.any f I.free (by simp);exact I.step (g':=s.gens) (d':=s.drawn) (ch:=[]) (λ_ z=>nomatch z) (λb o _ a _ e n=>u.keep b o e n a (by simp)) (λb o _ a _ e n=>u.slot b o e n a (by simp)) (λb o _ e n=>u.free b o e n (by simp)) (λb o _ e=>u.there b o e (by simp)) u.tups u.frzs u.tbls (λv c=>by obtain⟨o',x,p,h,t⟩:=c;rw[f]at h;cases h;exact⟨_,x,p,L,t⟩) k I.bare
theorem Inv.call{g':Array GenState}{t':Nat}{d':Drawn}{ch:List Addr}(I:Inv X B J H s)(u:Un (ke X.k) ch H H' s.heap h')(q:j7 X.p X.w H' h')(g:AllBare g')
  (a:∀b ∈ ch,(b ∈ X.ex\/X.z.heap.objs.size≤b)/\b≠X.e.locals/\(∀x c,X.e.cells.lookup x=some c->c≠b)/\∀p ∈ X.pn++B,p.1≠b) :
  Inv X B J H' { s with heap:=h',gens:=g',drawn:=d',toks:=t' }:=by
 obtain⟨m,⟨o,es,j,v,r⟩,_⟩:=id I.loc;obtain⟨y,L⟩:=u.any v I.free λz=>(a _ z).2.1 rfl;exact I.step (ch:=ch) a (λb o L d h e n=>u.keep b o e n (λz=>(ay.mp (I.stkSub b z)).elim L d) h) (λb o _ _ h e n=>u.any e n h) (λb o h e n=>u.free b o e n h) (λb o h e=>u.there b o e h) u.tups u.frzs u.tbls (λl w=>by obtain⟨o',t,f,k,i⟩:=w;rw[v]at k;cases k;exact⟨_,t,f,L,i⟩) q g
theorem Inv.turned{t':Nat}{i:Addr}(h:Inv X B J H s)(k:∀b o,b≠i->s.heap.get? b=some o->h'.get? b=some o)(j:H i=none)(L:i≠X.e.locals)
  (I:i ∈ X.ex\/X.z.heap.objs.size≤i) (h2:∀x c,X.e.cells.lookup x=some c->c≠i) (d:∀p ∈ X.pn++B,p.1≠i):Inv X B J H { s with heap:=h',toks:=t' }:=by
 have t:∀b u,H b=some u->b≠i:=λb u e z=>by rw[z,j]at e;cases e
 refine h.step (g':=s.gens) (d':=s.drawn) (ch:=[i]) (λb w=>?_) (λb o _ _ a e _=>k b o (λz=>a (by simp[z])) e) (λb o _ _ a e _=>⟨o.slots,k b o (λz=>a (by simp[z])) e⟩) (λ_ _ _ _ n=>n)
  (λb o a e=>⟨o,k b o (λz=>a (by simp[z])) e⟩) (λ_ _ e=>e) (λ_ _ _ e=>e) (λb ps e=>⟨#[],by rw[e];simp⟩) (λm g=>?_) (λb u e=>?_) h.bare
 .have e:b=i:=by simpa using w
  subst e;exact⟨I,L,h2,d⟩
 .obtain⟨o,es,f,l,r⟩:=g;exact⟨o,es,f,k _ o (cI L) l,r⟩
 .refine (h.h b u e).stay (λc v a q=>k c v ?_ q) (λ_ q=>q) λ_ _ q=>q;rcases a with z|z
  .rw [z];exact t b u e
  .exact t c _ z
theorem Inv.tok(I:Inv X B J H s)(t:Nat):Inv X B J H { s with toks:=t }:=I.un (h':=s.heap) (t':=t) Un.refl I.h
theorem Inv.kept{t':Nat}(I:Inv X B J H s)(k:∀b u,s.heap.get? b=some u->h'.get? b=some u):Inv X B J H { s with heap:=h',toks:=t' }:=I.un (Un.kept k) (I.h.kept k)
theorem Inv.laid{a:Addr}{o:HO}{t':Nat}(I:Inv X B J H s)(k:∀b u,s.heap.get? b=some u->h'.get? b=some u)(h:s.heap.objs.size≤a)(n:du X.p X.w (upd H a o) h' a o) :
  Inv X B J (upd H a o) { s with heap:=h',toks:=t' }:=I.un (Un.laid k h (I.h.fresh h)) (I.h.laid k h n)
theorem Inv.write{x e:Addr}{o:HO}{t:Nat}(I:Inv X B J H s)(m:Pb (H x))(a:e=x\/H e=some (.own x))(k:∀b u,b≠e->s.heap.get? b=some u->h'.get? b=some u)(h:∃u,h'.get? e=some u)
  (n:du X.p X.w (upd H x o) h' x o):Inv X B J (upd H x o) { s with heap:=h',toks:=t }:=I.un (Un.write m a k h) (I.h.write m a k h n)
theorem Inv.pins_of(I:Inv X B J H s)(h:∀p ∈ i,s.heap.get? p.1=some p.2/\H p.1=none/\p.1≠X.e.locals/\p.1 ∉ X.fs/\∀v,p.2.data≠.cell v):Inv X i J H s:=
 ⟨I.o,I.os,I.bare,I.base,I.loc,I.cell,I.free,I.freeC,λp x=>(kQ.mp x).elim (λz=>I.pin p (g_ _ z)) (h p),I.h,I.len⟩
theorem qG{N:LS}(s:N.Nodup){i j:Nat}{x:Str}(a:N[i]? = some x)(b:N[j]? = some x):i=j:=by obtain⟨I,e⟩:=bX.mp a;obtain⟨h2,h⟩:=bX.mp b;exact(List.getElem_inj s).mp (e.trans h.symm)
theorem nC{M:Model}{A:Around}{E:VP}{i:Nat}{x:Str}{v:V}{u:Value}{Q:Unit->Shared->Prop}(I:Inv X B J H s)(hN:X.N.Nodup)(hi:X.N[i]? = some x)(l:Loc X.e.scope x)(r:RelV v u)
  (h:∀s',Inv X B (J.set i (some v)) H s'->(∃a,kg a s.heap s'.heap/\(a=X.e.locals\/X.e.cells.lookup x=some a))->Q () s') (hf:X.fn x=true\/X.e.scope.names.lookup x=some .local:=by first|exact .inl rfl|exact .inr rfl|assumption):wpAny M A (storeName X.e x u) Q E s:=by
 obtain⟨m,hn,hl⟩:=id I.loc;have R:(X.e.scope.kind == .class ||(X.e.scope.kind == .module && X.e.locals != X.e.globals))=false:=by rw[I.o.kind];rfl
 have T:i < J.length:=by rw[I.len];exact(bX.mp hi).1
 have P:=I.cne;have w:∀{a:Addr}{h':Heap},(∃o,s.heap.get? a=some o/\H a=none)->kg a s.heap h'->j7 X.p X.w H h':=λ{a h'} ha f b ob e=>by
  obtain⟨_,_,S⟩:=ha;refine(I.h b ob e).stay (λc w' g q=>(f.2 c ?_).trans q) (λ_ q=>q) λ_ _ q=>q;rintro rfl;rcases g with rfl|g
  .rw [S]at e;cases e
  .rw [S]at g;cases g
 rcases l with K|K
 .refine wpAny_storeName_local K hn (λh' hn' f=>?_) R;obtain⟨oL,_,_,hoL,_⟩:=id hn;refine h _ ⟨I.o,I.os,I.bare,⟨λb o e n C l=>?_,λb o e n C l=>?_,I.base.free,λb o e l=>?_,I.base.tups,I.base.frzs,I.base.tbls⟩,⟨_,hn',λj y v' t F e3=>?_⟩,λy c e=>?_,I.free,I.freeC,λp hp=>?_,w ⟨oL,hoL,I.free⟩ f,by simpa using I.len⟩ ⟨_,f,.inl rfl⟩
  .exact (f.2 b (cx (cg (bC e) I.o.above))).trans (I.base.keep b o e n C l)
  .obtain⟨sl,t⟩:=I.base.slot b o e n C l;exact⟨sl,(f.2 b (cx (cg (bC e) I.o.above))).trans t⟩
  .obtain⟨o',t⟩:=I.base.there b o e l;exact⟨o',(f.2 b (cx (cg (bC e) I.o.above))).trans t⟩
  .by_cases G:j=i
   .subst G;rw[hi]at t;cases t;rw[eM T]at F;cases F;exact⟨u,r,.inl ⟨K,by simp⟩⟩
   .rw [dC (cI G)]at F;obtain⟨u',r',q⟩:=hl j y v' t F e3;refine⟨u',r',?_⟩;rcases q with ⟨k,e⟩|⟨k,c,e,z⟩
    .refine .inl ⟨k,?_⟩;have:y≠x:=λe=>G (qG hN t (e ▸ hi));simp[this,e]
    .exact .inr ⟨k,c,e,z.sameBut f (P y c e)⟩
  .obtain⟨w',z⟩:=I.cell y c e;exact⟨w',z.sameBut f (P y c e)⟩
  .obtain⟨e,n,ne,nf,d⟩:=I.pin p hp;exact⟨(f.2 p.1 ne).trans e,n,ne,nf,d⟩
 .have D:X.fn x=true:=by
   rcases hf with z|z
   .exact z
   .rw [z]at K;cases K
  obtain⟨c,g⟩:=I.o.has x (.inl K);obtain⟨w',z⟩:=I.cell x c g;refine wpAny_storeName_cell I.o.kind K g z (λh' L f=>?_);obtain⟨oc,W,Z⟩:=id z;refine h { s with heap:=h' } ⟨I.o,I.os,I.bare,⟨λb o e n C l=>?_,λb o e n C l=>?_,I.base.free,λb o e l=>?_,I.base.tups,I.base.frzs,I.base.tbls⟩,⟨m,hn.sameBut f (cI (P x c g)),λj y v' t F e3=>?_⟩,λy c' e=>?_,I.free,I.freeC,λp hp=>?_,w ⟨oc,W,I.freeC x c g⟩ f,by simpa using I.len⟩ ⟨c,f,.inr g⟩
  .exact (f.2 b (cx (cg (bC e) (I.o.cab x c D g)))).trans (I.base.keep b o e n C l)
  .obtain⟨sl,t⟩:=I.base.slot b o e n C l;exact⟨sl,(f.2 b (cx (cg (bC e) (I.o.cab x c D g)))).trans t⟩
  .obtain⟨o',t⟩:=I.base.there b o e l;exact⟨o',(f.2 b (cx (cg (bC e) (I.o.cab x c D g)))).trans t⟩
  .by_cases G:j=i
   .subst G;rw[hi]at t;cases t;rw[eM T]at F;cases F;exact⟨u,r,.inr ⟨.inl K,c,g,L⟩⟩
   .rw [dC (cI G)]at F;obtain⟨u',r',q⟩:=hl j y v' t F e3;refine⟨u',r',?_⟩;rcases q with q|⟨k,c',e,z'⟩
    .exact .inl q
    .refine .inr ⟨k,c',e,z'.sameBut f ?_⟩;rintro rfl;exact G (qG hN t (I.o.inj _ _ _ e g ▸ hi))
  .by_cases N:c'=c
   .subst N;exact⟨_,L⟩
   .obtain⟨w2,z2⟩:=I.cell y c' e;exact⟨w2,z2.sameBut f N⟩
  .obtain⟨e,n,ne,nf,d⟩:=I.pin p hp;refine⟨(f.2 p.1 ?_).trans e,n,ne,nf,d⟩;intro q;rw[q,W]at e;have q':oc=p.2:=jv e;exact d w' (by rw[<- q'];exact Z)
theorem qo(I:Inv X B J H s)(N:X.N.Nodup)(hi:X.N[i]? = some x)(e:Loc X.e.scope x)(r:RelV v u)
  (h:∀s',Inv X B (J.set i (some v)) H s'->Q () s') (f:X.fn x=true\/X.e.scope.names.lookup x=some .local:=by first|exact .inl rfl|exact .inr rfl|assumption):wpAny M A (storeName X.e x u) Q E s:=
 nC I N hi e r (λs' a _=>h s' a) f
theorem Inv.call'(I:Inv X B J H s)(n:s'.os=s.os)(u:Un (ke X.k) i H H' s.heap s'.heap)(o:j7 X.p X.w H' s'.heap)(a:AllBare s'.gens)
  (h:∀b ∈ i,(b ∈ X.ex\/X.z.heap.objs.size≤b)/\b≠X.e.locals/\(∀x c,X.e.cells.lookup x=some c->c≠b)/\∀p ∈ X.pn++B,p.1≠b):Inv X B J H' s':=by
 obtain⟨h',g,d,t,o'⟩:=s';have e:o'=s.os:=n;subst e;exact I.call (g':=g) (t':=t) (d':=d) u o a h
end
noncomputable abbrev XK:=Value->Option Addr->Hp->Prop
noncomputable abbrev St:=List (Option V)
noncomputable abbrev VK:=V->Hp->Prop
noncomputable abbrev TE:=St->Hp->VK->Prop
noncomputable abbrev TT:=St->Hp->(Bool->Hp->Prop)->Prop
noncomputable abbrev TA:=St->Hp->(List V->Hp->Prop)->Prop
structure Ends where
 nx:St->Hp->Prop
 rt:VK
 bk:St->Hp->Prop:=λ_ _=>False
 ct:St->Hp->Prop:=λ_ _=>False
noncomputable abbrev TS:=Ends->St->Hp->Prop
def EP(X:Cx)(B:PN)(J:St)(Q:VK)(u:Value)(s':Shared):Prop:=∃v H',Inv X B J H' s'/\RelV v u/\Q v H'
def TP(X:Cx)(B:PN)(J:St)(Q:Bool->Hp->Prop)(b:Bool)(s':Shared):Prop:=∃H',Inv X B J H' s'/\Q b H'
def AP(X:Cx)(B:PN)(J:St)(Q:List V->Hp->Prop)(q:LV)(s':Shared):Prop:=∃v H',Inv X B J H' s'/\bB v q/\Q v H'
def SP(X:Cx)(B:PN)(D:Ends)(f:Flow)(s':Shared):Prop:=
 match f with
 | .next=>∃h H',Inv X B h H' s'/\D.nx h H'
 | .brk=>∃h H',Inv X B h H' s'/\D.bk h H'
 | .cont=>∃h H',Inv X B h H' s'/\D.ct h H'
 | .ret u=>∃v h H',Inv X B h H' s'/\RelV v u/\D.rt v H'
variable{α:Type}
noncomputable abbrev wx(X:Cx)(m:Sem α):=wpAny (model X.p X.w) X.A m
def PE(X:Cx)(e:Expr)(t:TE):Prop:=
 ∀(B:PN)(s:Shared)(J:St)(H:Hp)(Q:VK),Inv X B J H s->t J H Q->wx X (eval e X.e) (EP X B J Q) X.xe s
def PT(X:Cx)(e:Expr)(t:TT):Prop:=
 ∀(B:PN)(s:Shared)(J:St)(H:Hp)(Q:Bool->Hp->Prop),Inv X B J H s->t J H Q->wx X (isTrue e X.e (eval e X.e)) (TP X B J Q) X.xe s
def PW(X:Cx)(e:Expr)(t:TT):Prop:=
 ∀(w:Sem Value)(B:PN)(s:Shared)(J:St)(H:Hp)(Q:Bool->Hp->Prop),Inv X B J H s->t J H Q->wx X (isTrue e X.e w) (TP X B J Q) X.xe s
variable{X:Cx}{e:Expr}
theorem PW.pt(h:PW X e t):PT X e t:=h _
def PA(X:Cx)(es:Ab)(t:TA):Prop:=
 ∀(G:Pos)(B:PN)(s:Shared)(J:St)(H:Hp)(Q:List V->Hp->Prop),Inv X B J H s->t J H Q->wx X (spliced (backTo G (starEach es X.e))) (AP X B J Q) X.xe s
def PS(X:Cx)(st:Stmt)(t:TS):Prop:=
 ∀(B:PN)(s:Shared)(J:St)(H:Hp)(D:Ends),Inv X B J H s->t D J H->wx X (exec st X.e) (SP X B D) X.xe s
def iF(X:Cx)(st:List Stmt)(t:TS):Prop:=
 ∀(B:PN)(s:Shared)(J:St)(H:Hp)(D:Ends),Inv X B J H s->t D J H->wx X (execs st X.e) (SP X B D) X.xe s
variable{M:Model}{A:Around}{E:VP}{s:Shared}
theorem ez(h:wpAny M A t Q E s)(e:∀a s,Q a s->i a s):wpAny M A t i E s:=bK h e λ_ _ x=>x
section
variable{X:Cx}
noncomputable def Qv(i:Nat):TE:=λJ H Q=>∃v,J[i]? = some (some v)/\Q v H
noncomputable def tC(v:V):TE:=λ_ H Q=>Q v H
theorem xY(N:X.N[i]? = some x)(w:FO X.e.scope x)(n:(x == ("__debug__":Str))=false:=by decide)(d:(x == ("__classdict__":Str))=false:=by decide):PE X (.Name x G) (Qv i):=by
 intro B s J H Q I h;obtain⟨v,e,h⟩:=h;obtain⟨m,q,t⟩:=I.loc;obtain⟨u,r,l⟩:=t i x v N e w;have f:EP X B J Q u s:=⟨v,H,I,r,h⟩;rcases l with ⟨k,p⟩|⟨k,c,b,a⟩
 .exact uq (zY I.o.kind k q p f) n
 .rcases k with k|k
  .exact uq (zX I.o.kind k b a f) n
  .exact uq (wpAny_loadName_free I.o.kind k b a f d) n
theorem Kw {i z G}:PE X (.Constant (.int i) z G) (tC (.int i)):=λ_ _ _ H _ I h=>wpAny_Constant_int ⟨.int i,H,I.tok _,⟨_,rfl⟩,h⟩
theorem NV {b i G}:PE X (.Constant (.bool b) i G) (tC (.bl b)):=λ_ _ _ H _ I h=>Constant_bool ⟨.bl b,H,I,rfl,h⟩
theorem Kv {i G}:PE X (.Constant .none i G) (tC .non):=λ_ _ _ H _ I h=>Constant_none ⟨.non,H,I,rfl,h⟩
theorem Ks {x i G}:PE X (.Constant (.str x) i G) (tC (.str x)):=λ_ _ _ H _ I h=>Calls.Constant_str ⟨.str x,H,I.tok _,⟨_,rfl⟩,h⟩
def Gl(X:Cx)(x:Str):Prop:=X.e.kindOf x=some .globalImplicit
theorem lc(I:Inv X B J H s)(g:Gl X x)(m:X.g x=some u)(h:Q u s)
  (d:(x == ("__debug__":Str))=false:=by decide):wx X (eval (.Name x G) X.e) Q E s:=
 zd I.o.kind g (Calls.loadGlobal_global (by rw[I.o.glob];exact I.mod.glob.keeps I.bk) m h) d
theorem qJ(a:Inv X B J H s)(g:Gl X x)(m:X.g x=none)(v:bootBuiltins x=some u)(h:Q u s)
  (n:x≠"__name__":=by decide) (d:(x == ("__debug__":Str))=false:=by decide):wx X (eval (.Name x G) X.e) Q E s:=by
 obtain⟨b,I,h2⟩:=a.mod.blt;exact zd a.o.kind g (Calls.loadGlobal_builtin (by rw[a.o.glob];exact a.mod.glob.keeps a.bk) m (by rw[a.o.blt];exact I.keeps a.bk) ((h2 x n).trans v) h) d
theorem uR(g:Gl X x)(m:X.g x=some u)(r:RelV v u)(d:(x == ("__debug__":Str))=false:=by decide):PE X (.Name x G) (tC v):=
 λ_ _ _ H _ I h=>lc I g m ⟨v,H,I,r,h⟩ d
theorem Ay(g:Gl X x)(m:X.g x=none)(a:bootBuiltins x=some u)(r:RelV v u)(n:x≠"__name__":=by decide)(d:(x == ("__debug__":Str))=false:=by decide):PE X (.Name x G) (tC v):=
 λ_ _ _ H _ I h=>qJ I g m a ⟨v,H,I,r,h⟩ n d
variable{a b:Expr}{ta tb:TE}{G:Pos}
variable{tA tB':TT}{rest:Ab}
noncomputable def QH(t u:TT):TT:=λJ H Q=>t J H λc j=>if c=true then u J j Q else Q false j
noncomputable def Td(t u:TT):TT:=λJ H Q=>t J H λc j=>if c=true then Q true j else u J j Q
noncomputable def tNot(t:TT):TT:=λJ H Q=>t J H λc j=>Q (!c) j
theorem Hf(x:PT X a tA):PW X (.BoolOp .And [a] G) tA:=by
 intro w B s J H Q I h;refine isTrue_and (ez (x B s J H Q I h) λc n e=>?_);cases c with
 |true=>exact isTrue_and_nil e
 |false=>exact e
theorem Kh(x:PT X a tA):PW X (.BoolOp .Or [a] G) tA:=by
 intro w B s J H Q I h;refine isTrue_or (ez (x B s J H Q I h) λc n e=>?_);cases c with
 |false=>exact isTrue_or_nil e
 |true=>exact e
theorem Ki(e:PT X a tA)(n:PW X (.BoolOp .And (b::rest) G) tB'):PW X (.BoolOp .And (a::b::rest) G) (QH tA tB'):=by
 intro w B s J H Q I h;refine isTrue_and (ez (e B s J H _ I h) λc k z=>?_);obtain⟨j,x,q⟩:=z;cases c with
 |true=>exact n w B k J j Q x q
 |false=>exact⟨j,x,q⟩
theorem NO(e:PT X a tA)(n:PW X (.BoolOp .Or (b::rest) G) tB'):PW X (.BoolOp .Or (a::b::rest) G) (Td tA tB'):=by
 intro w B s J H Q I h;refine isTrue_or (ez (e B s J H _ I h) λc k z=>?_);obtain⟨j,x,q⟩:=z;cases c with
 |true=>exact⟨j,x,q⟩
 |false=>exact n w B k J j Q x q
theorem Kj(x:PT X a tA):PT X (.UnaryOp .Not a G) (tNot tA):=by intro B s J H Q I h;exact isTrue_not (x B s J H (λc j=>Q (!c) j) I h)
noncomputable def ND(ta tb:TE):TE:=λJ H Q=>ta J H λx j=>∃c,x=.bl c/\if c=true then tb J j Q else Q (.bl false) j
noncomputable def Qz(ta tb:TE):TE:=λJ H Q=>ta J H λx j=>∃c,x=.bl c/\if c=true then Q (.bl true) j else tb J j Q
noncomputable def Nt(ta:TE):TE:=λJ H Q=>ta J H λx j=>∃c,x=.bl c/\Q (.bl (!c)) j
theorem Kt {i} (h:PE X a t):PE X (.BoolOp i [a] G) t:=λB s J H Q I w=>BoolOp_one (h B s J H Q I w)
theorem KA(n:PE X a ta)(k:PE X (.BoolOp .And (b::rest) G) tb):PE X (.BoolOp .And (a::b::rest) G) (ND ta tb):=by
 intro B s J H Q I h;refine BoolOp_and (ez (n B s J H _ I h) λv f z=>?_);obtain⟨x,j,e,r,q⟩:=z;obtain⟨c,rfl,q⟩:=q;cases r;refine pO ?_;cases c with
 |true=>exact k B f J j Q e q
 |false=>exact⟨.bl false,j,e,rfl,q⟩
theorem NS(n:PE X a ta)(k:PE X (.BoolOp .Or (b::rest) G) tb):PE X (.BoolOp .Or (a::b::rest) G) (Qz ta tb):=by
 intro B s J H Q I h;refine BoolOp_or (ez (n B s J H _ I h) λv f z=>?_);obtain⟨x,j,e,r,q⟩:=z;obtain⟨c,rfl,q⟩:=q;cases r;refine pO ?_;cases c with
 |false=>exact k B f J j Q e q
 |true=>exact⟨.bl true,j,e,rfl,q⟩
theorem Ku(n:PE X a ta):PE X (.UnaryOp .Not a G) (Nt ta):=by intro B s J H Q I h;refine UnaryOp_ (ez (n B s J H _ I h) λv k z=>?_);obtain⟨x,j,e,r,q⟩:=z;obtain⟨c,rfl,q⟩:=q;cases r;exact not_of (pO ⟨.bl (!c),j,e,rfl,q⟩)
noncomputable def Te(t:TT)(ta tb:TE):TE:=λJ H Q=>t J H λc j=>if c=true then ta J j Q else tb J j Q
theorem DN(f:PT X c tA)(n:PE X a ta)(k:PE X b tb):PE X (.IfExp c a b G) (Te tA ta tb):=by
 intro B s J H Q I h;refine wpAny_IfExp (ez (f B s J H _ I h) λd e z=>?_);obtain⟨j,x,q⟩:=z;cases d with
 |true=>exact n B e J j Q x q
 |false=>exact k B e J j Q x q
end
def j6(K:FG)(H:Hp)(a:Addr)(xs:List V):Prop:=
 Rd H a (.lst xs) \/
  ∃(o:Obj)(i:Array Value)(n:Nat),K.lookup a=some o/\o.cls=.type "list"/\o.dict=none/\o.data=.seq i n/\i.size≤sizeLine/\bB xs i.toList
def sS(K:FG)(H:Hp)(a:Addr)(xs:List V):Prop:=
 Rd H a (.tup xs) \/
  ∃(o:Obj)(i:Array Value)(n:Nat),K.lookup a=some o/\o.cls=.type "tuple"/\o.dict=none/\o.data=.seq i n/\i.size≤sizeLine/\bB xs i.toList
noncomputable def RS:Value->Option V
 | .none=>some .non
 | .bool b=>some (.bl b)
 | .int i _=>some (.int i)
 | .str x _=>some (.str x)
 | .bytes b _=>some (.byt b)
 | .float b _=>some (.flt b)
 | .ref a=>some (.ref a)
 | .type n=>some (.ty n)
 |_=>none
variable{u:Value}
theorem RelV.abs(r:RelV x u):RS u=some x:=by
 cases x with
 |non=>cases r;rfl
 |bl _=>cases r;rfl
 |int _=>obtain⟨t,rfl⟩:=r;rfl
 |str _=>obtain⟨t,rfl⟩:=r;rfl
 |byt _=>obtain⟨t,rfl⟩:=r;rfl
 |flt _=>obtain⟨t,rfl⟩:=r;rfl
 |ref _=>cases r;rfl
 |ty _=>cases r;rfl
variable{y:V}
theorem RelV.inj(r:RelV x u)(q:RelV y u):x=y:=jv (r.abs.symm.trans q.abs)
theorem bB.inj:∀{xs ys:List V}{q:LV},bB xs q->bB ys q->xs=ys
 |_,_,_,.nil,.nil=>rfl
 |_,_,_,.cons r t,.cons h x=>by rw[r.inj h,bB.inj t x]
section
variable{X:Cx}{B:PN}{J:St}{H:Hp}{s:Shared}{a:Addr}{xs ys:List V}
theorem j6.of{K:FG}(h:H a=some (.lst xs)):j6 K H a xs:=.inl (.inl h)
theorem Inv.list(I:Inv X B J H s)(h:j6 X.K H a xs):∃i:LV,bB xs i/\PlainL s.heap a i.toArray/\xs.length≤sizeLine:=by
 rcases h with h|⟨o,i,n,k,c,d,x,f,r⟩
 .obtain⟨z,i,n,r,e⟩:=h.ok I.h;exact⟨i,r,⟨_,n,e,rfl,rfl,rfl⟩,z⟩
 .refine⟨i.toList,r,⟨o,n,I.kIn a o k,c,d,by simpa using x⟩,?_⟩;have e:=r.length;simp only[tZ]at e;lia
theorem Inv.tuple(I:Inv X B J H s)(h:sS X.K H a xs):∃i:LV,bB xs i/\IsTup s.heap a i.toArray/\xs.length≤sizeLine:=by
 rcases h with h|⟨o,i,n,k,c,_,x,f,r⟩
 .obtain⟨z,i,r,p⟩:=h.ok I.h;exact⟨i,r,p.tup,z⟩
 .refine⟨i.toList,r,⟨o,I.kIn a o k,c,n,by simpa using x⟩,?_⟩;have e:=r.length;simp only[tZ]at e;lia
theorem Inv.list_inj(I:Inv X B J H s)(h:j6 X.K H a xs)(h':j6 X.K H a ys):xs=ys:=by
 obtain⟨t,r,⟨o,n,e,_,_,d⟩,_⟩:=I.list h;obtain⟨i,b,⟨o',c,k,_,_,x⟩,_⟩:=I.list h';rw[e]at k;cases k;rw[d]at x;injection x with f _;have:t=i:=by simpa using dz ze f
 subst this;exact r.inj b
theorem Inv.tuple_inj(I:Inv X B J H s)(h:sS X.K H a xs)(h':sS X.K H a ys):xs=ys:=by
 obtain⟨t,r,⟨o,e,_,n,d⟩,_⟩:=I.tuple h;obtain⟨i,b,⟨o',k,_,c,x⟩,_⟩:=I.tuple h';rw[e]at k;cases k;rw[d]at x;injection x with f _;have:t=i:=by simpa using dz ze f
 subst this;exact r.inj b
end
noncomputable abbrev Cx.wish(X:Cx)(E:VP):Cx:={ X with xe:=E }
abbrev Cx.nox(X:Cx):Cx:=X.wish λ_ _=>False
theorem Cx.Ok.wish(ok:X.Ok)(E:VP):(X.wish E).Ok:=
 ⟨ok.mod,ok.kind,ok.glob,ok.blt,ok.above,ok.inj,ok.has,ok.cab,ok.hd,ok.frames,ok.stk,ok.exf,ok.bs,ok.bsz,ok.noex,ok.exfs,ok.funs,ok.frf⟩
theorem Cx.Ok.unwish(ok:(X.wish E).Ok):X.Ok:=
 ⟨ok.mod,ok.kind,ok.glob,ok.blt,ok.above,ok.inj,ok.has,ok.cab,ok.hd,ok.frames,ok.stk,ok.exf,ok.bs,ok.bsz,ok.noex,ok.exfs,ok.funs,ok.frf⟩
section
variable{X:Cx}{B:PN}{J:St}{H:Hp}{s:Shared}{E:VP}
theorem Inv.wish(I:Inv X B J H s)(E:VP):Inv (X.wish E) B J H s:=⟨I.o.wish E,I.os,I.bare,I.base,I.loc,I.cell,I.free,I.freeC,I.pin,I.h,I.len⟩
theorem Inv.unwish(I:Inv (X.wish E) B J H s):Inv X B J H s:=⟨I.o.unwish,I.os,I.bare,I.base,I.loc,I.cell,I.free,I.freeC,I.pin,I.h,I.len⟩
set_option tactic.hygienic true in
theorem SP.unwish(h:SP (X.wish E) B D f s'):SP X B D f s':=by
 cases f with
 |next=>obtain⟨x,H',I,q⟩:=h;exact⟨x,H',I.unwish,q⟩
 |brk=>obtain⟨x,H',I,q⟩:=h;exact⟨x,H',I.unwish,q⟩
 |cont=>obtain⟨x,H',I,q⟩:=h;exact⟨x,H',I.unwish,q⟩
 |ret u=>obtain⟨v,x,H',I,r,q⟩:=h;exact⟨v,x,H',I.unwish,r,q⟩
theorem iF.nox{st:List Stmt}{t:TS}(h:iF X.nox st t):iF X st t:=λB s J H D I w=>
 bK (h B s J H D (I.wish _) w) (λ_ _ q=>q.unwish) λ_ _ z=>False.elim z
end
section
variable{X:Cx}{st:Stmt}{rest:List Stmt}{t u:TS}{e:Expr}{te:TE}{G:Pos}
noncomputable def Nv:TS:=λD J H=>D.nx J H
noncomputable def Qx(t u:TS):TS:=λD J H=>t { D with nx:=u D } J H
theorem Hg:iF X [] Nv:=λ_ _ J H _ I h=>sU ⟨J,H,I,h⟩
set_option tactic.hygienic true in
theorem mw(I:PS X st t)(h2:iF X rest u):iF X (st::rest) (Qx t u):=by
 intro B s J H D x h;refine zN (ez (I B s J H { D with nx:=u D } x h) λf n q=>?_);cases f with
 |next=>obtain⟨e,H',a,q⟩:=q;exact h2 B n e H' D a q
 |ret v=>exact q
 |brk=>exact q
 |cont=>exact q
set_option tactic.hygienic true in
theorem pC(I:PS X st t):iF X [st] t:=by
 intro B s J H D x h;refine zN (ez (I B s J H D x h) λf a q=>?_);cases f with
 |next=>exact sU q
 |ret v=>exact q
 |brk=>exact q
 |cont=>exact q
noncomputable def Nz:TS:=λD J H=>D.ct J H
theorem wh:PS X (.Continue G) Nz:=λ_ _ J H _ I h=>wpAny_Continue ⟨J,H,I,h⟩
theorem Inv.quiet(I:Inv X B J H s):interactive X.e=false:=by simp[interactive,I.o.kind]
noncomputable def Nx(te:TE):TS:=λD J H=>te J H λ_ j=>D.nx J j
theorem Aw(n:PE X e te)(k:swapsWith e none G.line X.e=pure false:=by rfl):PS X (.Expr e G) (Nx te):=by intro B s J H D I h;exact wpAny_Expr_any (ez (n B s J H _ I h) λv f z=>by obtain⟨x,j,a,r,q⟩:=z;exact⟨J,j,a,q⟩) I.quiet k
noncomputable def Qy(te:TE):TS:=λD J H=>te J H D.rt
theorem DB(n:PE X e te):PS X (.Return (some e) G) (Qy te):=by intro B s J H D I h;exact wpAny_Return_some (ez (n B s J H _ I h) λv k z=>by obtain⟨x,j,a,r,q⟩:=z;exact⟨x,J,j,a,r,q⟩)
noncomputable def QB(c:TT)(t u:TS):TS:=λD J H=>c J H λb j=>if b=true then t D J j else u D J j
theorem I_{c:Expr}{a b:List Stmt}{tc:TT}(f:PT X c tc)(n:iF X a t)(k:iF X b u):PS X (.If c a b G) (QB tc t u):=by
 intro B s J H D I h;refine wpAny_If (ez (f B s J H _ I h) λd e z=>?_);obtain⟨j,x,q⟩:=z;cases d with
 |true=>exact n B e J j D x q
 |false=>exact k B e J j D x q
noncomputable def Db:TS:=λ_ _ _=>False
theorem DC:PS X st Db:=λ_ _ _ _ _ _ h=>h.elim
theorem nD:iF X i Db:=λ_ _ _ _ _ _ h=>h.elim
end
noncomputable abbrev TG:=V->St->Hp->(St->Hp->Prop)->Prop
noncomputable abbrev Mo:=List V->St->Hp->(St->Hp->Prop)->Prop
def PG(X:Cx)(a:Expr)(t:TG):Prop:=
 ∀(B:PN)(s:Shared)(J:St)(H:Hp)(v:V)(u:Value)(Q:St->Hp->Prop),Inv X B J H s->RelV v u->t v J H Q ->
  wx X (assign a X.e u) (λ_ s'=>∃h H',Inv X B h H' s'/\Q h H') X.xe s
def Pa(X:Cx)(x:Ab)(t:Mo):Prop:=
 ∀(B:PN)(s:Shared)(J:St)(H:Hp)(v:List V)(q:LV)(Q:St->Hp->Prop),Inv X B J H s->bB v q->t v J H Q ->
  wx X (assignInOrder ((assignEach x X.e).map (·.2)) q) (λ_ s'=>∃h H',Inv X B h H' s'/\Q h H') X.xe s
noncomputable abbrev RV:=V->V->Hp->VK->Prop
def Sq(X:Cx)(o:Operator)(t:RV):Prop:=
 ∀(B:PN)(s:Shared)(J:St)(H:Hp)(x y:V)(v u:Value)(Q:VK),Inv X B J H s->RelV x v->RelV y u->t x y H Q ->
  wx X (inplaceOp o v u) (EP X B J Q) X.xe s
section
variable{X:Cx}{G:Pos}
noncomputable def Jl(i:Nat):TG:=λv J H Q=>Q (J.set i (some v)) H
theorem Hn(N:X.N.Nodup)(hi:X.N[i]? = some x)(e:Loc X.e.scope x)(f:X.fn x=true\/X.e.scope.names.lookup x=some .local:=by first|exact .inl rfl|exact .inr rfl|assumption):PG X (.Name x G) (Jl i):=by intro B s J H v u Q I r h;exact zT (qo I N hi e r (λs' a=>⟨_,H,a,h⟩) f)
noncomputable def Rk:Mo:=λv J H Q=>v=[]/\Q J H
noncomputable def Ox(t:TG)(u:Mo):Mo:=λs J H Q=>∃v r,s=v::r/\t v J H λh H'=>u r h H' Q
theorem Hm:Pa X [] Rk:=by intro B s J H v q Q I r h;obtain⟨e,h⟩:=h;subst e;cases r;exact assignInOrder_nil ⟨J,H,I,h⟩
theorem DH{e:Expr}{es:Ab}{t:TG}{u:Mo}(I:PG X e t)(h2:Pa X es u)
  (f:(assignEach (e::es) X.e).map (·.2)=assign e X.e::(assignEach es X.e).map (·.2):=by rfl):Pa X (e::es) (Ox t u):=by
 intro B s J H d q Q x r h;obtain⟨v,p,k,h⟩:=h;subst k;cases r with
 |cons r c=>rw[f];refine assignInOrder_cons (ez (I B s J H _ _ _ x r h) λ_ m z=>?_);obtain⟨n,j,a,b⟩:=z;exact h2 B m n j _ _ Q a c b
noncomputable def Rj(K:FG)(n:Nat)(t:Mo):TG:=λv J H Q=>∃a xs,v=.ref a/\sS K H a xs/\xs.length=n/\t xs J H Q
theorem Kr(p:X.c=true)(h:Pa X es t)
  (q:(assignEach es X.e).length=n:=by rfl) (x:(assignEach es X.e).findIdx? (·.1)=none:=by rfl):PG X (.Tuple es k G) (Rj X.K n t):=by
 intro B s J H v u Q I r w;obtain⟨a,xs,m,d,l,w⟩:=w;subst m;cases r;obtain⟨j,f,g,z⟩:=I.tuple d;refine assign_Tuple_tuple (I.o.hd p) g (by simp[q,<- l,f.length]) x λh' i=>?_
 have c:Inv X B J H { s with heap:=h' }:=I.kept (t':=s.toks) λb o e=>i b o (cx (bC e)) e;exact h B _ J H xs _ Q c (by simpa using f) w
noncomputable def NC(te:TE)(g:TG):TS:=λD J H=>te J H λx j=>g x J j D.nx
theorem Ko{tg e:Expr}{te:TE}{g:TG}(k:PE X e te)(f:PG X tg g)(b:swapsWithSole [tg] e G.line X.e=pure false:=by rfl)(w:swappedStores [tg] e X.e=pure none:=by rfl)
  (I:(assignEach [tg] X.e).map (·.2)=[assign tg X.e]:=by rfl):PS X (.Assign [tg] e G) (NC te g):=by
 intro B s J H D a h;refine wpAny_Assign_stores (ez (k B s J H _ a h) λv m z=>?_) b w;obtain⟨x,j,n,r,c⟩:=z;rw[I];exact ez (f B m J j x v _ n r c) λ_ t q=>q
theorem DA(N:X.N.Nodup)(hi:X.N[i]? = some x)(c:Loc X.e.scope x)(k:PE X e te)(b:swapsWith e (some (.Name x pos')) G.line X.e=pure false:=by rfl)(f:X.fn x=true\/X.e.scope.names.lookup x=some .local:=by first|exact .inl rfl|exact .inr rfl|assumption) :
  PS X (.Assign [.Name x pos'] e G) (NC te (Jl i)):=by
 intro B s J H D I h;refine wpAny_Assign_Name (ez (k B s J H _ I h) λv m z=>?_) b;obtain⟨y,j,a,r,q⟩:=z;exact qo a N hi c r (λt n=>⟨_,j,n,q⟩) f
noncomputable def QG(i:Nat)(te:TE)(t:RV):TS:=λD J H=>∃x,J[i]? = some (some x)/\te J H λy j=>t x y j λz H2=>D.nx (J.set i (some z)) H2
set_option tactic.hygienic true in
theorem Kn(K:X.N.Nodup)(hi:X.N[i]? = some x)(t:Loc X.e.scope x)(A:PE X e te)(Q:Sq X N ti)(C:X.fn x=true\/X.e.scope.names.lookup x=some .local:=by first|exact .inl rfl|exact .inr rfl|assumption) :
  PS X (.AugAssign (.Name x pos') N e G) (QG i te ti):=by
 intro B s J H D I h;obtain⟨v,F,h⟩:=h;obtain⟨m,M,E⟩:=I.loc;have q:FO X.e.scope x:=by rcases t with k|k;exact .inl k;exact .inr (.inl k)
 obtain⟨u,r,l⟩:=E i x v hi F q;refine wpAny_AugAssign_Name ?_;have g:wx X (eval e X.e) (λw f=>wx X (inplaceOp N u w) (λr b=>wx X (storeName X.e x r) (λ_=>SP X B D .next) X.xe b) X.xe f) X.xe s:=by refine ez (A B s J H _ I h) λw Z p=>?_;obtain⟨y,j,d,V,R⟩:=p;refine ez (Q B Z J j v y u w _ d r V R) λz s2 p=>?_;obtain⟨zv,H2,o,W,T⟩:=p;exact qo o K hi t W (λs3 S=>⟨_,H2,S,T⟩) C
 rcases l with ⟨a,L⟩|⟨a,c,P,n⟩
 .exact zY I.o.kind a M L g
 .rcases a with a|a
  .exact zX I.o.kind a P n g
  .rcases t with k|k
   .have:X.e.scope.names.lookup x=some .free:=a;rw[k]at this;cases this
   .have:X.e.scope.names.lookup x=some .free:=a;rw[k]at this;cases this
noncomputable def TX(f:Int->Int->Int):RV:=λx y H Q=>∃i j,x=.int i/\y=.int j/\Q (.int (f i j)) H
theorem Ls:Sq X .Add (TX λi j=>i+j):=by intro B s J H x y v u Q I r n h;obtain⟨i,j,e,a,q⟩:=h;subst e;subst a;obtain⟨t,rfl⟩:=r;obtain⟨k,rfl⟩:=n;exact za ⟨.int _,H,I.tok _,⟨_,rfl⟩,q⟩
end
section
variable{X:Cx}{G:Pos}
noncomputable def JY(c:TT)(tb:TS):TS:=λD J H=>∃W:Nat->St->Hp->Prop,(∃m,W m J H)/\∀m J H,W m J H ->
 c J H λb j=>if b=true then ∃N:St->Hp->Prop,(∀h H',N h H'->∃x,x < m/\W x h H')/\tb { D with nx:=N,ct:=N,bk:=D.nx } J j else D.nx J j
set_option tactic.hygienic true in
theorem wg(y:PassesOwn (model X.p X.w) X.A X.e X.xe)(S:PT X c tc)(o:iF X i tb):PS X (.While c i [] G) (JY tc tb):=by
 intro B s J H D I h;obtain⟨W,⟨K,C⟩,t⟩:=h;refine wpAny_While (codeAny_whileLoop (λn s'=>∃g H',Inv X B g H' s'/\W n g H') ?_ K ⟨J,H,I,C⟩);rintro n P ⟨e,j,z,E⟩;refine lD y (ez (S B P e j _ z (t n e j E)) λb A F=>?_);obtain⟨H2,u,q⟩:=F;cases b with
 |true=>
  obtain⟨N,l,q⟩:=q;rw[ae rfl];refine lD y (ez (o B A e H2 _ u q) λf L k=>?_);cases f with
  |next=>obtain⟨a,x,m,d⟩:=k;obtain⟨p,r,w⟩:=l a x d;exact⟨p,r,a,x,m,w⟩
  |cont=>obtain⟨a,x,m,d⟩:=k;obtain⟨p,r,w⟩:=l a x d;exact⟨p,r,a,x,m,w⟩
  |brk=>exact k
  |ret v=>exact k
 |false=>rw[ai cb];exact sU ⟨e,H2,u,q⟩
end
structure It where
 go:Nat->Hp->Prop
 yld:Nat->Hp->V->Hp->Prop
 stop:Nat->Hp->Prop
def vL(X:Cx)(B:PN)(H:Hp)(b:Addr):Prop:=
 H b=none/\b≠X.e.locals/\b ∉ X.fs/\(b ∈ X.ex\/X.z.heap.objs.size≤b)/\(∀x c,X.e.cells.lookup x=some c->c≠b)/\∀p ∈ X.pn++B,p.1≠b
variable{B:PN}{J:St}
theorem Inv.fpOk(I:Inv X B J H s)(h:s.heap.objs.size≤b)(n:H' b=none):vL X B H' b:=by
 refine⟨n,zG (cg I.lt h),I.nofs h,.inr (ce I.sz h),λx c e z=>?_,λp a z=>?_⟩
 .obtain⟨v,q⟩:=I.cell x c e;exact absurd (cg q.lt (by rw[z];exact h)) (iN _)
 .exact absurd (cg (bC (I.pin p a).1) (by rw[z];exact h)) (iN _)
structure Turn(P:Program)(w:World)(K:FG)(tg:Expr)(J9:It)(fp:List Addr)(it:Addr)(tn:Nat->Heap->Prop):Prop where
 mem:it ∈ fp
 obj:∀i h,tn i h->∀b ∈ fp,∃o,h.get? b=some o/\∀v,o.data≠.cell v
 keep:∀i h h',tn i h->(∀b ∈ fp,∀o,h.get? b=some o->h'.get? b=some o)->tn i h'
 item:∀(X:Cx),X.p=P->X.w=w->X.K=K->X.c=true->∀(i:Nat)(pins:PN)(s:Shared)(J:St)(H:Hp)(E:VP),Inv X pins J H s->(∀b ∈ fp,vL X pins H b)->tn i s.heap->J9.go i H ->
  wpAny (model P w) X.A (pyNext (.ref it)) (fun r s1=>∃u,r=some u /\
   wpAny (model P w) X.A (letOwnedTupleGo tg (.ref it) u) (λ_ s2=>∃x H',Inv X pins J H' s2/\RelV x u/\J9.yld i H x H'/\tn (i+1) s2.heap/\∀b ∈ fp,H' b=none) E s1) E s
 done:∀(X:Cx),X.p=P->X.w=w->X.K=K->X.c=true->∀(i:Nat)(pins:PN)(s:Shared)(J:St)(H:Hp)(E:VP),Inv X pins J H s->(∀b ∈ fp,vL X pins H b)->tn i s.heap->J9.stop i H ->
  wpAny (model P w) X.A (pyNext (.ref it)) (λr s1=>r=none/\Inv X pins J H s1) E s
 self:∀(A:Around)(i:Nat)(s:Shared)(Q:VP)(E:VP),tn i s.heap->Q (.ref it) s->wpAny (model P w) A (pyIter (.ref it)) Q E s
noncomputable abbrev TI:=St->Hp->(It->Hp->Prop)->Prop
def RW(X:Cx)(B:PN)(J:St)(tg:Expr)(R:It->Hp->Prop)(i:Value)(s:Shared):Prop:=
 ∃(t:Addr)(f:List Addr)(n:Nat->Heap->Prop)(h:It)(H':Hp),i=.ref t/\Inv X B J H' s/\Turn X.p X.w X.K tg h f t n/\n 0 s.heap/\(∀b ∈ f,vL X B H' b)/\R h H'
def PI(X:Cx)(tg iter:Expr)(w:TI):Prop:=
 ∀(B:PN)(s:Shared)(J:St)(H:Hp)(R:It->Hp->Prop),Inv X B J H s->w J H R ->
  wx X (eval iter X.e) (λv h=>wx X (pyIter v) (RW X B J tg R) X.xe h) X.xe s
variable{tg:Expr}
theorem wR(e:s.heap.get? i=some o)(c:o.cls=.type n)(d:o.data=.fields z)
    (a:["enumerate","zip","dict_itemiterator","dict_reverseitemiterator","odict_iterator","itertools.zip_longest","itertools.pairwise"].contains n=false) (x:Q () s):wpAny M A (letOwnedTupleGo tg (.ref i) u) Q E s:=by
  unfold letOwnedTupleGo;cases tg<;>first
    |exact aP x
    | (cases u <;> first
        |exact aP x
        | (refine ak (wpAny_load e ?_)
           rw[c,d];show wpAny M A (if (["enumerate","zip","dict_itemiterator","dict_reverseitemiterator","odict_iterator","itertools.zip_longest","itertools.pairwise"].contains n && z[0]? == some (rawInt _))=true then _ else _) Q E s;rw[ai (by intro h;rw[a,oV]at h;cases h)];exact aP x))
noncomputable def P0(K:FG)(a:Addr):It:=
 ⟨λi H=>∃xs x,j6 K H a xs/\xs[i]? = some x,λi H x H'=>H'=H/\∀xs,j6 K H a xs->xs[i]? = some x,λi H=>∃xs,j6 K H a xs/\xs.length≤i⟩
noncomputable def Sx(K:FG)(a:Addr):It:=
 ⟨λi H=>∃xs x,sS K H a xs/\xs[i]? = some x,λi H x H'=>H'=H/\∀xs,sS K H a xs->xs[i]? = some x,λi H=>∃xs,sS K H a xs/\xs.length≤i⟩
noncomputable def PZ(lo:Int)(n:Nat):It:=⟨λi _=>i < n,λi H x H'=>H'=H/\x=.int (lo+i),λi _=>n≤i⟩
variable{w:World}{K:FG}
theorem Bk(a t:Addr):Turn P w K tg (P0 K a) [t] t (λi h=>h.IsListIter t a i) where
 mem:=by simp
 obj:=λi h st b n=>by
  have e:b=t:=by simpa using n
  subst e;obtain⟨o,e,c,d⟩:=st;exact⟨o,e,λv z=>by rw[d]at z;cases z⟩
 keep:=λi h h' st k=>st.at λo e=>k t (by simp) o e
 item:=by
  intro X S A y L i B s J H E I m st F;subst S A y;obtain⟨xs,x,q,C⟩:=F;obtain⟨D,G,p,T⟩:=I.list q;obtain⟨u,Q,V⟩:=G.get C;obtain⟨r,g,f2,f3,j,l⟩:=m t (by simp);refine wpAny_pyNext_list_item st p.isList (x:=u) (by simpa using Q) λh' f W=>?_
  have M:Inv X B J H { s with heap:=h' }:=I.turned (t':=s.toks) (λb o n e=>(W.2 b n).trans e) r g f3 j l;obtain⟨o,e,c,d⟩:=id f;exact⟨u,rfl,wR (s:={ s with heap:=h' }) e c d (by decide) ⟨x,H,M,V,⟨rfl,λys R=>by rw[I.list_inj R q];exact C⟩,f,λb n=>(m b n).1⟩⟩
 done:=by intro X S A y L i B s J H E I m st F;subst S A y;obtain⟨xs,q,C⟩:=F;obtain⟨D,G,p,T⟩:=I.list q;obtain⟨r,g,f2,f3,j,l⟩:=m t (by simp);have Z:=G.length;exact wpAny_pyNext_list_end (I.o.hd L) st p.isList (by simp;lia) λh' N=>⟨rfl,I.turned (t':=s.toks) (λb o n e=>N b o n e) r g f3 j l⟩
 self:=λ_ _ _ _ _ st h=>wpAny_pyIter_listiter st h
theorem xJ(a t:Addr):Turn P w K tg (Sx K a) [t] t (λi h=>h.IsTupleIter t a i) where
 mem:=by simp
 obj:=λi h st b n=>by
  have e:b=t:=by simpa using n
  subst e;obtain⟨o,e,c,d⟩:=st;exact⟨o,e,λv z=>by rw[d]at z;cases z⟩
 keep:=λi h h' st k=>st.at λo e=>k t (by simp) o e
 item:=by
  intro X F C S L i B s J H E I r st A;subst F C S;obtain⟨xs,x,q,D⟩:=A;obtain⟨f,G,p,T⟩:=I.tuple q;obtain⟨u,Q,V⟩:=G.get D;obtain⟨g,j,f2,f3,l,y⟩:=r t (by simp);refine wpAny_pyNext_tuple_item st (show s.heap.IsTuple a f.toArray from p) (x:=u) (by simpa using Q) λh' m W=>?_
  have M:Inv X B J H { s with heap:=h' }:=I.turned (t':=s.toks) (λb o n e=>(W.2 b n).trans e) g j f3 l y;obtain⟨o,e,c,d⟩:=id m;exact⟨u,rfl,wR (s:={ s with heap:=h' }) e c d (by decide) ⟨x,H,M,V,⟨rfl,λys R=>by rw[I.tuple_inj R q];exact D⟩,m,λb n=>(r b n).1⟩⟩
 done:=by intro X F C S L i B s J H E I r st A;subst F C S;obtain⟨xs,q,D⟩:=A;obtain⟨f,G,p,T⟩:=I.tuple q;obtain⟨g,j,f2,f3,l,y⟩:=r t (by simp);have Z:=G.length;exact wpAny_pyNext_tuple_end (I.o.hd L) st (show s.heap.IsTuple a f.toArray from p) (by simp;lia) λh' N=>⟨rfl,I.turned (t':=s.toks) (λb o n e=>N b o n e) g j f3 l y⟩
 self:=λ_ _ _ _ _ st h=>wpAny_pyIter_tupleiter st h
theorem xK(x:Addr)(lo:Int)(n:Nat):Turn P w K tg (PZ lo n) [x] x (λi h=>IsRangeIter h x (lo+(i:Nat) * 1) ((n:Int)-(i:Nat)) 1) where
 mem:=by simp
 obj:=λi h st b a=>by
  have e:b=x:=by simpa using a
  subst e;exact⟨_,st,λv z=>by have C:Data.fields _=Data.cell v:=z;cases C⟩
 keep:=λi h h' st k=>k x (by simp) _ st
 item:=by
  intro X u l d g i B s J H E I c st j;subst u l d;obtain⟨m,r,f2,f3,p,q⟩:=c x (by simp);have W:=Walks.range (prog:=X.p) (w:=X.w) (I.o.hd g) x lo 1 n;refine W.item i s _ _ j st λv h' tk F f A=>?_
  obtain⟨t,rfl⟩:=F;have y:Inv X B J H { s with heap:=h',toks:=tk }:=I.turned (λb o a e=>A b o (by simpa using a) e) m r f3 p q;refine⟨_,rfl,wR (s:={ s with heap:=h',toks:=tk }) (n:="range_iterator") f rfl rfl (by decide) ⟨.int (lo+i),H,y,⟨t,?_⟩,⟨rfl,rfl⟩,f,λb a=>(c b a).1⟩⟩;rw[Int.mul_one]
 done:=by intro X u l d g i B s J H E I c st j;subst u l d;obtain⟨m,r,f2,f3,p,q⟩:=c x (by simp);exact z4 (I.o.hd g) st (by have:n≤i:=j;lia) λh' S=>⟨rfl,I.turned (t':=s.toks) (λb o a e=>S b o a e) m r f3 p q⟩
 self:=λ_ _ _ _ _ st h=>z3 st h
section
variable{X:Cx}{tg:Expr}
theorem Dx{lo hi:Int}{t u v:Tok}{tk:Nat}(h:Inv X B J H s)(I:-(2 ^ 62)≤lo)(h2:lo < 2 ^ 62)(k:-(2 ^ 62)≤hi)(f:hi < 2 ^ 62)
  (q:R (PZ lo (hi-lo).toNat) H):wx X (pyIter (.ref s.heap.objs.size)) (RW X B J tg R) E { s with heap:=s.heap.push { cls:=.type "range",data:=.fields #[.int lo t,.int hi u,.int 1 v] },toks:=tk }:=by
 refine zV (IsRange.new ..) (small_one I h2 k f) ?_;have x:Inv X B J H { s with heap:=s.heap.push { cls:=.type "range",data:=.fields #[.int lo t,.int hi u,.int 1 v] },toks:=tk }:=h.kept fun b o e=>cv _ e;refine⟨(s.heap.push { cls:=.type "range",data:=.fields #[.int lo t,.int hi u,.int 1 v] }).objs.size,[(s.heap.push { cls:=.type "range",data:=.fields #[.int lo t,.int hi u,.int 1 v] }).objs.size],_,_,H,rfl,
  x.kept (t':=tk) λb o e=>cv _ e,xK _ lo (hi-lo).toNat,?_,λb c=>?_,q⟩
 .have a:lo+((0:Nat):Int) * 1=lo:=by simp
  have n:(((hi-lo).toNat:Nat):Int)-((0:Nat):Int)=iI lo hi 1:=by rw[rangeSize_one];split<;>lia
  show IsRangeIter _ _ (lo+((0:Nat):Int) * 1) ((((hi-lo).toNat:Nat):Int)-((0:Nat):Int)) 1;rw[a,n];exact gy _ rfl
 .have e:b=(s.heap.push { cls:=.type "range",data:=.fields #[.int lo t,.int hi u,.int 1 v] }).objs.size:=by simpa using c
  subst e;exact x.fpOk (ar _) (x.h.fresh (ar _))
noncomputable def Oq(ta:TA):TI:=λJ H R=>ta J H λv j=>∃h:Int,v=[.int h]/\-(2 ^ 62)≤h/\h < 2 ^ 62/\R (PZ 0 h.toNat) j
theorem Bw{a:Expr}{ta:TA}{p G:Pos}(g:Gl X "range")(m:X.g "range"=none)(b:PA X [a] ta)(c:starEach [a] X.e=[(false,eval a X.e)]:=by rfl):PI X tg (.Call (.Name "range" p) [a] [] G) (Oq ta):=by
 intro B s J H R I h;refine Call_ (qJ I g m boot_range (tS (ez (b G B s J H _ I h) λq u z=>?_) c rfl));obtain⟨i,j,f,d,k⟩:=z;obtain⟨x,e,k,v,n⟩:=k;subst e;cases d with
 |cons r w=>cases w;obtain⟨t,rfl⟩:=r;exact call_range_1 (Dx f (by lia) (by lia) k v (by simpa using n))
noncomputable def QC(w:TI)(g:TG)(tb:TS):TS:=λD J H=>w J H λh j=>∃W:Nat->Nat->St->Hp->Prop,(∃m,W 0 m J j)/\∀i m J H,W i m J H ->
 (h.stop i H/\D.nx J H)\/(h.go i H/\∃N:St->Hp->Prop,(∀a H',N a H'->∃e,e < m/\W (i+1) e a H')/\∀x H',h.yld i H x H'->g x J H' λs H2=>tb { D with nx:=N,ct:=N,bk:=D.nx } s H2)
noncomputable def nE(f:List Addr)(h:Heap):PN:=f.filterMap λb=>(h.get? b).map λo=>(b,o)
theorem jH(x:b ∈ i)(e:h.get? b=some o):(b,o) ∈ nE i h:=pb.mpr ⟨b,x,by rw[e];rfl⟩
theorem BA(s:p ∈ nE i h):p.1 ∈ i/\h.get? p.1=some p.2:=by
 obtain⟨b,a,e⟩:=pb.mp s;cases q:h.get? b with
 |none=>rw[q]at e;cases e
 |some o=>rw[q]at e;have x:(b,o)=p:=jv e;subst x;exact⟨a,q⟩
theorem Inv.pinned(I:Inv X B J H s)(n:∀b ∈ i,vL X B H b)(k:∀b ∈ i,∃o,s.heap.get? b=some o/\∀v,o.data≠.cell v):Inv X (B++nE i s.heap) J H s:=
 I.pins_of λp c=>(kQ.mp c).elim (λz=>I.pin p (cw _ z)) λz=>by obtain⟨x,e⟩:=BA z;obtain⟨f,a,f2,_⟩:=n p.1 x;obtain⟨o,h,d⟩:=k p.1 x;rw[e]at h;cases h;exact⟨e,f,a,f2,d⟩
theorem Inv.unpinned(I:Inv X (B++i) J H s):Inv X B J H s:=I.pins_of λp h=>I.pin p (cw _ (g_ _ h))
set_option tactic.hygienic true in
theorem Kl{iter:Expr}{y:List Stmt}{wi:TI}{g:TG}{tb:TS}{G:Pos}(P:PassesOwn (model X.p X.w) X.A X.e X.xe)(hc:X.c=true)(hi:PI X tg iter wi)(hg:PG X tg g)(p:iF X y tb)
  (hs:∀x,foldedSetIterable iter X.e x=pure x:=by intro _;rfl):PS X (.For tg iter y [] G) (QC wi g tb):=by
 intro B s J H D a h;refine wpAny_For (ez (hi B s J H _ a h) λv s1 I=>ez I λitv s2 h2=>?_) hs;obtain⟨it,F,tn,J9,H2,e,I2,T,st2,f2,W,⟨m0,w0⟩,L⟩:=h2;subst e;have q:∀{H':Hp},(∀b ∈ F,H' b=none)->∀b ∈ F,vL X B H' b:=λhn b p=>⟨hn b p,(f2 b p).2⟩
 refine codeAny_forLoop_any (λn s'=>∃i l H',Inv X B l H' s'/\tn i s'.heap/\(∀b ∈ F,H' b=none)/\W i n l H') ?_ m0 ⟨0,J,H2,I2,st2,λb p=>(f2 b p).1,w0⟩;rintro n s3 ⟨i,S,M,I3,C,K,w3⟩;rcases L i n S M w3 with ⟨E,qn⟩|⟨go,N,hN,step⟩
 .refine lD P (ez (T.done X rfl rfl rfl hc i B s3 S M X.xe I3 (q K) C E) λr s4 z=>?_);obtain⟨V,I4⟩:=z;subst V;exact sU ⟨S,M,I4,qn⟩
 .refine lD P (ez (T.item X rfl rfl rfl hc i B s3 S M X.xe I3 (q K) C go) λr s4 z=>?_);obtain⟨u,V,h4⟩:=z;subst V;refine lD P (ez h4 λ_ s5 z=>?_);obtain⟨x,H5,I5,r5,y5,j,R⟩:=z;have Q:=I5.pinned (q R) (T.obj _ _ j);refine lD P (ez (hg _ s5 S H5 x u _ Q r5 (step x H5 y5)) λ_ s6 z=>?_);obtain⟨J6,H6,I6,q6⟩:=z;refine lD P (ez (p _ s6 J6 H6 _ I6 q6) λf Z w=>?_);have again:∀{t:St}{k:Hp},Inv X (B++nE F s5.heap) t k Z->N t k->∃m,m < n/\∃i l H',Inv X B l H' Z/\tn i Z.heap/\(∀b ∈ F,H' b=none)/\W i m l H':=λ{t k} c A=>by
   obtain⟨m',hm,w7⟩:=hN t k A;refine⟨m',hm,i+1,t,k,c.unpinned,T.keep _ _ _ j λb p o e=>(c.pin (b,o) (cw _ (cw _ (jH p e)))).1,λb p=>?_,w7⟩;obtain⟨o,e,d⟩:=T.obj _ _ j b p;exact(c.pin (b,o) (cw _ (cw _ (jH p e)))).2.1
  cases f with
  |next=>obtain⟨t,k,c,A⟩:=w;exact again c A
  |cont=>obtain⟨t,k,c,A⟩:=w;exact again c A
  |brk=>obtain⟨t,k,c,w⟩:=w;exact⟨t,k,c.unpinned,w⟩
  |ret v=>obtain⟨x7,t,k,c,r7,w⟩:=w;exact⟨x7,t,k,c.unpinned,r7,w⟩
end
noncomputable abbrev R2:=V->V->Hp->VK->Prop
def kc(X:Cx)(f:Value->Value->Sem Value)(r:R2):Prop:=
 ∀(B:PN)(s:Shared)(J:St)(H:Hp)(x y:V)(v u:Value)(Q:VK),Inv X B J H s->RelV x v->RelV y u->r x y H Q ->
  wx X (f v u) (EP X B J Q) X.xe s
def RT(X:Cx)(f:Value->Sem Value)(r:V->Hp->VK->Prop):Prop:=
 ∀(B:PN)(s:Shared)(J:St)(H:Hp)(x:V)(v:Value)(Q:VK),Inv X B J H s->RelV x v->r x H Q ->
  wx X (f v) (EP X B J Q) X.xe s
def fg(X:Cx)(f:Value)(r:List V->Hp->VK->Prop):Prop:=
 ∀(B:PN)(s:Shared)(J:St)(H:Hp)(xs:List V)(q:LV)(Q:VK),Inv X B J H s->bB xs q->r xs H Q ->
  wx X (call f q) (EP X B J Q) X.xe s
def RU(X:Cx)(r:V->Hp->(Bool->Hp->Prop)->Prop):Prop:=
 ∀(B:PN)(s:Shared)(J:St)(H:Hp)(x:V)(v:Value)(Q:Bool->Hp->Prop),Inv X B J H s->RelV x v->r x H Q ->
  wx X (truthy v) (TP X B J Q) X.xe s
noncomputable def JZ(r:R2)(ta tb:TE):TE:=λJ H Q=>ta J H λx j=>tb J j λy H2=>r x y H2 Q
noncomputable def Ta(r:V->Hp->VK->Prop)(ta:TE):TE:=λJ H Q=>ta J H λx j=>r x j Q
noncomputable def rI(C:Int->Int->Prop)(g:Int->Int->V):R2:=λx y H Q=>∃i j,x=.int i/\y=.int j/\C i j/\Q (g i j) H
noncomputable def Hd(g:Int->Int->V):R2:=λx y H Q=>∃i j,x=.int i/\y=.int j/\Q (g i j) H
def rU(g:Int->V):V->Hp->VK->Prop:=λx H Q=>∃i,x=.int i/\Q (g i) H
section
variable{X:Cx}{a b c:Expr}{ta tb tc:TE}{G:Pos}
theorem L8(r:PE X a ta)(t:PE X b tb){B:PN}{s:Shared}{J:St}{H:Hp}{R:V->V->Hp->Prop}(I:Inv X B J H s)
  (h:ta J H λx j=>tb J j λy H2=>R x y H2) {Q:VP}{f:Value->Value->Sem Value}
  (p:∀v u k x y H2,Inv X B J H2 k->RelV x v->RelV y u->R x y H2->wx X (f v u) Q X.xe k) :
  wx X (eval a X.e) (λv e=>wx X (eval b X.e) (λu n=>wx X (f v u) Q X.xe n) X.xe e) X.xe s:=by
 refine ez (r B s J H _ I h) λv i z=>?_;obtain⟨x,j,c,w,q⟩:=z;refine ez (t B i J j _ c q) λu k z=>?_;obtain⟨y,H2,m,g,d⟩:=z;exact p v u k x y H2 m w g d
theorem NT{o:Operator}{r:R2}(f:kc X (binaryOp o) r)(n:PE X a ta)(k:PE X b tb):PE X (.BinOp a o b G) (JZ r ta tb):=by intro B s J H Q I h;exact wpAny_BinOp (L8 n k I h λv u t x y H2 e c m q=>f B t J H2 x y v u Q e c m q)
theorem NR(o:RT X (unaryOp i) r)(n:PE X a ta):PE X (.UnaryOp i a G) (Ta r ta):=by intro B s J H Q I h;exact UnaryOp_ (ez (n B s J H _ I h) λv f z=>by obtain⟨x,j,e,k,q⟩:=z;exact o B f J j x v Q e k q)
theorem Po{f:Value->Value->Sem Value}{C:Int->Int->Prop}{g:Int->Int->Int}
  (rule:∀(i j:Int)(t u:Tok)(s:Shared)(Q:VP)(E:VP),C i j->Q (.int (g i j) s.toks) { s with toks:=s.toks+1 }->wx X (f (.int i t) (.int j u)) Q E s) :
  kc X f (rI C λi j=>.int (g i j)):=by
 intro B s J H x y v u Q I r a h;obtain⟨i,j,rfl,rfl,c,q⟩:=h;obtain⟨t,rfl⟩:=r;obtain⟨e,rfl⟩:=a;exact rule i j t e s _ _ c ⟨.int (g i j),H,I.tok _,⟨_,rfl⟩,q⟩
theorem Oa{f:Value->Value->Sem Value}{g:Int->Int->Int}
  (rule:∀(i j:Int)(t u:Tok)(s:Shared)(Q:VP)(E:VP),Q (.int (g i j) s.toks) { s with toks:=s.toks+1 }->wx X (f (.int i t) (.int j u)) Q E s) :
  kc X f (Hd λi j=>.int (g i j)):=by
 intro B s J H x y v u Q I r a h;obtain⟨i,j,rfl,rfl,q⟩:=h;obtain⟨t,rfl⟩:=r;obtain⟨e,rfl⟩:=a;exact rule i j t e s _ _ ⟨.int (g i j),H,I.tok _,⟨_,rfl⟩,q⟩
theorem Hx{f:Value->Value->Sem Value}{g:Int->Int->Bool}
  (rule:∀(i j:Int)(t u:Tok)(s:Shared)(Q:VP)(E:VP),Q (.bool (g i j)) s->wx X (f (.int i t) (.int j u)) Q E s) :
  kc X f (Hd λi j=>.bl (g i j)):=by
 intro B s J H x y v u Q I r a h;obtain⟨i,j,rfl,rfl,q⟩:=h;obtain⟨t,rfl⟩:=r;obtain⟨e,rfl⟩:=a;exact rule i j t e s _ _ ⟨.bl (g i j),H,I,rfl,q⟩
def R0(i j:Int):Prop:=0≤j/\j≤1000000/\i.natAbs < 2 ^ 64
theorem KO:kc X (binaryOp .Add) (Hd λi j=>.int (i+j)):=Oa λ_ _ _ _ _ _ _ q=>add_int q
theorem KG:kc X (binaryOp .Sub) (Hd λi j=>.int (i-j)):=Oa λ_ _ _ _ _ _ _ q=>sub_int q
theorem KJ:kc X (binaryOp .Mod) (rI (λ_ j=>0 < j) λi j=>.int (i % j)):=Po λi j _ _ _ _ _ h q=>by have I:(0:Int) < j:=h;exact mod_int' (by lia) (by rw[Int.fmod_eq_emod_of_nonneg i (by lia)];exact q)
theorem KI:kc X (binaryOp .Pow) (rI R0 λi j=>.int (i ^ j.toNat)):=Po λ_ _ _ _ _ _ _ h q=>pow_int_small h.1 h.2.1 h.2.2 q
theorem S6{f:Value->Sem Value}{g:Int->Int}
  (rule:∀(i:Int)(t:Tok)(s:Shared)(Q:VP)(E:VP),Q (.int (g i) s.toks) { s with toks:=s.toks+1 }->wx X (f (.int i t)) Q E s) :
  RT X f (rU λi=>.int (g i)):=by
 intro B s J H x v Q I r h;obtain⟨i,rfl,q⟩:=h;obtain⟨t,rfl⟩:=r;exact rule i t s _ _ ⟨.int (g i),H,I.tok _,⟨_,rfl⟩,q⟩
theorem JM:RT X (unaryOp .USub) (rU λi=>.int (-i)):=S6 λ_ _ _ _ _ q=>neg_int q
end
noncomputable def NH:V->V->Bool
 | .non,.non=>true | .non,.int _=>true | .int _,.non=>true | .non,.bl _=>true | .bl _,.non=>true | .non,.str _=>true | .str _,.non=>true
 | .int _,.int _=>true | .bl _,.bl _=>true | .str _,.str _=>true | .byt _,.byt _=>true
 | .int _,.str _=>true | .str _,.int _=>true | .bl _,.str _=>true | .str _,.bl _=>true
 |_,_=>false
def Tx:R2:=λx y H Q=>NH x y=true/\Q (.bl (decide (x=y))) H
def Tw:R2:=λx y H Q=>NH x y=true/\Q (.bl (!decide (x=y))) H
theorem AX{i j:Int}:decide (V.int i=V.int j)=(i == j):=by rw[oW];simp
theorem EZ:decide (V.bl i=V.bl z)=(i == z):=by rw[oW];simp
theorem AW:decide (V.str i=V.str z)=(i == z):=by rw[oW];simp
theorem AY:decide (V.byt i=V.byt z)=(i.toList == z.toList):=by rw[oW];cases i;cases z;simp
section
variable{X:Cx}{a b c:Expr}{ta tb tc:TE}{G:Pos}
theorem bW(I:Inv X B J H s)(q:Q (.bl k) H)(e:k=i):EP X B J Q (.bool i) s:=by subst e;exact⟨.bl k,H,I,rfl,q⟩
theorem DR:kc X (compareOp .Eq) Tx:=by
 intro B s J H x y v u Q I n r h;obtain⟨e,q⟩:=h;cases x with
 |non=>
  cases n;cases y with
  |non=>cases r;exact Gc (bW I q (by simp))
  |bl j=>cases r;exact Ga (bW I q (by simp))
  |int j=>obtain⟨a,rfl⟩:=r;exact Gb (bW I q (by simp))
  |str j=>obtain⟨a,rfl⟩:=r;exact Gd (bW I q (by simp))
  |_=>exact absurd (show false=true from e) cb
 |bl i=>
  cases n;cases y with
  |non=>cases r;exact F9 (bW I q (by simp))
  |bl j=>cases r;exact eq_bool (bW I q EZ)
  |str j=>obtain⟨a,rfl⟩:=r;exact FV (bW I q (by simp))
  |_=>exact absurd (show false=true from e) cb
 |int i=>
  obtain⟨t,rfl⟩:=n;cases y with
  |non=>cases r;exact F_ (bW I q (by simp))
  |int j=>obtain⟨a,rfl⟩:=r;exact eq_int (bW I q AX)
  |str j=>obtain⟨a,rfl⟩:=r;exact FW (bW I q (by simp))
  |_=>exact absurd (show false=true from e) cb
 |str i=>
  obtain⟨t,rfl⟩:=n;cases y with
  |non=>cases r;exact Ge (bW I q (by simp))
  |bl j=>cases r;exact FX (bW I q (by simp))
  |int j=>obtain⟨a,rfl⟩:=r;exact FY (bW I q (by simp))
  |str j=>obtain⟨a,rfl⟩:=r;exact eq_str (bW I q AW)
  |_=>exact absurd (show false=true from e) cb
 |byt i=>
  obtain⟨t,rfl⟩:=n;cases y with
  |byt j=>obtain⟨a,rfl⟩:=r;exact PySem.W.eq_bytes (bW I q AY)
  |_=>exact absurd (show false=true from e) cb
 |_=>cases y<;>exact absurd (show false=true from e) cb
theorem DP:kc X (compareOp .NotEq) Tw:=by
 intro B s J H x y v u Q I n r h;obtain⟨e,q⟩:=h;cases x with
 |non=>
  cases n;cases y with
  |non=>cases r;exact Gj (bW I q (by simp))
  |bl j=>cases r;exact Gh (bW I q (by simp))
  |int j=>obtain⟨a,rfl⟩:=r;exact Gi (bW I q (by simp))
  |str j=>obtain⟨a,rfl⟩:=r;exact Gk (bW I q (by simp))
  |_=>exact absurd (show false=true from e) cb
 |bl i=>
  cases n;cases y with
  |non=>cases r;exact Gf (bW I q (by simp))
  |bl j=>cases r;exact ne_bool (bW I q (dz not EZ))
  |str j=>obtain⟨a,rfl⟩:=r;exact FZ (bW I q (by simp))
  |_=>exact absurd (show false=true from e) cb
 |int i=>
  obtain⟨t,rfl⟩:=n;cases y with
  |non=>cases r;exact Gg (bW I q (by simp))
  |int j=>obtain⟨a,rfl⟩:=r;exact ne_int (bW I q (dz not AX))
  |str j=>obtain⟨a,rfl⟩:=r;exact F0 (bW I q (by simp))
  |_=>exact absurd (show false=true from e) cb
 |str i=>
  obtain⟨t,rfl⟩:=n;cases y with
  |non=>cases r;exact Gm (bW I q (by simp))
  |bl j=>cases r;exact F6 (bW I q (by simp))
  |int j=>obtain⟨a,rfl⟩:=r;exact F7 (bW I q (by simp))
  |str j=>obtain⟨a,rfl⟩:=r;exact ne_str (bW I q (dz not AW))
  |_=>exact absurd (show false=true from e) cb
 |byt i=>
  obtain⟨t,rfl⟩:=n;cases y with
  |byt j=>obtain⟨a,rfl⟩:=r;exact PySem.W.ne_bytes (bW I q (dz not AY))
  |_=>exact absurd (show false=true from e) cb
 |_=>cases y<;>exact absurd (show false=true from e) cb
theorem NZ:kc X (compareOp .Lt) (Hd λi j=>.bl (decide (i < j))):=Hx λ_ _ _ _ _ _ _ q=>lt_int q
theorem N0:kc X (compareOp .LtE) (Hd λi j=>.bl (decide (i≤j))):=Hx λ_ _ _ _ _ _ _ q=>le_int q
theorem N2:kc X (compareOp .Gt) (Hd λi j=>.bl (decide (j < i))):=Hx λ_ _ _ _ _ _ _ q=>gt_int q
theorem N3:kc X (compareOp .GtE) (Hd λi j=>.bl (decide (j≤i))):=Hx λ_ _ _ _ _ _ _ q=>ge_int q
theorem By:kc X (compareOp .In) (λx y H Q=>∃i j,x=.str i/\y=.str j/\Q (.bl (!(oR j i 0 j.length 1).isEmpty)) H):=by intro B s J H x y v u Q I r a h;obtain⟨i,j,rfl,rfl,q⟩:=h;obtain⟨t,rfl⟩:=r;obtain⟨e,rfl⟩:=a;exact in_str (bW I q rfl)
theorem KL:kc X (compareOp .Is) (λx y H Q=>y=.non/\Q (.bl (decide (x=.non))) H):=by
 intro B s J H x y v u Q I r a h;obtain⟨rfl,q⟩:=h;cases a;refine is_none_gen (bW I q ?_);cases x<;>first
  |(cases r;rfl)
  |(obtain⟨t,rfl⟩:=r;rfl)
theorem uX:kc X (compareOp .NotIn) (λx y H Q=>∃i j,x=.str i/\y=.str j/\Q (.bl (!(!(oR j i 0 j.length 1).isEmpty))) H):=by intro B s J H x y v u Q I r a h;obtain⟨i,j,rfl,rfl,q⟩:=h;obtain⟨t,rfl⟩:=r;obtain⟨e,rfl⟩:=a;exact notIn_str (bW I q rfl)
theorem Ax{o:CmpOp}{r:R2}(f:kc X (compareOp o) r)(n:PE X a ta)(k:PE X b tb)(m:behindInMarks o b=false):PE X (.Compare a [o] [b] G) (JZ r ta tb):=by intro B s J H Q I h;exact wpAny_Compare1 (L8 n k I h λv u p x y H2 e c t q=>f B p J H2 x y v u Q e c t q) m
noncomputable def IW(t:TE):TT:=λJ H Q=>t J H λx H'=>∃k,x=.bl k/\Q k H'
theorem Av(o:kc X (compareOp i) r)(p:PE X a ta)(q:PE X b tb)(d:behindInMarks i b=false):PT X (.Compare a [i] [b] G) (IW (JZ r ta tb)):=by
 intro B s J H Q I h;refine wpAny_isTrue_Compare1 (ez (p B s J H _ I h) fun v P ⟨x,j,f,S,w⟩=>ez (q B P J j _ f w) fun u A ⟨y,H2,m,F,g⟩=>
  ez (o B A J H2 x y v u _ m S F g) λc C ⟨z,n,t,K,k,e,l⟩=>?_) d
 subst e;cases K;exact pO ⟨n,t,l⟩
def Mn(K:FG)(x:V)(H:Hp)(k:Bool):Prop:=
 match x with
 | .non=>k=false
 | .bl b=>k=b
 | .int i=>k=(i != 0)
 | .str y=>y.length≤sizeLine/\k=((y.length:Int) != 0)
 | .byt y=>y.size≤sizeLine/\k=((y.size:Int) != 0)
 | .ref p=>(∃xs,j6 K H p xs/\k=!xs.isEmpty)\/(∃xs,sS K H p xs/\k=!xs.isEmpty)\/∃v,H p=some (.dK v)/\k=!v.isEmpty
 |_=>False
theorem yf(r:KV i z):(!z.isEmpty)=!i.isEmpty:=by cases r<;>rfl
theorem qN(r:bB xs i):(!i.toArray.isEmpty)=!xs.isEmpty:=by cases r<;>simp
theorem lM:(sizeLine:Nat) < 2 ^ 63:=by rw[ml];decide
theorem JQ:RU X (λx H Q=>∃k,Mn X.K x H k/\Q k H):=by
 intro B s J H x v Q I f h;obtain⟨k,e,q⟩:=h;have j:=lM;have o:sizeLine=16777216:=ml;cases x with
 |non=>cases f;have a:k=false:=e;subst a;exact truthy_none ⟨H,I,q⟩
 |bl b=>cases f;have a:k=b:=e;subst a;exact pO ⟨H,I,q⟩
 |int i=>obtain⟨t,rfl⟩:=f;have a:k=(i != 0):=e;subst a;exact PySem.P.truthy_int ⟨H,I,q⟩
 |str y=>obtain⟨t,rfl⟩:=f;obtain⟨g,a⟩:y.length≤sizeLine/\k=((y.length:Int) != 0):=e;subst a;exact PySem.P.truthy_str (by lia) ⟨H,I.tok _,q⟩
 |byt y=>obtain⟨t,rfl⟩:=f;obtain⟨g,a⟩:y.size≤sizeLine/\k=((y.size:Int) != 0):=e;subst a;exact PySem.W.truthy_bytes (by lia) ⟨H,I.tok _,q⟩
 |ref p=>
  cases f;have a:(∃xs,j6 X.K H p xs/\k=!xs.isEmpty)\/(∃xs,sS X.K H p xs/\k=!xs.isEmpty)\/∃n,H p=some (.dK n)/\k=!n.isEmpty:=e;rcases a with ⟨xs,c,a⟩|⟨xs,c,a⟩|⟨n,c,a⟩
  .subst a;obtain⟨w,r,u,z⟩:=I.list c;have l:=r.length;exact wpAny_truthy_list u.isList (by simp only[cc];lia) ⟨H,I.tok _,by rw[qN r];exact q⟩
  .subst a;obtain⟨w,r,u,z⟩:=I.tuple c;have l:=r.length;exact truthy_tuple u (by simp only[cc];lia) ⟨H,I.tok _,by rw[qN r];exact q⟩
  .subst a;obtain⟨z,S,d,r,m⟩:n.length≤sizeLine/\(p == sysModules)=false/\∃d,KV n d/\s.heap.DictOf (cm X.p X.w) p d:=I.h p _ c;have l:n.length=d.length:=Paired.length r;exact wpAny_truthy_dict S m (by lia) ⟨H,I.tok _,by rw[yf r];exact q⟩
 |_=>exact(show False from e).elim
theorem Dz(n:PE X a ta)(f:∀w,isTrue a X.e w=(do let v <- w;standAt a.pos;holding [v] (truthy v))) :
  PT X a (λJ H Q=>ta J H λx H'=>∃k,Mn X.K x H' k/\Q k H'):=by
 intro B s J H Q I h;exact isTrue_plain (ez (n B s J H _ I h) λv b z=>by obtain⟨x,j,e,r,q⟩:=z;exact JQ B b J j x v Q e r q) (f _)
theorem xZ:kc X (binaryOp .Add) (λx y H Q=>∃i j,x=.str i/\y=.str j/\i.length+j.length≤sizeLine/\Q (.str (i++j)) H):=by intro B s J H x y v u Q I r a h;obtain⟨i,j,rfl,rfl,z,q⟩:=h;obtain⟨t,rfl⟩:=r;obtain⟨e,rfl⟩:=a;exact add_str (λe tk=>⟨.str (i++j),H,I.tok _,⟨_,rfl⟩,q⟩) z
theorem vals1(r:bB [x] q):∃u,q=[u]/\RelV x u:=by
 cases r with
 |cons h a=>cases a;exact⟨_,rfl,h⟩
theorem vals2(r:bB [x,y] q):∃u w,q=[u,w]/\RelV x u/\RelV y w:=by
 cases r with
 |cons h a=>
  cases a with
  |cons e s=>cases s;exact⟨_,_,rfl,h,e⟩
theorem B5(c:X.c=true):fg X (.builtin "max") (λxs H Q=>∃i j,xs=[.int i,.int j]/\Q (.int (if j > i then j else i)) H):=by
 intro B s J H xs q Q I r h;obtain⟨i,j,rfl,x⟩:=h;obtain⟨u,w,rfl,⟨t,rfl⟩,⟨e,rfl⟩⟩:=vals2 r;refine max_two_ints (I.o.hd c) λh' tk k=>⟨_,H,I.kept k,?_,x⟩
 by_cases a:j > i
 .rw [ae a,ae a];exact⟨_,rfl⟩
 .rw [ai a,ai a];exact⟨_,rfl⟩
theorem B4(c:X.c=true):fg X (.builtin "min") (λxs H Q=>∃i j,xs=[.int i,.int j]/\Q (.int (if j < i then j else i)) H):=by
 intro B s J H xs q Q I r h;obtain⟨i,j,rfl,x⟩:=h;obtain⟨u,w,rfl,⟨t,rfl⟩,⟨e,rfl⟩⟩:=vals2 r;refine min_two_ints (I.o.hd c) λh' tk k=>⟨_,H,I.kept k,?_,x⟩
 by_cases a:j < i
 .rw [ae a,ae a];exact⟨_,rfl⟩
 .rw [ai a,ai a];exact⟨_,rfl⟩
theorem sL:fg X (.type "int") (λxs H Q=>(∃i,xs=[.int i]/\Q (.int i) H)\/∃k,xs=[.bl k]/\Q (.int (if k then 1 else 0)) H):=by
 intro B s J H xs q Q I r h;rcases h with ⟨i,rfl,x⟩|⟨k,rfl,x⟩
 .obtain⟨u,rfl,t,rfl⟩:=vals1 r;exact call_int_int ⟨.int i,H,I,⟨_,rfl⟩,x⟩
 .obtain⟨u,rfl,a⟩:=vals1 r;cases a;exact call_int_bool ⟨.int (if k then 1 else 0),H,I.tok _,⟨_,rfl⟩,x⟩
theorem vw:fg X (.type "str") (λxs H Q=>∃i,xs=[.int i]/\i.natAbs.log2 < 1920/\Q (.str (toString i)) H):=by intro B s J H xs q Q I r h;obtain⟨i,rfl,z,x⟩:=h;obtain⟨u,rfl,t,rfl⟩:=vals1 r;exact PySem.P.str_of_int z ⟨.str _,H,I.tok _,⟨_,rfl⟩,x⟩
end
structure ObjM(h:Heap)(x dx C:Addr)(mA:SV):Prop where
 obj:h.get? x=some (kf C dx)
 ns:h.Ns1 dx mA
 ne:dx≠x
set_option tactic.hygienic true in
theorem sv(n:h.Ns1 dx mA):∃d,h.get? dx=some d/\∀name,s_ name d=some (mA name):=by
 obtain⟨o,es,p,b,s,f,_,m⟩:=n;refine⟨o,b,λname=>?_⟩;have e:=m name;unfold nsFind findBy at e;rw[<- zh]at e;unfold s_;rw[s];dsimp only;split
 .rename_i y q;rw[q]at e;exact dz some e
 .rename_i q;rw[q]at e;have a:es.toList.any (·.refKey)=false:=by
   rw[List.any_eq_false];intro y c;obtain⟨z,t,k⟩:=f y (Array.mem_toList_iff.mp c);simp[DictEntry.refKey,k]
  have x:¬es.toList.any (·.refKey)=true:=by rw[a];exact cb
  rw[ai x];exact dz some e
variable{C:Addr}
theorem ObjM.look(I:ObjM h x dx C mA):∃o,PySem.W.InstAt h x (kf C dx) C (some o)/\∀name,s_ name o=some (mA name):=
 let ⟨o,a,l⟩:=sv I.ns
 ⟨o,⟨I.obj,rfl,rfl,a⟩,l⟩
section
variable{prog:Program}{w:World}{A:Around}{E:VP}{s:Shared}{K:FG}{x dx C f:Addr}{mA:SV}{name:Str}{v:Value}
theorem HW(X:K.In s.heap)(I:ObjM s.heap x dx C mA)(g:tf K C name=true)(k:tj K C=true)
  (n:d_ K (.ref C) name=some none) (f:mA name=some v) (a:Cu v=true) (h:Q v { s with toks:=s.toks+1 }) :
  wpAny (model prog w) A (getAttr (.ref x) name i) Q E s:=by
 obtain⟨o,e,l⟩:=I.look;exact PySem.W.get_value X e (xx g).1 (CD k n rfl (by rw[l,f])) a h
theorem Ez(X:K.In s.heap)(I:ObjM s.heap x dx C mA)(g:tf K C name=true)
  (e:d_ K (.ref C) name=some (some (.ref f))) (t:xm K (.ref f)=true) (v:mA name=none) (h:Q (.ref f,[.ref x]) s) :
  wpAny (model prog w) A (getMethod (.ref x) name i) Q E s:=by
 obtain⟨o,a,l⟩:=I.look;exact PySem.W.method_fn X a (xx g).1 (xx g).2 e (i0.mp t) (by show(s_ name o).map (·.isSome)=some false;rw[l,v];rfl) h
theorem G5(X:K.In s.heap)(I:ObjM s.heap x dx C mA)
  (u:d_ K (.ref C) "__setattr__"=some (some (.builtin "object.__setattr__"))) (q:Cw K C=true) (g:xr K C name=some none) (t:tj K C=true)
  (i:uw mA N) (z:N.length≤sizeLine)
  (h:∀h',ObjM h' x dx C (λy=>if y=name then some v else mA y)->kg dx s.heap h'->Q () { s with heap:=h',toks:=s.toks+2 }) :
  wpAny (model prog w) A (setAttr (.ref x) name v) Q E s:=by
 obtain⟨F,k,H⟩:=I.look;refine Ck X k u (PySem.W.osa_open (s:={ s with toks:=s.toks+1 }) (r:=none) X k q g λb=>?_);obtain⟨l,m,d⟩:=PySem.W.any_some t;have j:s.heap.get? x=some ⟨.ref C,some dx,.plain,#[]⟩:=I.obj;refine ak (aP (ak (ak (zJ j (ak (oQ (s:={ s with toks:=s.toks+1 }) (xl X m) ?_))))));rw[d];refine aP (a:=some dx) (ak (aP (ak ?_)));refine wpAny_nsSet1 (s:={ s with toks:=s.toks+1 }) I.ns λh' n e=>?_;obtain⟨S,f,p,o,D,c⟩:=n.count (PySem.Within.cons name v i);refine ak (zP o (by rw[D];exact zK (ce c (by rw[aA];lia))) ?_);exact aP (h _ ⟨(e.2 _ (cI I.ne)).trans I.obj,n,I.ne⟩ e)
theorem D8(X:K.In s.heap)(m:Cs K C=true)
  (hi:d_ K (.ref C) "__init__"=some (some (.ref f))) (x:PySem.W.typeIn K (.ref f)=some (.type "function"))
  (h:codeAny (model prog w) (A.under (.builtin "type.__call__" ⟨.ref C::i,kw⟩)) (.call (.ref f) ⟨.ref (s.heap.objs.size+1)::i,kw⟩) (PySem.W.InitBack (s.heap.objs.size+1) R)
   { s with heap:=(s.heap.push jt).push (kf C s.heap.objs.size) }) :
  codeAny (model prog w) A (.call (.ref C) ⟨i,kw⟩) R s:=by
 obtain⟨a,g,d,t,os⟩:=s;exact PySem.W.make_core (PySem.W.makes_of X m) (lF X hi) (λe=>PySem.W.bind_fn X e x) (.inl rfl) h
end
noncomputable def hX(f:Str)(v:V):List (Str×V)->List (Str×V)
 | []=>[(f,v)]
 |(g,x)::r=>if g=f then (g,v)::r else (g,x)::hX f v r
theorem nT(f g:Str)(v:V):∀fs:List (Str×V),(hX f v fs).lookup g=if g=f then some v else fs.lookup g
 | []=>by
  show dP g [(f,v)]=_;by_cases h:g=f
  .have b:(g == f)=true:=i0.mpr h;simp only[dP,b,ae h]
  .have b:(g == f)=false:=nQ.mpr h;simp only[dP,b,ai h]
 |(k,x)::r=>by
  have i:=nT f g v r;rw[show hX f v ((k,x)::r)=(if k=f then (k,v)::r else (k,x)::hX f v r) from rfl];by_cases a:k=f
  .rw [ae a];by_cases h:g=k
   .have b:(g == k)=true:=i0.mpr h;simp only[dP,b,ae (h.trans a)]
   .have b:(g == k)=false:=nQ.mpr h;simp only[dP,b,ai (λe:g=f=>h (e.trans a.symm))]
  .rw [ai a];by_cases h:g=k
   .have b:(g == k)=true:=i0.mpr h;simp only[dP,b,ai (λe:g=f=>a (h.symm.trans e))]
   .have b:(g == k)=false:=nQ.mpr h;simp only[dP,b];exact i
theorem nI(f:Str)(v:V):∀fs:List (Str×V),f ∈ (hX f v fs).map (·.1)/\∀g,g ∈ fs.map (·.1)->g ∈ (hX f v fs).map (·.1)
 | []=>⟨by simp[hX],λg h=>by simp at h⟩
 |(k,x)::r=>by
  obtain⟨i,s⟩:=nI f v r;rw[show hX f v ((k,x)::r)=(if k=f then (k,v)::r else (k,x)::hX f v r) from rfl];by_cases a:k=f
  .rw [ae a];subst a;exact⟨by simp,λg h=>by simpa using h⟩
  .rw [ai a];refine⟨?_,λg h=>?_⟩
   .rw [aX];exact bn _ i
   .rw [aX]at h ⊢;rcases ay.mp h with e|e
    .exact ay.mpr (.inl e)
    .exact bn _ (s g e)
theorem nU(f:Str)(v:V):∀fs:List (Str×V),(hX f v fs).length≤fs.length+1
 | []=>by simp[hX]
 |(k,x)::r=>by
  have i:=nU f v r;rw[show hX f v ((k,x)::r)=(if k=f then (k,v)::r else (k,x)::hX f v r) from rfl];by_cases h:k=f
  .rw [ae h,aA,aA];lia
  .rw [ai h,aA,aA];lia
theorem jQ.some_of{v:V}{o:OV}(r:jQ (some v) o):∃u,o=some u/\RelV v u:=by
 cases o with
 |none=>exact(show False from r).elim
 |some u=>exact⟨u,rfl,r⟩
theorem jQ.none_of{o:OV}(r:jQ none o):o=none:=by
 cases o with
 |none=>rfl
 |some u=>exact(show False from r).elim
variable{v:V}
theorem sH(r:RelV v u):Cu u=true:=by
 cases v with
 |non=>cases (show u=Value.none from r);rfl
 |bl b=>cases (show u=Value.bool b from r);rfl
 |int i=>obtain⟨t,e⟩:=(show ∃t,u=Value.int i t from r);cases e;rfl
 |str x=>obtain⟨t,e⟩:=(show ∃t,u=Value.str x t from r);cases e;rfl
 |byt b=>obtain⟨t,e⟩:=(show ∃t,u=Value.bytes b t from r);cases e;rfl
 |flt b=>obtain⟨t,e⟩:=(show ∃t,u=Value.float b t from r);cases e;rfl
 |ref a=>cases (show u=Value.ref a from r);rfl
 |ty n=>cases (show u=Value.type n from r);rfl
section
variable{P:Program}{w:World}{H H':Hp}{h h':Heap}{a C dx:Addr}{fs fs':List (Str×V)}
theorem pI(o:j7 P w H h)(e:H a=some (.ins C dx fs)):∃mA,ObjM h a dx C mA/\(∀f,jQ (fs.lookup f) (mA f))/\uw mA (fs.map (·.1))/\fs.length≤1000/\H dx=some (.own a):=by obtain⟨d,z,x,b,mA,n,r,q⟩:=(show du P w H h a (.ins C dx fs) from o a _ e);exact⟨mA,⟨b,n,x⟩,r,q,z,d⟩
end
structure Cls(K:FG)(C:Addr):Prop where
 pg:tf K C Str.empty=true
 hd:tj K C=true
 po:Cw K C=true
 sa:d_ K (.ref C) "__setattr__"=some (some (.builtin "object.__setattr__"))
theorem Cls.get(c:Cls K C)(f:Str):tf K C f=true:=c.pg
def kN(K:FG)(C:Addr)(f:Str):Prop:=d_ K (.ref C) f=some none
theorem kN.taker(n:kN K C f):xr K C f=some none:=by unfold xr;rw[show d_ K (.ref C) f=some none from n];rfl
structure Con(K:FG)(C:Addr)(f:Str)(v:V)(u:Value):Prop where
 at_:d_ K (.ref C) f=some (some u)
 rel:RelV v u
 get:tm K u "__get__"=some none
 cp:PySem.W.copiedNames.contains f=false
structure Meth(K:FG)(C:Addr)(m:Str)(f:Addr):Prop where
 at_:d_ K (.ref C) m=some (some (.ref f))
 fn:xm K (.ref f)=true
 kp:gO K (.ref f)=true
section
variable{X:Cx}{B:PN}{J:St}{H:Hp}{s:Shared}{a C dx:Addr}{fs:List (Str×V)}{f:Str}{v:V}{A:Around}{E:VP}
theorem qP{b:Bool}{Q:VP}(I:Inv X B J H s)(e:H a=some (.ins C dx fs))(c:Cls X.K C)(n:kN X.K C f)(l:fs.lookup f=some v)
  (h:∀u s',Inv X B J H s'->RelV v u->Q u s'):wpAny (model X.p X.w) A (getAttr (.ref a) f b) Q E s:=by
 obtain⟨mA,k,r,_,_,_⟩:=pI I.h e;obtain⟨u,m,x⟩:=jQ.some_of (v:=v) (o:=mA f) (by rw[<- l];exact r f);exact HW I.kIn k (c.get f) c.hd n m (sH x) (h u _ (I.tok _) x)
theorem jI{m:Str}{g:Addr}{p:Sem Bool}{Q:Value×LV->Shared->Prop}(I:Inv X B J H s)(e:H a=some (.ins C dx fs))(c:Cls X.K C)(k:Meth X.K C m g)(l:fs.lookup m=none)
  (h:Q (.ref g,[.ref a]) s):wpAny (model X.p X.w) A (getMethod (.ref a) m p) Q E s:=by
 obtain⟨mA,x,r,_,_,_⟩:=pI I.h e;have n:mA m=none:=jQ.none_of (by rw[<- l];exact r m);exact Ez I.kIn x (c.get m) k.at_ k.fn n h
theorem qx(I:Inv X B J H s)(e:H a=some (.ins C dx fs))(c:Cls X.K C)(n:kN X.K C f)(F:fs.length < 1000)(l:RelV y u)
  (h:∀s',Inv X B J (upd H a (.ins C dx (hX f y fs))) s'->Q () s'):wpAny (model X.p X.w) A (setAttr (.ref a) f u) Q E s:=by
 obtain⟨mA,m,r,w,_,t⟩:=pI I.h e;have j:(fs.map (·.1)).length≤sizeLine:=by rw[eH,ml];lia
 refine G5 I.kIn m c.sa c.po n.taker c.hd w j λh' k S=>h _ ?_;have d:∃o,h'.get? dx=some o:=let ⟨o,_,_,p,_⟩:=k.ns;⟨o,p⟩
 refine I.write (x:=a) (e:=dx) (by rw[e];exact True.intro) (.inr t) (λb q v z=>(S.2 b v).trans z) d ?_;refine⟨by rw[aR m.ne];exact t,?_,m.ne,k.obj,_,k.ns,λg=>?_,λg i=>?_⟩
 .have:=nU f y fs;lia
 .show jQ ((hX f y fs).lookup g) (if g=f then some u else mA g);rw[nT];by_cases q:g=f
  .rw [ae q,ae q];exact l
  .rw [ai q,ai q];exact r g
 .by_cases q:g=f
  .rw [q];exact(nI f y fs).1
  .refine (nI f y fs).2 g (w g λz=>i ?_);show(if g=f then some u else mA g)=none;rw[ai q];exact z
theorem Inv.made(I:Inv X B J H s):Inv X B J (upd (upd H s.heap.objs.size (.own (s.heap.objs.size+1))) (s.heap.objs.size+1) (.ins C s.heap.objs.size []))
  { s with heap:=(s.heap.push jt).push (kf C s.heap.objs.size) }:=by
 have h:(s.heap.push jt).get? s.heap.objs.size=some jt:=gy s.heap rfl;have k:((s.heap.push jt).push (kf C s.heap.objs.size)).get? (s.heap.objs.size+1)=some (kf C s.heap.objs.size):=by have:=gy (s.heap.push jt) (o:=kf C s.heap.objs.size) rfl;rwa [xA]at this
 have f:(s.heap.push jt).Ns s.heap.objs.size (λ_=>none):=⟨jt,#[],_,h,rfl,(λe c=>absurd c (by simp)),λ_=>rfl⟩;have x:=I.laid (a:=s.heap.objs.size) (o:=.own (s.heap.objs.size+1)) (h':=s.heap.push jt) (t':=s.toks) (λb u q=>cv _ q) (ar _) ⟨_,h⟩;refine x.laid (a:=s.heap.objs.size+1) (o:=.ins C s.heap.objs.size []) (t':=s.toks) (λb u q=>cv _ q) (zD (xA _ _)) ?_;have n:s.heap.objs.size≠s.heap.objs.size+1:=cx (jx _);refine⟨by rw[aR n,bc],eh _,n,k,λ_=>none,(Heap.Ns1.of_empty f).at λo q=>cv _ q,λ_=>True.intro,λy m=>absurd rfl m⟩
theorem A_(b:attributeBase e f i (eval e i)=eval e i)
  (h:wpAny (model prog w) A (eval e i) (λo x=>wpAny (model prog w) A (getAttr o f true) Q E x) E s):wpAny (model prog w) A (eval (.Attribute e f G) i) Q E s:=
 Attribute_any_ h (by rw[arm_eval_Attribute,b])
end
def QD(K:FG)(ta:TE)(f:Str):TE:=λJ H Q=>ta J H λx j=>∃a C dx fs v,x=.ref a/\j a=some (.ins C dx fs)/\Cls K C/\kN K C f/\fs.lookup f=some v/\Q v j
def QL(K:FG)(ta tv:TE)(f:Str):TS:=λD J H=>tv J H λy j=>ta J j λx H2=>∃a C dx fs,x=.ref a/\H2 a=some (.ins C dx fs)/\Cls K C/\kN K C f/\fs.length < 1000 /\
 D.nx J (upd H2 a (.ins C dx (hX f y fs)))
def Pc(X:Cx)(o:Operator)(r:V->V->Hp->VK->Prop):Prop:=
 ∀(B:PN)(s:Shared)(J:St)(H:Hp)(x y:V)(u v:Value)(Q:VK),Inv X B J H s->RelV x u->RelV y v->r x y H Q->wx X (inplaceOp o u v) (EP X B J Q) X.xe s
def G9(K:FG)(ta tv:TE)(r:V->V->Hp->VK->Prop)(f:Str):TS:=λD J H=>ta J H λx j=>∃a C dx fs v,x=.ref a/\j a=some (.ins C dx fs)/\Cls K C/\kN K C f/\fs.lookup f=some v /\
 tv J j λy H2=>r v y H2 λz h=>∃d fs',h a=some (.ins C d fs')/\fs'.length < 1000/\D.nx J (upd h a (.ins C d (hX f z fs')))
section
variable{X:Cx}{o e value:Expr}{f:Str}{G pos' tpos:Pos}{ta tv:TE}
theorem Ky(t:PE X e ta)(r:attributeBase e f X.e (eval e X.e)=eval e X.e):PE X (.Attribute e f G) (QD X.K ta f):=by intro B s J H Q I h;refine A_ r (ez (t B s J H _ I h) λu w z=>?_);obtain⟨x,j,k,d,a,C,dx,fs,v,ex,m,c,n,l,q⟩:=z;subst ex;obtain rfl:u=Value.ref a:=d;exact qP k m c n l λi g b p=>⟨v,j,b,p,q⟩
theorem Km(r:PE X o ta)(v:PE X value tv)(t:swapsWith value (some (.Attribute o f pos')) G.line X.e=pure false):PS X (.Assign [.Attribute o f pos'] value G) (QL X.K ta tv f):=by intro B s J H D I h;refine z8 (ez (v B s J H _ I h) λu i ⟨y,j,e,g,q⟩=>ez (r B i J j _ e q) λp S z=>?_) t;obtain⟨x,H2,k,w,a,C,dx,fs,ex,m,c,n,l,d⟩:=z;subst ex;obtain rfl:p=Value.ref a:=w;exact qx k m c n l g λF b=>⟨J,_,b,d⟩
theorem Bu(i:PE X o ta)(S:PE X value tv)(p:Pc X N rd):PS X (.AugAssign (.Attribute o f tpos) N value G) (G9 X.K ta tv rd f):=by
 intro B s J H D I h;refine wpAny_AugAssign_AttributeAny (ez (i B s J H _ I h) λK Z k=>?_);obtain⟨x,j,b,L,a,C,dx,fs,v,ex,g,c,n,l,q⟩:=k;subst ex;obtain rfl:K=Value.ref a:=L;refine qP b g c n l λu R m E=>ez (S B R J j _ m q) λV T ⟨y,H2,r,M,P⟩=>ez (p B T J H2 v y u V _ r E M P) λw4 s4 k=>?_
 obtain⟨z,W,t,Q,w,fs',e,F,A⟩:=k;exact qx t e c n F Q λs5 d=>⟨J,_,d,A⟩
def QW:V->V->Hp->VK->Prop:=λx y H Q=>∃i j,x=.int i/\y=.int j/\Q (.int (i+j)) H
theorem Lv:Pc X .Add QW:=by rintro B s J H x y u v Q I r a ⟨i,j,rfl,rfl,q⟩;obtain⟨t,rfl⟩:=(show ∃t,u=Value.int i t from r);obtain⟨h,rfl⟩:=(show ∃h,v=Value.int j h from a);exact za ⟨.int (i+j),H,I.tok _,⟨_,rfl⟩,q⟩
end
section
variable{X:Cx}{B:PN}{J:St}{H:Hp}{s:Shared}{A:Around}{E:VP}{Q:VP}{c:Value}{b:Bool}
inductive TyOf(K:FG)(H:Hp):V->Value->Prop where
 |non:TyOf K H .non (.type "NoneType")
 |bl (x:Bool):TyOf K H (.bl x) (.type "bool")
 |int (i:Int):TyOf K H (.int i) (.type "int")
 |str (x:Str):TyOf K H (.str x) (.type "str")
 |flt (x:UInt64):TyOf K H (.flt x) (.type "float")
 |lst {a:Addr}{xs:List V} (e:H a=some (.lst xs)):TyOf K H (.ref a) (.type "list")
 |frz {a:Addr}{o:Obj}{xs:List V} (e:H a=some (.frz o (.lst xs))):TyOf K H (.ref a) (.type "list")
 |tup {a:Addr}{xs:List V} (e:H a=some (.tup xs)):TyOf K H (.ref a) (.type "tuple")
 |dK {a:Addr}{kvs:List (fR×V)} (e:H a=some (.dK kvs)):TyOf K H (.ref a) (.type "dict")
 |dT {a:Addr}{kvs:List (List fR×V)} (e:H a=some (.dT kvs)):TyOf K H (.ref a) (.type "dict")
 |ins {a C dx:Addr}{fs:List (Str×V)} (e:H a=some (.ins C dx fs)) (cl:Cls K C) (ha:d_ K (.ref C) "__class__"=some (some (.builtin "object.__class__")))
   (hn:tm K (.builtin "object.__class__") "__get__"=some (some (.builtin "getset_descriptor.__get__"))) (htk:xt K (.builtin "object.__class__")=some true)
   (hm:pR K C (.type "object")=some true):TyOf K H (.ref a) (.ref C)
theorem ie(k:Inv X B J H s)(r:RelV x u)(ty:TyOf X.K H x t)(e:bO X.K t c=some b)(h:∀tk,Q (.bool b) { s with toks:=tk }) :
  wpAny (model X.p X.w) A (call (.builtin "isinstance") [u,c]) Q E s:=by
 cases ty with
 |non=>cases (show u=Value.none from r);exact eR xu k.kIn True.intro e (λz=>nomatch z) h
 |bl y=>cases (show u=Value.bool y from r);exact eR PySem.W.kitx_bool k.kIn True.intro e (λz=>nomatch z) h
 |int i=>obtain⟨t,q⟩:=(show ∃t,u=Value.int i t from r);cases q;exact eR PySem.W.kitx_int k.kIn True.intro e (λz=>nomatch z) h
 |str y=>obtain⟨t,q⟩:=(show ∃t,u=Value.str y t from r);cases q;exact eR PySem.W.kitx_str k.kIn True.intro e (λz=>nomatch z) h
 |flt y=>obtain⟨t,q⟩:=(show ∃t,u=Value.float y t from r);cases q;exact eR PySem.W.kitx_float k.kIn True.intro e (λz=>nomatch z) h
 | @lst a xs f=>cases (show u=Value.ref a from r);obtain⟨_,_,n,_,I⟩:=(show du X.p X.w H s.heap a (.lst xs) from k.h a _ f);exact eR pU k.kIn ⟨_,I,rfl⟩ e (λz=>nomatch z) h
 | @frz a K xs f=>cases (show u=Value.ref a from r);obtain⟨_,_,_,n,_,I⟩:=(show du X.p X.w H s.heap a (.frz K (.lst xs)) from k.h a _ f);exact eR pU k.kIn ⟨_,I,rfl⟩ e (λz=>nomatch z) h
 | @tup a xs f=>cases (show u=Value.ref a from r);obtain⟨_,_,_,p⟩:=(show du X.p X.w H s.heap a (.tup xs) from k.h a _ f);obtain⟨o,I,h2,_⟩:=p;exact eR Cz k.kIn ⟨o,I,h2.1⟩ e (λz=>nomatch z) h
 | @dK a v f=>cases (show u=Value.ref a from r);obtain⟨_,_,D,_,p⟩:=(show du X.p X.w H s.heap a (.dK v) from k.h a _ f);obtain⟨o,es,g,I,h2,_⟩:=p;exact eR Cv k.kIn ⟨o,I,h2.1⟩ e (λz=>nomatch z) h
 | @dT a v f=>cases (show u=Value.ref a from r);obtain⟨_,_,xs,_,o,es,g,I,h2,_⟩:=(show du X.p X.w H s.heap a (.dT v) from k.h a _ f);exact eR Cv k.kIn ⟨o,I,h2.1⟩ e (λz=>nomatch z) h
 | @ins a C dx fs f l j F m S=>cases (show u=Value.ref a from r);obtain⟨mA,w,_⟩:=pI k.h f;obtain⟨P,d,_⟩:=w.look;exact eR (PySem.W.kitx_own (l.get _) l.hd j F m S) k.kIn d e (λz=>nomatch z) h
end
structure Room(k:Nat)(A:Around):Prop where
 hd:A.handled=none
 dp:A.depth+3 * k+5 < recursionLimit
 un:A.units+16 * k+200 < cLine
variable{k:Nat}
theorem Room.deeper(r:Room (k+1) A)(e:Env):Room k (A.deeper e):=
 ⟨r.hd,by have:=r.dp;show A.depth+1+3 * k+5 < _;lia,by have:=r.un;show A.units+3+16 * k+200 < _;lia⟩
variable{kw:List (Str×Value)}
theorem qH:(A.under (.builtin "type.__call__" ⟨.ref C::q,kw⟩)).depth=A.depth+1:=by first|rfl|simp[Around.under,Code.weight,Code.isCreation,Code.isGuard,Code.isCaller,yW,tK,guardIds]
theorem x9:(A.under (.builtin "type.__call__" ⟨.ref C::q,kw⟩)).units=A.units+1:=by first|rfl|simp[Around.under,Code.cUnits,yW,tK]
theorem Room.make(r:Room (k+1) A)(C:Addr)(q:LV)(kw:List (Str×Value)):Room k (A.under (.builtin "type.__call__" ⟨.ref C::q,kw⟩)):=
 ⟨r.hd,by have:=r.dp;rw[qH];lia,by have:=r.un;rw[x9];lia⟩
theorem Room.depth(r:Room k A):A.depth < recursionLimit:=by have:=r.dp;lia
noncomputable def Nu:TA:=λ_ H Q=>Q [] H
noncomputable def NA(ta:TE)(tr:TA):TA:=λJ H Q=>ta J H λx j=>tr J j λxs H2=>Q (x::xs) H2
section
variable{X:Cx}{e:Expr}{es:Ab}{te:TE}{t:TA}{G:Pos}
theorem jD:PA X [] Nu:=λ_ _ _ _ H Q I h=>tU ⟨[],H,I,.nil,h⟩
theorem fG(k:PE X e te)(r:PA X es t)(f:starEach (e::es) X.e=(false,eval e X.e)::starEach es X.e:=by rfl):PA X (e::es) (NA te t):=by intro G B s J H Q I h;rw[f];show wpAny _ _ (spliced ((false,eval e X.e)::backTo G (starEach es X.e))) _ _ s;refine oZ (ez (k B s J H _ I h) λu v z=>?_);obtain⟨x,j,a,m,b⟩:=z;exact ez (r G B v J j _ a b) λq d z=>by obtain⟨xs,H2,n,p,c⟩:=z;exact⟨x::xs,H2,n,.cons m p,c⟩
def Qw(t:TA):TE:=λJ H Q=>t J H λxs j=>xs.length≤sizeLine/\∀p,j p=none->Q (.ref p) (upd j p (.tup xs))
def QA(t:TA):TE:=λJ H Q=>t J H λxs j=>xs.length≤sizeLine/\∀p,j p=none->Q (.ref p) (upd j p (.lst xs))
theorem DI {i} (h:PA X es t):PE X (.Tuple es i G) (Qw t):=by intro B s J H Q I k;refine wpAny_Tuple_spliced (ez (h G B s J H _ I k) λq a c=>?_);obtain⟨xs,j,n,r,z,x⟩:=c;refine⟨by rw[<- r.length];exact z,?_⟩;have f:j a.heap.objs.size=none:=n.h.fresh (ar _);refine⟨.ref a.heap.objs.size,upd j a.heap.objs.size (.tup xs),n.laid (t':=a.toks) (λb u e=>cv _ e) (ar _) ?_,rfl,x _ f⟩;exact⟨z,q,r,q_.new _ _⟩
theorem DL(h:PA X es t):PE X (.List es G) (QA t):=by intro B s J H Q I k;refine wpAny_List_spliced (ez (h G B s J H _ I k) λq a c=>?_);obtain⟨xs,j,n,r,z,x⟩:=c;refine⟨by rw[<- r.length];exact z,?_⟩;have f:j a.heap.objs.size=none:=n.h.fresh (ar _);refine⟨.ref a.heap.objs.size,upd j a.heap.objs.size (.lst xs),n.laid (t':=a.toks) (λb u e=>cv _ e) (ar _) ?_,rfl,x _ f⟩;exact⟨z,q,0,r,gy _ rfl⟩
end
noncomputable abbrev Sp:=List V->Hp->VK->XK->Prop
noncomputable abbrev Ce:=List Env->Hp->Shared->XK->VP
structure Env0(P:Program)(w:World)(K:FG)(mg:SV)(base:Heap)(A:Around)(outer:List Env)(s:Shared)(H:Hp):Prop where
 frames:A.frames=some outer
 mod:Mod K mg base
 bs:∀b o,base.get? b=some o->s.heap.get? b=some o/\H b=none
 bsz:base.objs.size≤s.heap.objs.size
 funs:s.heap.FunFrames base outer
 frf:∀b ∈ ke outer,H b=none
 h:j7 P w H s.heap
 bare:AllBare s.gens
def CE(o:List Env)(P:Program)(w:World)(H:Hp)(s:Shared)(Q:VK)(u:Value)(s':Shared):Prop:=
 ∃v H',s'.os=s.os/\AllBare s'.gens/\Un (ke o) [] H H' s.heap s'.heap/\j7 P w H' s'.heap/\RelV v u/\Q v H'
def CR(CX:Ce)(o:List Env)(P:Program)(w:World)(H:Hp)(s:Shared)(Q:VK)(E:XK)(r:Result)(s':Shared):Prop:=
 match r with
 | .ok (.ret u)=>CE o P w H s Q u s'
 | .ok _=>False
 | .error e=>CX o H s E e s'
structure FnOk(P:Program)(w:World)(K:FG)(mg:SV)(base:Heap)(CX:Ce)(k:Nat)(f:Addr)(fd:FuncData)(ps:LS)(sp:Sp):Prop where
 len:∀vs H Q E,sp vs H Q E->vs.length=ps.length
 run:∀(A:Around)(outer:List Env)(s:Shared)(H:Hp)(args:Args)(us:LV)(vs:List V)(Q:VK)(E:XK),Room k A->Env0 P w K mg base A outer s H->BindsTo s fd args (ps.zip us)->bB vs us->sp vs H Q E ->
  codeAny (model P w) A (.call (.ref f) args) (CR CX outer P w H s Q E) s
theorem FnOk.imp(F:FnOk P w K mg base CX k f fd ps sp)
  (h:∀v H Q E,i v H Q E->sp v H Q E):FnOk P w K mg base CX k f fd ps i:=
 ⟨λv H Q E x=>F.len v H Q E (h _ _ _ _ x),λA o s H a q v Q E r e b c n=>F.run A o s H a q v Q E r e b c (h _ _ _ _ n)⟩
theorem Env0.make(e:Env0 P w K mg base A i s H)(C:Addr)(q:LV)(kw:List (Str×Value)) :
  Env0 P w K mg base (A.under (.builtin "type.__call__" ⟨.ref C::q,kw⟩)) i s H:=⟨by first|exact e.frames|(simpa[Around.under,Code.envs,tK,pushEnvs] using e.frames),e.mod,e.bs,e.bsz,e.funs,e.frf,e.h,e.bare⟩
section
variable{X:Cx}{B:PN}{J:St}{H:Hp}{s s':Shared}
theorem Inv.env0(I:Inv X B J H s):Env0 X.p X.w X.K X.g X.b X.A X.k s H:=
 ⟨I.o.frames,I.o.mod,I.bs,ce I.o.bsz I.sz,I.stack,I.stkFree,I.h,I.bare⟩
theorem Inv.after(I:Inv X B J H s)(h:CE X.k X.p X.w H s Q u s'):EP X B J Q u s':=by obtain⟨v,H',os,a,un,o,r,q⟩:=h;obtain⟨e,g,d,t,x⟩:=s';obtain rfl:x=s.os:=os;exact⟨v,H',I.call (h':=e) (g':=g) (d':=d) (t':=t) (ch:=[]) un o a (λb z=>absurd z (by simp)),r,q⟩
end
noncomputable def NB(sp:Sp)(dvs:List V)(E:XK)(t:TA):TE:=λJ H Q=>t J H λv j=>sp (v++dvs) j Q E
def Dc(C:Addr)(m:Str)(sp:Sp)(dvs:List V)(E:XK)(ta:TE)(t:TA):TE:=λJ H Q=>ta J H λx j=>∃a dx fs,x=.ref a/\j a=some (.ins C dx fs)/\fs.lookup m=none /\
 t J j λv H2=>sp (x::(v++dvs)) H2 Q E
def Nw(C:Addr)(sp:Sp)(dvs:List V)(E:XK)(t:TA):TE:=λJ H Q=>t J H λs j=>∀x dx,j x=none->j dx=none->dx≠x ->
 sp (.ref x::(s++dvs)) (upd (upd j dx (.own x)) x (.ins C dx [])) (λv H2=>v=.non/\Q (.ref x) H2) E
def Binds(K:FG)(fd:FuncData)(ps:LS)(ds:LV):Prop:=
 ∀(s:Shared)(q:LV),K.In s.heap->(q++ds).length=ps.length->BindsTo s fd ⟨q,[]⟩ (ps.zip (q++ds))
theorem Binds.all(h:∀q:LV,q.length=ps.length->bindArgs fd ⟨q,[]⟩=pure (ps.zip q)):Binds K fd ps []:=λs q _ l=>by rw[fj]at l ⊢;exact .of_eq (h q l)
def lY(CX:Ce)(X:Cx)(E:XK):Prop:=∀(B:PN)(J:St)(H:Hp)(s:Shared)(e:Value)(s':Shared),Inv X B J H s->CX X.k H s E e s'->X.xe e s'
section
variable{X:Cx}{CX:Ce}{k:Nat}{f C:Addr}{fd:FuncData}{ps:LS}{sp:Sp}{dvs:List V}{ds:LV}{E:XK}{x m:Str}{p G apos:Pos}{e o:Expr}{es:Ab}{ta:TE}{t:TA}
set_option tactic.hygienic true in
theorem xU(F:FnOk X.p X.w X.K X.g X.b CX k f fd ps sp)(c:Room k X.A)(b:Binds X.K fd ps ds)(d:bB dvs ds)(m:lY CX X E)
  (I:Inv X B J H s) (r:bB i q) (h:sp (i++dvs) H Q E):wx X (call (.ref f) q) (EP X B J Q) X.xe s:=by
 have a:bB (i++dvs) (q++ds):=r.append d;have n:(q++ds).length=ps.length:=by rw[<- a.length];exact F.len _ _ _ _ h
 refine jr (js (F.run X.A X.k s H ⟨q,[]⟩ (q++ds) (i++dvs) Q E c I.env0 (b s q I.kIn n) a h) λr s' x=>?_);cases r with
 |error e=>exact m B J H s e s' I x
 |ok l=>
  cases l with
  |ret u=>exact I.after x
  |next=>exact False.elim x
  |brk=>exact False.elim x
  |cont=>exact False.elim x
theorem uS(F:FnOk X.p X.w X.K X.g X.b CX k f fd ps sp)(i:Room k X.A)(g:Gl X x)(u:X.g x=some (.ref f))(w:gO X.K (.ref f)=true)(c:Binds X.K fd ps ds)(m:bB dvs ds)(y:lY CX X E)
  (b:PA X (e::es) t) (d:(x == ("__debug__":Str))=false:=by decide) (v:starEach (e::es) X.e=(false,eval e X.e)::starEach es X.e:=by rfl) (l:(backTo G (starEach es X.e)).any (·.1)=false:=by rfl) :
  PE X (.Call (.Name x p) (e::es) [] G) (NB sp dvs E t):=by
 intro B s J H Q I h;refine pP (lc I g u ?_ d);refine pV (h₀:=X.b) I.o.mod.kin w (ez (b G B s J H _ I h) λq o z=>?_) v l;obtain⟨S,j,n,r,a⟩:=z;refine⟨n.kIn,?_⟩;exact xU F i c m y n r a
theorem Ho(P:PE X o ta)(c:Cls X.K C)(w:Meth X.K C m f)(F:FnOk X.p X.w X.K X.g X.b CX k f fd ps sp)(A:Room k X.A)(S:Binds X.K fd ps ds)(K:bB dvs ds)(L:lY CX X E)(y:PA X (e::es) t)
  (b:starEach (e::es) X.e=(false,eval e X.e)::starEach es X.e:=by rfl) (p:(backTo G (starEach es X.e)).any (·.1)=false:=by rfl)
  (D:eval (.Call (.Attribute o m apos) (e::es) [] G) X.e=(do
   let i <- eval o X.e
   standAt apos.atName
   let (f,first) <- holding [i] (getMethod i m N)
   callWith G f first (backTo G (starEach (e::es) X.e)) (backToKw G (keywordEach [] X.e))):=by rfl) :
  PE X (.Call (.Attribute o m apos) (e::es) [] G) (Dc C m sp dvs E ta t):=by
 intro B s J H Q I h;refine tq (pl:=N) (ez (P B s J H _ I h) λu T z=>?_) D;obtain⟨x,j,v,R,a,dx,fs,ex,g,l,n⟩:=z;subst ex;obtain rfl:u=Value.ref a:=R;refine jI v g c w l ?_;refine pV (first:=[.ref a]) (h₀:=X.b) I.o.mod.kin w.kp (ez (y G B T J j _ v n) λq W z=>?_) b p;obtain⟨V,H2,d,r,M⟩:=z;refine⟨d.kIn,?_⟩;exact xU (q:=.ref a::q) (i:=.ref a::V) F A S K L d (.cons rfl r) M
theorem DJ(p:PE X o ta)(c:Cls X.K C)(b:Meth X.K C m f)(F:FnOk X.p X.w X.K X.g X.b CX k f fd ps sp)(v:Room k X.A)(t:Binds X.K fd ps ds)(d:bB dvs ds)(g:lY CX X E)
  (w:eval (.Call (.Attribute o m apos) [] [] G) X.e=(do
   let i <- eval o X.e
   standAt apos.atName
   let (f,first) <- holding [i] (getMethod i m N)
   callWith G f first (backTo G (starEach [] X.e)) (backToKw G (keywordEach [] X.e))):=by rfl) :
  PE X (.Call (.Attribute o m apos) [] [] G) (Dc C m sp dvs E ta Nu):=by
 intro B s J H Q I h;refine tq (pl:=N) (ez (p B s J H _ I h) λu S z=>?_) w;obtain⟨x,j,n,y,a,dx,fs,ex,r,l,e⟩:=z;subst ex;obtain rfl:u=Value.ref a:=y;refine jI n r c b l ?_;exact CC (first:=[.ref a]) n.kIn b.kp (xU (q:=[.ref a]) (i:=[.ref a]) F v t d g n (.cons rfl .nil) e)
structure Mk(K:FG)(C f:Addr):Prop where
 makes:Cs K C=true
 init:d_ K (.ref C) "__init__"=some (some (.ref f))
 fn:xm K (.ref f)=true
 kp:gO K (.ref C)=true
set_option tactic.hygienic true in
theorem Dt(M:Mk X.K C f)(F:FnOk X.p X.w X.K X.g X.b CX k f fd ps sp)(g:Room (k+1) X.A)(p:Binds X.K fd ps ds)(d:bB dvs ds)
  (j:lY CX X E) (I:Inv X B J H s) (r:bB i q)
  (h:∀x dx,H x=none->H dx=none->dx≠x->sp (.ref x::(i++dvs)) (upd (upd H dx (.own x)) x (.ins C dx [])) (λv H2=>v=.non/\Q (.ref x) H2) E) :
  wx X (call (.ref C) q) (EP X B J Q) X.xe s:=by
 have b:=h (s.heap.objs.size+1) s.heap.objs.size (I.h.fresh (uh _)) (I.h.fresh (ar _)) (cx (jx _));have n:=Inv.made (C:=C) I;have c:bB (V.ref (s.heap.objs.size+1)::(i++dvs)) (Value.ref (s.heap.objs.size+1)::(q++ds)):=.cons rfl (r.append d);have w:(Value.ref (s.heap.objs.size+1)::q++ds).length=ps.length:=by have e:=c.length;rw[F.len _ _ _ _ b]at e;exact e.symm
 refine jr (D8 (f:=f) I.kIn M.makes M.init (i0.mp M.fn) (js (F.run _ X.k _ _ ⟨Value.ref (s.heap.objs.size+1)::q,[]⟩ (Value.ref (s.heap.objs.size+1)::(q++ds)) _ _ E (g.make C q [])
  (n.env0.make C q []) (p _ (Value.ref (s.heap.objs.size+1)::q) n.kIn w) c b) λr s' a=>?_))
 cases r with
 |error e=>exact j B J _ _ e s' n a
 |ok l=>
  cases l with
  |ret u=>obtain⟨v,H',m,z,t,y⟩:=n.after a;subst t;exact⟨z,⟨V.ref (s.heap.objs.size+1),H',m,rfl,y⟩⟩
  |next=>exact False.elim a
  |brk=>exact False.elim a
  |cont=>exact False.elim a
theorem Hq(M:Mk X.K C f)(F:FnOk X.p X.w X.K X.g X.b CX k f fd ps sp)(u:Room (k+1) X.A)(g:Gl X x)(w:X.g x=some (.ref C))(c:Binds X.K fd ps ds)(m:bB dvs ds)(i:lY CX X E)
  (b:PA X (e::es) t) (d:(x == ("__debug__":Str))=false:=by decide) (v:starEach (e::es) X.e=(false,eval e X.e)::starEach es X.e:=by rfl) (l:(backTo G (starEach es X.e)).any (·.1)=false:=by rfl) :
  PE X (.Call (.Name x p) (e::es) [] G) (Nw C sp dvs E t):=by
 intro B s J H Q I h;refine pP (lc I g w ?_ d);refine pV (h₀:=X.b) I.o.mod.kin M.kp (ez (b G B s J H _ I h) λq y z=>?_) v l;obtain⟨o,j,n,r,a⟩:=z;refine⟨n.kIn,?_⟩;exact Dt M F u c m i n r a
end
section
variable{X:Cx}{CX:Ce}{k:Nat}{f C:Addr}{fd:FuncData}{ps ks:LS}{sp:Sp}{E:XK}{x m:Str}{p G apos kpos:Pos}{e o:Expr}{es:Ab}{kws:List Keyword}{te ta:TE}{t tk:TA}{nm:Option Str}
structure KBinds(K:FG)(fd:FuncData)(ps ks:LS)(g:LV->LV->LV)(gV:List V->List V->List V):Prop where
 to:∀(s:Shared)(us ws:LV),K.In s.heap->(g us ws).length=ps.length->BindsTo s fd ⟨us,ks.zip ws⟩ (ps.zip (g us ws))
 rel:∀{vs:List V}{us:LV}{zs:List V}{ws:LV},bB vs us->bB zs ws->bB (gV vs zs) (g us ws)
variable{g:LV->LV->LV}{gV:List V->List V->List V}
end
structure FnScope(N P:LS)(sc:Scope):Prop where
 kind:sc.kind=.function
 co:sc.isCoroutine=false
 gen:sc.isGenerator=false
 nd:N.Nodup
 pre:N.take P.length=P
 par:∀x ∈ P,sc.names.lookup x=some .local\/sc.names.lookup x=some .cell
 nofree:∀y ∈ sc.names,y.2≠.free
theorem sO{kindOf:Str->Option NameKind}{x:Str}:∀{b:List (Str×Value)}{m:SV},(∀v,(x,v) ∉ b)->bindL kindOf b m x=m x
 | [],_,_=>rfl
 |(n,v)::r,m,h=>by
  unfold bindL;rw[sO λw a=>h w (bn _ a)];split
  .have:x≠n:=by rintro rfl;exact h v bi
   simp[this]
  .rfl
theorem sQ{kindOf:Str->Option NameKind}{x:Str}:∀{b:List (Str×Value)}{m:SV},(∀v,(x,v) ∉ b)->bindC kindOf b m x=m x
 | [],_,_=>rfl
 |(n,v)::r,m,h=>by
  unfold bindC;rw[sQ λw a=>h w (bn _ a)];split
  .rfl
  .have:x≠n:=by rintro rfl;exact h v bi
   simp[this]
theorem sP{kindOf:Str->Option NameKind}{x:Str}{v:Value}:∀{P:LS}{s:LV}{i:Nat}{m:SV},P.Nodup->P[i]? = some x->s[i]? = some v->kindOf x=some .local ->
  bindL kindOf (P.zip s) m x=some v
 | [],_,_,_,_,h,_,_=>by simp at h
 |_::_,[],_,_,_,_,h,_=>by simp at h
 |p::P,w::s,0,m,n,I,h2,k=>by simp at I h2;subst I;subst h2;show bindL kindOf ((p,w)::P.zip s) m p=_;unfold bindL;rw[sO λv a=>(g8.mp n).1 (o9 a).1,ae k];simp
 |p::P,w::s,i+1,m,n,I,h2,k=>by show bindL kindOf ((p,w)::P.zip s) m x=_;unfold bindL;exact sP (i:=i) (g8.mp n).2 (by simpa using I) (by simpa using h2) k
theorem sR{kindOf:Str->Option NameKind}{x:Str}{v:Value}:∀{P:LS}{s:LV}{i:Nat}{m:SV},P.Nodup->P[i]? = some x->s[i]? = some v->kindOf x≠some .local ->
  bindC kindOf (P.zip s) m x=some v
 | [],_,_,_,_,h,_,_=>by simp at h
 |_::_,[],_,_,_,_,h,_=>by simp at h
 |p::P,w::s,0,m,n,I,h2,k=>by simp at I h2;subst I;subst h2;show bindC kindOf ((p,w)::P.zip s) m p=_;unfold bindC;rw[sQ λv a=>(g8.mp n).1 (o9 a).1,ai k];simp
 |p::P,w::s,i+1,m,n,I,h2,k=>by show bindC kindOf ((p,w)::P.zip s) m x=_;unfold bindC;exact sR (i:=i) (g8.mp n).2 (by simpa using I) (by simpa using h2) k
noncomputable def start(N:LS)(v:List V):St:=v.map some++List.replicate (N.length-v.length) none
noncomputable def oz(CX:Ce)(P:Program)(w:World)(K:FG)(mg:SV)(base:Heap)(N:LS)(q:Str)(h:Scope)(f:Addr)(d:Value)(A:Around)(u:List Env)(s:Shared)(H:Hp)(E:XK):Cx where
 p:=P
 w:=w
 K:=K
 g:=mg
 b:=base
 A:=A.deeper (envOfC q h s.heap.objs.size f d)
 N:=N
 z:=s
 y:=H
 e:=envOfC q h s.heap.objs.size f d
 o:=u
 k:=envOfC q h s.heap.objs.size f d::u
 ex:=[]
 c:=true
 fn:=λ_=>true
 pn:=[]
 xe:=λe s'=>wpAny (model P w) (A.deeper (envOfC q h s.heap.objs.size f d)) (leaving (envOfC q h s.heap.objs.size f d) e) (λ_ x=>CX u H s E e x) (λa x=>CX u H s E a x) s'
variable{x:Str}
theorem xc{sc:Scope}(h:sc.names.lookup x=some .cell):∃c,(cellsFrom n sc.names []).lookup x=some c:=by have q:=xy sc.names n [] (.inl h);exact yV.mp q
theorem sG{CX:Ce}{P:Program}{w:World}{K:FG}{mg:SV}{base:Heap}{N ps:LS}{l:Str}{o:Scope}{f:Addr}{D:Value}{A:Around}{t:List Env}{s M:Shared}{H:Hp}{E:XK}{q:LV}{F:List V}
  (S:FnScope N ps o) (R:A.handled=none) (d:Env0 P w K mg base A t s H) (Z:F.length=ps.length) (r:bB F q)
  (x:InCallC s s.heap.objs.size (bindL (envOfC l o s.heap.objs.size f D).kindOf (ps.zip q) λ_=>none) (cellsFrom (s.heap.objs.size+1) o.names []) (bindC (envOfC l o s.heap.objs.size f D).kindOf (ps.zip q) λ_=>none) M) :
  Inv (oz CX P w K mg base N l o f D A t s H E) [] (start N F) H M:=by
 have T:ps.length≤N.length:=by have:=dz dO S.pre;rw[dQ]at this;lia
 obtain⟨I,tk,rfl,G⟩:=x.done;have j:∀b:Addr,b ∉ (oz CX P w K mg base N l o f D A t s H E).ex:=fun b z=>absurd (show b ∈ ([]:List Addr) from z) (by simp);refine⟨⟨d.mod,S.kind,rfl,rfl,ar _,fun y z c I h2=>?_,fun y g=>?_,fun y c _ h=>?_,fun _=>R,Around.frames_deeper d.frames,.inr ⟨rfl,rfl⟩,fun b z=>absurd z (j b),d.bs,d.bsz,fun b _ _=>j b,fun b z=>absurd z (j b),d.funs,d.frf⟩,
  rfl,d.bare,Un.kept G,⟨_,x.toInCall.ns,λi y v I h2 X=>?_⟩,λy c h=>⟨_,x.cell y c h⟩,d.h.fresh (ar _),λy c h=>?_,λp B=>absurd (show p ∈ ([]:PN) from B) (by simp),d.h.kept G,?_⟩
 .exact name_of_addr x.apart (pQ I) (pQ h2)
 .have g:o.names.lookup y=some .cell\/o.names.lookup y=some .free:=g;rcases g with g|g
  .exact xc g
  .exact absurd rfl (S.nofree _ (pQ g))
 .exact uj (x.above y c (pQ h))
 .have hi:i < F.length:=by
   unfold start at h2;by_cases hi:i < F.length
   .exact hi
   .rw [iM (by simpa using hi)]at h2;rw[ue]at h2;split at h2<;>cases h2
  have Q:F[i]? = some v:=by
   unfold start at h2;rw[fF (by simpa using hi),kR]at h2;cases e:F[i]? with
   |none=>rw[e]at h2;cases h2
   |some a=>rw[e]at h2;cases h2;rfl
  obtain⟨u,L,W⟩:=r.get Q;have B:ps[i]? = some y:=by rw[<- S.pre,kX (by lia)];exact I
  have C:ps.Nodup:=by rw[<- S.pre];exact S.nd.sublist (zn _ _)
  refine⟨u,W,?_⟩;rcases S.par y (eL B) with k|k
  .exact .inl ⟨k,sP C B L k⟩
  .obtain⟨c,e⟩:=xc (n:=s.heap.objs.size+1) k;refine .inr ⟨.inl k,c,e,?_⟩;have m:=x.cell y c e;rw[sR C B L (by show o.names.lookup y≠_;rw[k];decide)]at m;exact m
 .exact d.h.fresh (uj (x.above y c (pQ h)))
 .unfold start;show _=N.length;rw[aI,eH,kW];lia
set_option tactic.hygienic true in
theorem Jn{CX:Ce}{P:Program}{w:World}{K:FG}{mg:SV}{base:Heap}{k:Nat}{f:Addr}{name l:Str}{p:Arguments}{m:List Stmt}{c:Scope}{dV kV B pm d ct oc:Value}{an od:Option Addr}
  {W:Array (OV)}{N ps:LS}{sp:Sp} (lk:K.lookup f=some ⟨oc,od,.func (lE name l p m c dV kV B pm an d ct),W⟩) (M:s0 K d l=true) (S:FnScope N ps c)
  (len:∀g H Q E,sp g H Q E->g.length=ps.length)
  (j:∀(A:Around) (a:List Env) (s:Shared) (H:Hp) (g:List V) (Q:VK) (E:XK),Room k (A.deeper (envOfC l c s.heap.objs.size f d))->sp g H Q E ->
   ∃t,iF (oz CX P w K mg base N l c f d A a s H E) m t/\t { nx:=λ_ H'=>Q .non H',rt:=Q } (start N g) H) :
  FnOk P w K mg base CX (k+1) f (lE name l p m c dV kV B pm an d ct) ps sp:=by
 refine⟨len,λA a s H args q g Q E R C hb r G=>?_⟩;have hl:=len _ _ _ _ G;have Z:K.In s.heap:=C.mod.kin.keeps λb o e=>(C.bs b o e).1;have T:s.heap.NoLimit:=C.mod.nolimit.keeps λb o e=>(C.bs b o e).1;have z:∀y ∈ ps.zip q,c.names.lookup y.1=some .local\/(c.names.lookup y.1=some .cell/\((cellsFrom (s.heap.objs.size+1) c.names []).lookup y.1).isSome=true):=λ⟨n,v⟩ hy=>by
  rcases S.par n (o9 hy).1 with h|h
  .exact .inl h
  .exact .inr ⟨h,xy _ _ _ (.inl h)⟩
 refine zZ R.depth (Z _ _ lk) rfl S.co S.gen rfl (Cy Z M) (hb _ _ _ _ ?_);refine z7 S.kind z λenv he s1 x=>?_;subst he;refine⟨T.keeps x.toInCall.keep,codeAny_func ?_⟩;obtain⟨t,ht,hq⟩:=j A a s H g Q E (R.deeper _) G;have I:Inv (oz CX P w K mg base N l c f d A a s H E) [] (start N g) H s1:=sG S R.hd C hl r x;refine bK (ht [] s1 (start N g) H _ I hq) (λfl s' F=>?_) λe s' F=>F;have D:∀{L:St}{H':Hp}{v:V}{u:Value},Inv (oz CX P w K mg base N l c f d A a s H E) [] L H' s'->RelV v u->Q v H'->CE a P w H s Q u s':=
  λ{L H' v u} i X h=>⟨v,H',i.os,i.bare,i.base,i.h,X,h⟩
 cases fl with
 |ret u=>obtain⟨v,L,H',i,X,h⟩:=F;exact D i X h
 |next=>obtain⟨L,H',i,h⟩:=F;exact D (v:=V.non) (u:=Value.none) i rfl h
 |brk=>obtain⟨_,_,_,h⟩:=F;exact False.elim h
 |cont=>obtain⟨_,_,_,h⟩:=F;exact False.elim h
section
variable{X:Cx}{x:Str}{p G:Pos}{e:Expr}{es:Ab}{t:TA}{id T:String}{r:List V->Hp->VK->Prop}
noncomputable def R_(r:List V->Hp->VK->Prop)(t:TA):TE:=λJ H Q=>t J H λv j=>r v j Q
theorem ko(c:fg X (.builtin id) r)(g:Gl X x)(m:X.g x=none)(v:bootBuiltins x=some (.builtin id))(n:PA X (e::es) t)(f:x≠"__name__":=by decide)(d:(x == ("__debug__":Str))=false:=by decide)
  (k:starEach (e::es) X.e=(false,eval e X.e)::starEach es X.e:=by rfl) (l:(backTo G (starEach es X.e)).any (·.1)=false:=by rfl):PE X (.Call (.Name x p) (e::es) [] G) (R_ r t):=by
 intro B s J H Q I h;refine pP (qJ I g m v ?_ f d);exact Gw (ez (n G B s J H _ I h) λq u z=>by obtain⟨i,j,a,w,b⟩:=z;exact c B u J j i q Q a w b) k l
theorem Bx(c:fg X (.type T) r)(g:Gl X x)(m:X.g x=none)(v:bootBuiltins x=some (.type T))(n:PA X (e::es) t)(f:x≠"__name__":=by decide)(d:(x == ("__debug__":Str))=false:=by decide)
  (k:starEach (e::es) X.e=(false,eval e X.e)::starEach es X.e:=by rfl) (l:(backTo G (starEach es X.e)).any (·.1)=false:=by rfl):PE X (.Call (.Name x p) (e::es) [] G) (R_ r t):=by
 intro B s J H Q I h;refine pP (qJ I g m v ?_ f d);exact tS (ez (n G B s J H _ I h) λq u z=>by obtain⟨i,j,a,w,b⟩:=z;exact c B u J j i q Q a w b) k l
end
end L2
set_option tactic.hygienic true
namespace HT
open PySem PyProof.Rows
section
variable{prog:Program}{w:World}{A:Around}{E:VP}{s:Shared}
theorem Iu(j:IsTup s.heap t z.toArray)(g:IsTup s.heap b i.toArray)(v:z≠[])
  (I:i=[]->Q (.ref t) s) (h2:i≠[]->Q (.ref s.heap.objs.size) { s with heap:=s.heap.push { cls:=.type "tuple",data:=.seq (z++i).toArray } })
  (k:z.length+i.length≤sizeLine):wpAny (model prog w) A (binaryOp .Add (.ref t) (.ref b)) Q E s:=by
 obtain⟨⟨cls,m,N,u⟩,o,r,n,p⟩:=id j;obtain⟨⟨f,d,data2,l⟩,h,c,q,x⟩:=id g;simp only at r p c x;subst r p c x;have e:z.toArray++i.toArray=(z++i).toArray:=by simp
 by_cases a:i=[]
 .exact ut ⟨_,o,rfl⟩ ⟨_,h,rfl⟩ ux uu tG tH (tJ _ _)
   (tuple_addW1 t b z.toArray i.toArray n q m d u l (by simpa using v) (by simp[a])) ⟨o,h,I a⟩
 .refine ut ⟨_,o,rfl⟩ ⟨_,h,rfl⟩ ux uu tG tH (tJ _ _)
   (tuple_addW2 t b z.toArray i.toArray n q m d u l (by simpa using v) (by simpa using a) (by rw[cc,cc];exact k)) ⟨o,h,?_⟩
  rw[e];exact h2 a
noncomputable def eQ(n d:Nat):Option Int->Nat
 |none=>d
 |some v=>if v < 0 then (v+(n:Int)).toNat else min v.toNat n
theorem Kf(n d:Nat)(x:d≤n)(o:Option Int):eQ n d o≤n:=by
 cases o with
 |none=>exact x
 |some v=>
  show(if v < 0 then (v+(n:Int)).toNat else min v.toNat n)≤n;by_cases h:v < 0
  .rw [ae h];lia
  .rw [ai h];exact Nat.min_le_right _ _
theorem A6(v:Int)(n d:Nat):(if v < 0 then max (v+(n:Int)) 0 else min v (n:Int))=((eQ n d (some v):Nat):Int):=by
 show(if v < 0 then max (v+(n:Int)) 0 else min v (n:Int))=(((if v < 0 then (v+(n:Int)).toNat else min v.toNat n):Nat):Int);by_cases h:v < 0
 .simp only[ae h];lia
 .simp only[ai h];lia
theorem yu(lo hi:Option Int)(n:Nat):tD lo hi 1 (n:Int)=(((eQ n 0 lo:Nat):Int),((eQ n n hi:Nat):Int)):=by
 have I:¬((1:Int) < 0):=by lia
 unfold tD;simp only[I,ig];refine Prod.ext ?_ ?_
 .cases lo with
  |none=>rfl
  |some v=>exact A6 v n 0
 .cases hi with
  |none=>rfl
  |some v=>exact A6 v n n
theorem xX(i j:Nat):oN (i:Int) (j:Int) 1=j-i:=by
 unfold oN;have I:(1:Int) > 0:=by lia
 simp only[I,fW,Int.ediv_one];split<;>lia
theorem qw(p:IsPart v o)(h:Q o s):wpAny (model prog w) A (FU v) Q E s:=by
 cases p with
 |none=>exact y9 h
 |int i t=>exact slicePart_int h
theorem jk{l:Addr}{v u:Value}{lo hi:Option Int}{n:Nat}{Q:Int×Int×Nat->Shared->Prop}(a:s.heap.IsSliceOf l v u .none)(p:IsPart v lo)(e:IsPart u hi)
  (h:Q (((eQ n 0 lo:Nat):Int),1,eQ n n hi-eQ n 0 lo) s):wpAny (model prog w) A (yB (.ref l) (pure (n:Int))) Q E s:=by
 obtain⟨os,o,c,d⟩:=id a;unfold yB FT;refine ak (ak (ur o d (x:=v) rfl (ak (ur o d (x:=u) rfl (ak (ur o d (x:=.none) rfl (aP ?_)))))));refine ak (y9 ?_);show wpAny _ _ (if ((1:Int) == 0)=true then _ else _) _ _ s;rw[ai (by decide)];refine ak (qw p (ak (qw e (ak (aP ?_)))));show wpAny _ _ (match tD lo hi 1 (n:Int) with|(lo,hi)=>pure (lo,(1:Int),oN lo hi 1)) _ _ s;rw[yu lo hi n];show wpAny _ _ (pure (((eQ n 0 lo:Nat):Int),(1:Int),oN ((eQ n 0 lo:Nat):Int) ((eQ n n hi:Nat):Int) 1)) _ _ s;rw[xX];exact aP h
theorem DG(xs:Array Value)(i k:Nat):((List.range k).filterMap λ(m:Nat)=>xs[((i:Int)+(m:Int) * 1).toNat]?).toArray=((xs.toList.drop i).take k).toArray:=by
 have e:(λ(m:Nat)=>xs[((i:Int)+(m:Int) * 1).toNat]?)=λm=>xs[i+m]?:=by
  funext m;have:((i:Int)+(m:Int) * 1).toNat=i+m:=by lia
  rw[this]
 rw[e];have:=pick_run xs i k
 rw[List.filterMap_map]at this;have h:((λx=>xs[x]?) ∘ λx=>i+x)=λm=>xs[i+m]?:=rfl;rw[h]at this;rw[this]
theorem mI{t l:Addr}{i:Array Value}{v u:Value}{lo hi:Option Int}{Q:VP}(x:IsTup s.heap t i)(e:s.heap.IsSliceOf l v u .none)(p:IsPart v lo)(f:IsPart u hi)
  (k:¬(eQ i.size 0 lo=0/\eQ i.size i.size hi=i.size))
  (h:Q (.ref s.heap.objs.size) { s with heap:=s.heap.push { cls:=.type "tuple",data:=.seq ((i.toList.drop (eQ i.size 0 lo)).take (eQ i.size i.size hi-eQ i.size 0 lo)).toArray } })
  (z:i.size≤sizeLine):wpAny (model prog w) A (getItem (.ref t) (.ref l)) Q E s:=by
 have a:sizeOk (.seq ((i.toList.drop (eQ i.size 0 lo)).take (eQ i.size i.size hi-eQ i.size 0 lo)).toArray):=by show((i.toList.drop (eQ i.size 0 lo)).take (eQ i.size i.size hi-eQ i.size 0 lo)).toArray.size≤sizeLine;rw[cc,dQ,gB,tZ];lia
 have j:eQ i.size i.size hi≤i.size:=Kf _ _ (ar _) hi;obtain⟨os,o,c,d⟩:=id e;have T:s.TypeIs (.ref l) "slice":=⟨os,o,c⟩;unfold getItem;try with_reducible refine iZ ?_
 first|refine ak (aP ?_)|skip
 refine ak (zU x.typeIs (by decide) ?_);refine ak (z5 (name:=Str.ofString "__getitem__") x.typeIs ju
  (zM ju x.typeIs y' ?_ (y_ _ _)))
 show wpAny _ _ (yA (.ref t) >>= _) _ _ s;refine ak (y7 x ?_);refine ak (pv T ?_);rw[ae (by decide)];refine ak (jk e p f ?_);have n:¬((((eQ i.size 0 lo:Nat):Int) == 0 && (1:Int) == 1 && (eQ i.size i.size hi-eQ i.size 0 lo) == i.size)=true):=by intro q;rw[aE,aE]at q;have b:((eQ i.size 0 lo:Nat):Int)=0:=eq_of_beq q.1.1;have r:eQ i.size i.size hi-eQ i.size 0 lo=i.size:=eq_of_beq q.2;exact k ⟨by lia,by lia⟩
 show wpAny _ _ (if (((eQ i.size 0 lo:Nat):Int) == 0 && (1:Int) == 1 && (eQ i.size i.size hi-eQ i.size 0 lo) == i.size)=true then _ else _) _ _ s;rw[ai n,DG];first
  |exact ak (m:=oM _) (pN (aP ⟨_,rfl,aP h⟩) a)
  |exact ak (m:=oM _) (pN (ak (aP (aP ⟨_,rfl,aP h⟩))) a)
  |exact ak (ak (m:=oM _) (pN (aP (aP ⟨_,rfl,aP h⟩)) a))
  |exact ak (ak (m:=oM _) (pN (aP ⟨_,rfl,aP h⟩) a))
end
end HT
set_option tactic.hygienic false
namespace L2
open PySem PySem.Spec PyProof.Rows
noncomputable abbrev TO:=St->Hp->(Option Int->Hp->Prop)->Prop
def PO(X:Cx)(e:Option Expr)(t:TO):Prop:=
 ∀(B:PN)(s:Shared)(J:St)(H:Hp)(Q:Option Int->Hp->Prop),Inv X B J H s->t J H Q ->
  wx X (evalPart e X.e) (λu s'=>∃o H',Inv X B J H' s'/\IsPart u o/\Q o H') X.xe s
noncomputable def GZ:TO:=λ_ H Q=>Q none H
noncomputable def Nr(t:TE):TO:=λJ H Q=>t J H λx j=>∃i,x=.int i/\Q (some i) j
section
variable{X:Cx}{e:Expr}{te:TE}{lo hi:Option Expr}{tl th:TO}{G p2:Pos}
theorem Hl:PO X none GZ:=by intro B s J H Q I h;rw[zI];exact aP ⟨none,H,I,.none,h⟩
theorem Hk(h:PE X e te):PO X (some e) (Nr te):=by
 intro B s J H Q I w;rw[evalPart_some];refine ez (h B s J H _ I w) λu k z=>?_
 obtain⟨x,j,a,r,n⟩:=z;obtain⟨i,rfl,q⟩:=n;obtain⟨t,rfl⟩:=r;exact⟨some i,j,a,.int i t,q⟩
def IL(X:Cx)(r:V->Option Int->Option Int->Hp->VK->Prop):Prop:=
 ∀(B:PN)(s:Shared)(J:St)(H:Hp)(x:V)(v h u:Value)(lo hi:Option Int)(l:Addr)(Q:VK),Inv X B J H s->RelV x v->s.heap.IsSliceOf l h u .none->IsPart h lo->IsPart u hi->r x lo hi H Q ->
  ∃T id,typeLookup (.type T) "__getitem__"=pure (some (.builtin id))/\s.TypeIs v T/\wx X (getItem v (.ref l)) (EP X B J Q) X.xe s
theorem IL.or(h:IL X r)(h':IL X i):IL X (λx lo hi H Q=>r x lo hi H Q\/i x lo hi H Q):=by
 intro B s J H x v n k lo hi l Q I e a p u q;rcases q with q|q
 .exact h B s J H x v n k lo hi l Q I e a p u q
 .exact h' B s J H x v n k lo hi l Q I e a p u q
noncomputable def Tc(r:V->Option Int->Option Int->Hp->VK->Prop)(te:TE)(tl th:TO):TE:=λJ H Q=>te J H λx j=>tl J j λl H2=>th J H2 λu h=>r x l u h Q
theorem wj(y:IL X r)(w:PE X e te)(i:PO X lo tl)(S:PO X hi th):PE X (.Subscript e (.Slice lo hi none p2) G) (Tc r te tl th):=by
 intro B s J H Q I h;refine Subscript_ (ez (w B s J H _ I h) λv E z=>?_);obtain⟨x,j,c,D,P⟩:=z;refine wpAny_Slice (ez (i B E J j _ c P) λn L ⟨l,H2,m,F,A⟩=>ez (S B L J H2 _ m A) λk a z=>?_);obtain⟨u,f,t,K,C⟩:=z;rw[zI];refine aP ?_;have p:Inv X B J f { a with heap:=a.heap.push { cls:=.type "slice",data:=.fields #[n,k,.none] } }:=t.kept (t':=a.toks) λb M q=>cv _ q
 obtain⟨T,id,d,o,g⟩:=y B { a with heap:=a.heap.push { cls:=.type "slice",data:=.fields #[n,k,.none] } } J f x v n k l u a.heap.objs.size Q p D (Heap.IsSliceOf.new ..) F K C;show wx X (subscriptTail e (.Slice lo hi none p2) v (.ref a.heap.objs.size)) (EP X B J Q) X.xe { a with heap:=a.heap.push { cls:=.type "slice",data:=.fields #[n,k,.none] } };exact oY (ops:=[.ref a.heap.objs.size,v]) o d g (by with_unfolding_all rfl)
def rS(xs:List V)(lo hi:Option Int):List V:=(xs.drop (HT.eQ xs.length 0 lo)).take (HT.eQ xs.length xs.length hi-HT.eQ xs.length 0 lo)
theorem n0(xs:List V)(lo hi:Option Int):(rS xs lo hi).length≤xs.length:=by unfold rS;rw[dQ,gB];lia
def QO(K:FG):V->Option Int->Option Int->Hp->VK->Prop:=λx lo hi H Q=>∃a xs,x=.ref a/\sS K H a xs /\
 ¬(HT.eQ xs.length 0 lo=0/\HT.eQ xs.length xs.length hi=xs.length)/\∀p,H p=none->Q (.ref p) (upd H p (.tup (rS xs lo hi)))
theorem Di:IL X (QO X.K):=by
 intro B s J H x v m d lo hi c Q I k e p u h;obtain⟨a,xs,rfl,n,w,q⟩:=h;cases k;obtain⟨i,r,t,z⟩:=I.tuple n;have l:i.toArray.size=xs.length:=by rw[cc];exact r.length.symm
 refine⟨"tuple",_,ju.lookup,t.typeIs,?_⟩;refine HT.mI t e p u (by rw[l];exact w) ?_ (by rw[l];exact z);rw[l];refine⟨.ref s.heap.objs.size,_,I.laid (t':=s.toks) (o:=.tup (rS xs lo hi)) (λb f q=>cv _ q) (ar _) ?_,rfl,q _ (I.h.fresh (ar _))⟩;exact⟨ce (n0 xs lo hi) z,_,(r.drop (HT.eQ xs.length 0 lo)).take (HT.eQ xs.length xs.length hi-HT.eQ xs.length 0 lo),q_.new _ _⟩
def NN(K:FG):R2:=λx y H Q=>∃a b xs ys,x=.ref a/\y=.ref b/\sS K H a xs/\sS K H b ys/\xs≠[]/\xs.length+ys.length≤sizeLine /\
 (ys=[]->Q (.ref a) H)/\(ys≠[]->∀p,H p=none->Q (.ref p) (upd H p (.tup (xs++ys))))
theorem bB.nil_iff(r:bB xs q):q=[]↔xs=[]:=by
 cases r with
 |nil=>simp
 |cons _ _=>simp
theorem Hv:kc X (binaryOp .Add) (NN X.K):=by intro B s J H x y v u Q I g j h;obtain⟨a,b,xs,ys,rfl,rfl,k,f,c,n,m,d⟩:=h;cases g;cases j;obtain⟨t,e,p,_⟩:=I.tuple k;obtain⟨i,r,p2,_⟩:=I.tuple f;refine HT.Iu p p2 (λz=>c (e.nil_iff.mp z)) (λz=>⟨.ref a,H,I,rfl,m (r.nil_iff.mp z)⟩) (λz=>?_) (by rw[<- e.length,<- r.length];exact n);refine⟨.ref s.heap.objs.size,_,I.laid (t':=s.toks) (o:=.tup (xs++ys)) (λb l q=>cv _ q) (ar _) ?_,rfl,d (λw=>z (r.nil_iff.mpr w)) _ (I.h.fresh (ar _))⟩;exact⟨by rw[aI];exact n,_,e.append r,q_.new _ _⟩
end
noncomputable def Cg(n:Nat)(i:Int):Option Nat:=if 0≤i then (if i < n then some i.toNat else none) else if -(n:Int)≤i then some (i+n).toNat else none
variable{α:Type}
def atI(xs:List α)(i:Int):Option α:=(Cg xs.length i).bind λj=>xs[j]?
variable{n:Nat}
theorem HM{i:Int}(h:Cg n i=some z):seqIndex? i n=some z/\z < n/\-(n:Int)≤i/\i < n:=by
 unfold Cg at h;by_cases x:0≤i
 .rw [ae x]at h;by_cases I:i < n
  .rw [ae I]at h;have e:i.toNat=z:=jv h;exact⟨by rw[seqIndex_of x I,e],by lia,by lia,I⟩
  .rw [ai I]at h;cases h
 .rw [ai x]at h;by_cases I:-(n:Int)≤i
  .rw [ae I]at h;have e:(i+n).toNat=z:=jv h;exact⟨by rw[seqIndex_neg (by lia) I,e],by lia,I,by lia⟩
  .rw [ai I]at h;cases h
theorem vH{i:Int}(h:atI xs i=some v):∃j,seqIndex? i xs.length=some j/\xs[j]? = some v/\j < xs.length/\-(xs.length:Int)≤i/\i < xs.length:=by
 unfold atI at h;cases e:Cg xs.length i with
 |none=>rw[e]at h;cases h
 |some j=>rw[e]at h;obtain⟨I,h2,x,a⟩:=HM e;exact⟨j,I,h,h2,x,a⟩
def nh(b:Expr):Prop:=∀o i,subscripted b false o i=operate [o,i] (getItem o i)
def FH(X:Cx)(r:R2):Prop:=
 ∀(value l:Expr)(B:PN)(s:Shared)(J:St)(H:Hp)(x y:V)(v u:Value)(Q:VK),Inv X B J H s->RelV x v->RelV y u->r x y H Q ->
  subscripted l false v u=operate [v,u] (getItem v u)->wx X (subscriptTail value l v u) (EP X B J Q) X.xe s
def Ss(X:Cx)(id:String)(r:V->List V->Hp->VK->Prop):Prop:=
 ∀(B:PN)(s:Shared)(J:St)(H:Hp)(x:V)(xs:List V)(v:Value)(q:LV)(Q:VK),Inv X B J H s->RelV x v->bB xs q->r x xs H Q ->
  wx X (call (.builtin id) (v::q)) (EP X B J Q) X.xe s
section
variable{X:Cx}{a b:Expr}{ta tb:TE}{G:Pos}
theorem FH.or(h:FH X r)(h':FH X i):FH X (λx y H Q=>r x y H Q\/i x y H Q):=by
 intro value l B s J H x y v u Q I e n q a;rcases q with q|q
 .exact h value l B s J H x y v u Q I e n q a
 .exact h' value l B s J H x y v u Q I e n q a
theorem DM(f:FH X r)(n:PE X a ta)(k:PE X b tb)(c:nh b):PE X (.Subscript a b G) (JZ r ta tb):=by intro B s J H Q I h;exact Subscript_ (L8 n k I h λv u p x y H2 e m t q=>f a b B p J H2 x y v u Q e m t q (c _ _))
def QU(K:FG):R2:=λx y H Q=>∃p xs i v,x=.ref p/\y=.int i/\j6 K H p xs/\atI xs i=some v/\Q v H
def QS(K:FG):R2:=λx y H Q=>∃p xs i v,x=.ref p/\y=.int i/\sS K H p xs/\atI xs i=some v/\Q v H
def QT:R2:=λx y H Q=>∃z i c,x=.str z/\y=.int i/\z.length≤sizeLine/\atI z.cps.toList i=some c/\Q (.str ⟨#[c]⟩) H
theorem u6:FH X (QU X.K):=by
 intro value c B s J H x y v u Q a P A h d;obtain⟨p,xs,i,z,rfl,rfl,K,S,q⟩:=h;cases P;obtain⟨t,rfl⟩:=A;obtain⟨n,r,l,E⟩:=a.list K;obtain⟨j,I,h2,C,g,o⟩:=vH S;obtain⟨w,b,k⟩:=r.get h2;have F:=r.length;have D:=lM;have f:EP X B J Q w s:=⟨z,H,a,k,q⟩;by_cases m:0≤i
 .have e:i.toNat=j:=by
   rw[seqIndex_of m o]at I;exact jv I
  exact item_listR l.isList m (by lia) (by rw[e];simpa using b) f d
 .have e:(i+(n.toArray.size:Int)).toNat=j:=by
   rw[seqIndex_neg (by lia) g]at I;rw[cc,<- F];exact jv I
  exact zb (x:=w) l.isList.typeIs zR.lookup
   (wpAny_getItem_list_neg (Q:=λr s'=>r=w/\EP X B J Q r s') l.isList (by lia) (by rw[cc]<;>lia) (by lia) (by rw[e];simpa using b) ⟨rfl,f⟩) d
theorem Ej:FH X (QS X.K):=by
 intro value l B s J H x y v u Q a o S h d;obtain⟨p,xs,i,z,rfl,rfl,m,b,q⟩:=h;cases o;obtain⟨t,rfl⟩:=S;obtain⟨g,r,n,C⟩:=a.tuple m;obtain⟨j,I,h2,F,K,P⟩:=vH b;obtain⟨w,k,e⟩:=r.get h2;have c:=r.length;have A:=lM;have f:EP X B J Q w s:=⟨z,H,a,e,q⟩;exact zb (x:=w) n.typeIs ju.lookup
  (getItem_tuple (j:=j) (Q:=λr s'=>r=w/\EP X B J Q r s') n (by lia) (by lia) (by rw[cc,<- c];exact I) (by simpa using k) ⟨rfl,f⟩) d
theorem Lh:FH X QT:=by
 intro value l B s J H x y v u Q a p d h r;obtain⟨z,i,c,rfl,rfl,o,b,q⟩:=h;obtain⟨t,rfl⟩:=p;obtain⟨S,rfl⟩:=d;obtain⟨j,I,h2,w,k,f⟩:=vH b;have m:z.cps.toList.length=z.length:=by simp[kO]
 rw[m]at I k f;have g:=lM;exact oY (uo s z t) slot_str_getitem.lookup (getItem_str (c:=c) (by have e:decide (i < -(2 ^ 63:Int))=false:=cT (by lia);have n:decide (i ≥ 2 ^ 63)=false:=cT (by lia);rw[e,n,oS]) (by rw[I];simpa using h2) ⟨.str ⟨#[c]⟩,H,a.tok _,⟨_,rfl⟩,q⟩) r
theorem uN(lo hi:Option Int)(n:Nat):(sliceBounds lo hi none n).1=((HT.eQ n 0 lo:Nat):Int)/\(sliceBounds lo hi none n).2.1=((HT.eQ n n hi:Nat):Int)/\(sliceBounds lo hi none n).2.2=1:=by
 refine⟨?_,?_,rfl⟩
 .cases lo with
  |none=>simp[sliceBounds,HT.eQ]
  |some i=>
   simp only[sliceBounds,HT.eQ,yS,show(1:Int) > 0 by decide,fW];by_cases h:i < 0
   .simp only[h,fW]<;>lia
   .simp only[h,ig]<;>lia
 .cases hi with
  |none=>simp[sliceBounds,HT.eQ]
  |some i=>
   simp only[sliceBounds,HT.eQ,yS,show(1:Int) > 0 by decide,fW];by_cases h:i < 0
   .simp only[h,fW]<;>lia
   .simp only[h,ig]<;>lia
theorem rA(i:LV)(lo hi:Option Int):slicePick i.toArray lo hi none=((i.drop (HT.eQ i.length 0 lo)).take (HT.eQ i.length i.length hi-HT.eQ i.length 0 lo)).toArray:=by obtain⟨I,h2,h⟩:=uN lo hi i.toArray.size;unfold slicePick;rw[I,h2,h];simp only[sliceRange_one,pick_run,cc]<;>rfl
def QP(K:FG):V->Option Int->Option Int->Hp->VK->Prop:=λx lo hi H Q=>∃a xs,x=.ref a/\j6 K H a xs/\∀p,H p=none->Q (.ref p) (upd H p (.lst (rS xs lo hi)))
theorem Ao:IL X (QP X.K):=by intro B s J H x v m d lo hi c Q I k e p u h;obtain⟨a,xs,rfl,n,q⟩:=h;cases k;obtain⟨i,r,t,z⟩:=I.list n;have l:=r.length;refine⟨"list",_,zR.lookup,t.isList.typeIs,?_⟩;refine wpAny_getItem_list_slice t.isList e p u .none (by simp) ?_ (by rw[cc]<;>lia);rw[rA,<- l];refine⟨.ref s.heap.objs.size,_,I.laid (t':=s.toks) (o:=.lst (rS xs lo hi)) (λb f q=>cv _ q) (ar _) ?_,rfl,q _ (I.h.fresh (ar _))⟩;exact⟨ce (n0 xs lo hi) z,_,0,(r.drop (HT.eQ xs.length 0 lo)).take (HT.eQ xs.length xs.length hi-HT.eQ xs.length 0 lo),gy _ rfl⟩
theorem vD:fg X (.builtin "len") (λxs H Q=>∃p ys,xs=[.ref p]/\(j6 X.K H p ys\/sS X.K H p ys)/\Q (.int ys.length) H):=by
 intro B s J H xs q Q I r h;obtain⟨p,ys,rfl,a,x⟩:=h;obtain⟨u,rfl,k⟩:=vals1 r;cases k;have f:=lM;rcases a with a|a
 .obtain⟨i,n,e,z⟩:=I.list a;have l:=n.length;exact Calls.call_len_list e.isList (by simp only[cc]<;>lia) ⟨.int ys.length,H,I.tok _,⟨s.toks+1,by rw[cc,l]⟩,x⟩
 .obtain⟨i,n,e,z⟩:=I.tuple a;have l:=n.length;exact len_tuple e (by simp only[cc]<;>lia) ⟨.int ys.length,H,I.tok _,⟨s.toks+1,by rw[cc,l]⟩,x⟩
theorem vA:fg X (.builtin "len") (λxs H Q=>∃z,xs=[.str z]/\z.length≤sizeLine/\Q (.int z.length) H):=by intro B s J H xs q Q I r h;obtain⟨z,rfl,a,x⟩:=h;obtain⟨u,rfl,t,rfl⟩:=vals1 r;have n:=lM;exact len_str (by lia) ⟨.int z.length,H,I.tok _,⟨_,rfl⟩,x⟩
theorem fg.or(h:fg X f r)(h':fg X f i):fg X f (λxs H Q=>r xs H Q\/i xs H Q):=by
 intro B s J H xs q Q I a x;rcases x with x|x
 .exact h B s J H xs q Q I a x
 .exact h' B s J H xs q Q I a x
def tyV(K:FG)(T:String)(x:V)(H:Hp):Prop:=match x with
 | .str _=>T="str"
 | .int _=>T="int"
 | .ref p=>(T="list"/\∃xs,j6 K H p xs)\/(T="tuple"/\∃o,K.lookup p=some o/\o.cls=.type "tuple"/\o.dict=none) \/
   (T="dict"/\((∃k,H p=some (.dK k))\/∃k,H p=some (.dT k)))\/(T="set"/\∃S n,H p=some (.set S n))
 |_=>False
theorem C1(I:Inv X B J H s)(r:RelV x v)(ty:tyV X.K T x H) :
  s.TypeIs v T/\∀a,v=.ref a->∃b,s.heap.get? a=some b/\b.dict=none:=by
 cases x with
 |str z=>obtain⟨t,rfl⟩:=r;cases (show T="str" from ty);exact⟨uo s z t,λ_ e=>nomatch e⟩
 |int i=>obtain⟨t,rfl⟩:=r;cases (show T="int" from ty);exact⟨mj s i t,λ_ e=>nomatch e⟩
 |ref p=>
  cases r;rcases ty with ⟨rfl,xs,q⟩|⟨rfl,o,h,m,d⟩|⟨rfl,h⟩|⟨rfl,S,n,h⟩
  .obtain⟨w,_,l,_⟩:=I.list q;refine⟨l.isList.typeIs,λa e=>?_⟩;cases e;obtain⟨o,n,e,c,d,_⟩:=l;exact⟨o,e,d⟩
  .refine⟨⟨o,I.kIn p o h,m⟩,λa e=>?_⟩;cases e;exact⟨o,I.kIn _ o h,d⟩
  .have z:∃o,s.heap.get? p=some o/\o.ExactDict:=by
    rcases h with ⟨f,h⟩|⟨f,h⟩
    .obtain⟨_,_,_,_,o,_,_,e,ex,_⟩:=I.h p _ h;exact⟨o,e,ex⟩
    .obtain⟨_,_,_,_,o,_,_,e,ex,_⟩:=I.h p _ h;exact⟨o,e,ex⟩
   obtain⟨o,e,ex⟩:=z;refine⟨⟨o,e,ex.1⟩,λa k=>?_⟩;cases k;exact⟨o,e,ex.2.1⟩
  .obtain⟨o,_,_,_,e,ex,_⟩:=I.h p _ h;refine⟨⟨o,e,ex.1⟩,λa k=>?_⟩;cases k;exact⟨o,e,ex.2.1⟩
 |_=>exact False.elim ty
noncomputable def QF(K:FG)(T:String)(r:V->List V->Hp->VK->Prop)(to:TE):TE:=λJ H Q=>to J H λx j=>tyV K T x j/\r x [] j Q
noncomputable def Tf(K:FG)(T:String)(r:V->List V->Hp->VK->Prop)(to:TE)(t:TA):TE:=λJ H Q=>to J H λx j=>tyV K T x j/\t J j λxs H2=>r x xs H2 Q
variable{o e:Expr}{es:Ab}{to:TE}{t:TA}{name:Str}{apos cpos:Pos}{T id:String}{r:V->List V->Hp->VK->Prop}
theorem Kz(p:PlainAttrs T)(slot:Slot T name id)(t:typeOf (.builtin id)=pure (.type "method_descriptor"))(m:Ss X id r)(k:PE X o to)
  (b:attributeBase o name X.e (eval o X.e)=eval o X.e:=by rfl) (l:(apos.endLine == cpos.line)=true:=by rfl):PE X (.Call (.Attribute o name apos) [] [] cpos) (QF X.K T r to):=by
 intro B s J H Q a h;refine wpAny_Call_method0_late b l (ez (k B s J H _ a h) λv f z=>?_);obtain⟨x,j,e,n,ty,q⟩:=z;obtain⟨I,h2⟩:=C1 e n ty;exact⟨T,id,p,slot,t,I,h2,tY rfl (PySem.evalArgs_none (m B f J j x [] v [] Q e n .nil q))⟩
theorem NU(g:PlainAttrs T)(slot:Slot T name id)(y:typeOf (.builtin id)=pure (.type "method_descriptor"))(d:Ss X id r)(w:PE X o to)(m:PA X (e::es) t)
  (b:attributeBase o name X.e (eval o X.e)=eval o X.e:=by rfl)
  (f:((backTo cpos (starEach (e::es) X.e)).all (fun x=>!x.1) && (backToKw cpos (keywordEach [] X.e)).all (fun x=>x.1.isSome)
   && decide ((e::es).length+([]:List Keyword).length+(if ([]:List Keyword).isEmpty then 0 else 1) < 30))=true:=by rfl)
  (l:(apos.endLine == cpos.line)=true:=by rfl) (u:starEach (e::es) X.e=(false,eval e X.e)::starEach es X.e:=by rfl) (p:(backTo cpos (starEach es X.e)).any (·.1)=false:=by rfl) :
  PE X (.Call (.Attribute o name apos) (e::es) [] cpos) (Tf X.K T r to t):=by
 intro B s J H Q a h;refine wpAny_Call_method_late b f l rfl (ez (w B s J H _ a h) λv K z=>?_);obtain⟨x,j,n,k,ty,i⟩:=z;obtain⟨I,h2⟩:=C1 n k ty;refine⟨T,id,g,slot,y,I,h2,?_⟩;have A:=m cpos B K J j _ n i;rw[u]at A ⊢;refine tY (by show(false ||(backTo cpos (starEach es X.e)).any (·.1))=false;rw[p]<;>rfl) (tW ?_);exact ez A λq P z=>by obtain⟨C,H2,c,F,S⟩:=z;exact d B P J H2 x C v q Q c k F S
end
def Su(X:Cx)(id:String)(r:V->List V->Hp->VK->Prop):Prop:=
 ∀(B:PN)(s:Shared)(J:St)(H:Hp)(x:V)(xs:List V)(v:Value)(q:LV)(Q:VK),Inv X B J H s->RelV x v->bB xs q->r x xs H Q ->
  wx X (call (.builtin id) (v::q)) (EP X B J Q) X.xe s
theorem bB.one:∀{x:V}{q:LV},bB [x] q->∃u,q=[u]/\RelV x u
 |_,_,.cons r .nil=>⟨_,rfl,r⟩
theorem bB.zero:∀{q:LV},bB [] q->q=[]
 |_,.nil=>rfl
variable{xs:List V}{q:LV}
theorem bB.dropLast(h:bB xs q):bB xs.dropLast q.dropLast:=by
 induction h with
 |nil=>exact .nil
 |cons r t i=>
  cases t with
  |nil=>exact .nil
  |cons x a=>exact .cons r i
theorem bB.rep(h:bB xs q):∀k:Nat,bB (List.replicate k xs).flatten (List.replicate k q).flatten
 |0=>.nil
 |k+1=>by rw[dR,dR,gC,gC];exact bB.append h (bB.rep h k)
theorem yj(l:List α):l.eraseIdx (l.length-1)=l.dropLast:=by
 induction l with
 |nil=>rfl
 |cons a r i=>
  cases r with
  |nil=>rfl
  |cons b r=>
   have e:(a::b::r).length-1=((b::r).length-1)+1:=by have I:(a::b::r).length=r.length+2:=rfl;have h2:(b::r).length=r.length+1:=rfl;lia
   rw[e,List.eraseIdx_cons_succ,i];all_goals rfl
theorem foldl_rep(i:LV):∀(k:Nat)(a:LV),
  o0 (λx s=>x++s) a.toArray (List.replicate k i.toArray)=(a++(List.replicate k i).flatten).toArray
 |0,a=>by simp
 |k+1,a=>by
  have e:a.toArray++i.toArray=(a++i).toArray:=by simp
  have h:(a++i)++(List.replicate k i).flatten=a++(List.replicate (k+1) i).flatten:=by rw[dR,gC,c_]
  rw[<- h,<- foldl_rep i k (a++i),<- e,dR,iK]
section
variable{X:Cx}{B:PN}{J:St}{H:Hp}{s:Shared}{l b:Addr}{xs ys zs:List V}
theorem Inv.lset{t:LV}{c:Nat}(I:Inv X B J H s)(h:H l=some (.lst xs))
  (e:s.heap.get? l=some { cls:=.type "list",data:=.seq t.toArray n }) (a:f t.toArray=i.toArray) (v:bB ys i) (z:ys.length≤sizeLine) :
  Inv X B J (upd H l (.lst ys)) { s with heap:=s.heap.update l (Obj.mapSeq f),toks:=c }:=by
 have q:=PySem.IsL.update e f;rw[a]at q;refine I.write (x:=l) (e:=l) (by rw[h];exact trivial) (.inl rfl) (λm u b k=>(uf s.heap (Obj.mapSeq f) (cI b)).trans k) ⟨_,q⟩ ?_;exact⟨z,i,_,v,q⟩
theorem Inv.lnew{t:Nat}(I:Inv X B J H s)(h:bB ys i)(z:ys.length≤sizeLine) :
  Inv X B J (upd H s.heap.objs.size (.lst ys)) { s with heap:=s.heap.push { cls:=.type "list",data:=.seq i.toArray },toks:=t }:=
 I.laid (λ_ _ q=>cv _ q) (ar _) ⟨z,i,0,h,gy _ rfl⟩
theorem Inv.fresh(I:Inv X B J H s):H s.heap.objs.size=none:=I.h.fresh (ar _)
theorem Inv.lstM(I:Inv X B J H s)(h:H l=some (.lst xs)):xs.length≤sizeLine/\∃(i:LV)(n:Nat),bB xs i/\xs.length=i.length/\s.heap.get? l=some { cls:=.type "list",data:=.seq i.toArray n }:=by obtain⟨z,i,n,r,e⟩:=I.h l _ h;exact⟨z,i,n,r,r.length,e⟩
theorem DU(h:n≤sizeLine):tB n=false:=by unfold tB;exact cT (by lia)
end
section
variable{X:Cx}
def He:V->List V->Hp->VK->Prop:=λx v H Q=>∃l xs y,x=.ref l/\v=[y]/\H l=some (.lst xs)/\xs.length < sizeLine/\Q .non (upd H l (.lst (xs++[y])))
theorem sr:Su X "list.append" He:=by intro B s J H x p v q Q I c b h;obtain⟨l,xs,y,rfl,rfl,k,t,a⟩:=h;cases c;obtain⟨u,rfl,f⟩:=b.one;obtain⟨z,i,n,r,m,e⟩:=I.lstM k;refine lC yH ⟨_,e,rfl⟩ F.entry_list_append (F.args_list_append_2 _ _) (PySem.list_append l i.toArray n u (by rw[cc];lia)) ⟨e,?_⟩;refine⟨.non,_,I.lset (i:=i++[u]) k e (by simp) (r.append (.cons f .nil)) ?_,rfl,a⟩;rw[aI,me];lia
def QR:V->List V->Hp->VK->Prop:=λx v H Q=>∃l xs y,x=.ref l/\v=[]/\H l=some (.lst xs)/\xs[xs.length-1]? = some y/\Q y (upd H l (.lst xs.dropLast))
theorem K0:Su X "list.pop" QR:=by
 intro B s J H x g v q Q I w d h;obtain⟨l,xs,y,rfl,rfl,b,t,a⟩:=h;cases w;have k:=d.zero;subst k;obtain⟨z,i,n,r,c,e⟩:=I.lstM b;obtain⟨u,m,p⟩:=r.get t;have f:i.toArray[i.toArray.size-1]? = some u:=by show i.toArray[i.length-1]? = some u;rw[<- zi,<- c];exact m
 refine lC yD ⟨_,e,rfl⟩ F.entry_list_pop (F.args_list_pop_1 _) (MeetsSeq.list_pop_last l i.toArray n u f (by rw[cc];lia)) ⟨e,?_⟩;refine⟨y,_,I.lset (i:=i.dropLast) b e ?_ r.dropLast ?_,p,a⟩
 .show i.toArray.eraseIdxIfInBounds (i.toArray.size-1)=i.dropLast.toArray;rw[cc,List.eraseIdxIfInBounds_toArray,yj]
 .rw [List.length_dropLast];lia
def QV:R2:=λx y H Q=>∃l b xs zs,x=.ref l/\y=.ref b/\H l=some (.lst xs)/\H b=some (.lst zs)/\xs.length+zs.length≤sizeLine/\∀p,H p=none->Q (.ref p) (upd H p (.lst (xs++zs)))
theorem KN:kc X (binaryOp .Add) QV:=by
 intro B s J H x y v u Q I d w h;obtain⟨l,b,xs,zs,rfl,rfl,c,f,j,q⟩:=h;cases d;cases w;obtain⟨z,t,n,r,g,e⟩:=I.lstM c;obtain⟨S,i,o,p,m,a⟩:=I.lstM f;refine PySem.P.add_list e a ?_ (by rw[cc,cc];lia);have k:t.toArray++i.toArray=(t++i).toArray:=by simp
 rw[k];exact⟨.ref _,_,I.lnew (t:=s.toks) (r.append p) (by rw[aI];lia),rfl,q _ I.fresh⟩
def QQ:R2:=λx y H Q=>∃l k xs,x=.ref l/\y=.int k/\H l=some (.lst xs)/\-(2 ^ 63)≤k/\k < 2 ^ 63/\xs.length * k.toNat≤sizeLine /\
 ∀p,H p=none->Q (.ref p) (upd H p (.lst (List.replicate k.toNat xs).flatten))
theorem HI(xs:List α)(k:Nat):(List.replicate k xs).flatten.length=k * xs.length:=by
 induction k with
 |zero=>simp
 |succ k i=>rw[dR,gC,aI,i,uk,zC]
theorem KH:kc X (binaryOp .Mult) QQ:=by
 intro B s J H x y v u Q f A C h;obtain⟨l,k,xs,rfl,rfl,K,I,h2,j,q⟩:=h;cases A;obtain⟨t,rfl⟩:=C;obtain⟨z,i,n,r,P,e⟩:=f.lstM K;have p:i.toArray.size * k.toNat≤sizeLine:=by rw[cc,<- P];exact j
 have c:¬i.toArray.size * k.toNat > (2 ^ 63-1) / 8:=by
  have:(sizeLine:Nat)≤(2 ^ 63-1) / 8:=by decide
  lia
 have b:¬(!Builtin.List.listFitsIndex k)=true:=by rw[fitsIndex_both I h2];exact cb
 have o:¬tB (i.toArray.size * k.toNat)=true:=by rw[DU p];exact cb
 have w:o0 (λd g=>d++g) #[] (List.replicate (if i.toArray.isEmpty=true then 0 else k.toNat) i.toArray)=(List.replicate k.toNat i).flatten.toArray:=by
  have S:∀m:Nat,o0 (λd g=>d++g) #[] (List.replicate m i.toArray)=(List.replicate m i).flatten.toArray:=λm=>by have:=foldl_rep i m [];rw[dv]at this;exact this
  rw[S];cases i with
  |nil=>simp
  |cons a D=>rw[ai (by simp)]
 refine z6 (T:="list") (U:="int") (by decide) ⟨_,e,rfl⟩ (λs'=>mj s' k t) noFill_list_mul yC oO repeat_list yF.lookup
  (lC oO (mj s k t) yE (yG _ _) (int___rmul___int_list k t l i.toArray n)
   ⟨e,rfl,⟨_,e,rfl⟩,lC F.slot_list_mul ⟨_,e,rfl⟩ F.entry_list_mul (F.args_list_mul_2 _ _) (AutoListH.list___mul___list_int_3 l i.toArray n k t b c o) ⟨e,?_⟩⟩)
 rw[w];exact⟨.ref _,_,f.lnew (t:=s.toks) (r.rep k.toNat) (by rw[HI,pj];exact j),rfl,q _ f.fresh⟩
end
section
variable{κ:Type}[DecidableEq κ]
noncomputable def jy(v:List (κ×V))(k:κ):Option V:=(v.find? λh=>decide (h.1=k)).map (·.2)
noncomputable def putK(s:List (κ×V))(k:κ)(v:V):List (κ×V):=
 if (s.any λh=>decide (h.1=k))=true then s.map (λh=>if h.1=k then (h.1,v) else h) else s++[(k,v)]
theorem ji{p:κ×V}{r:List (κ×V)}{k:κ}(e:p.1=k):jy (p::r) k=some p.2:=by simp[jy,jw,e]
theorem ik{p:κ×V}{r:List (κ×V)}{k:κ}(e:¬p.1=k):jy (p::r) k=jy r k:=by simp[jy,jw,e]
theorem vS(k:κ):∀v:List (κ×V),(v.any λh=>decide (h.1=k))=(jy v k).isSome
 | []=>rfl
 |p::r=>by
  rw[fE];by_cases e:p.1=k
  .simp only[ji e,gn e,yY,Option.isSome_some]
  .rw [ik e,cT e,tN];exact vS k r
theorem wE(s:List (κ×V))(k:κ)(v:V):(putK s k v).length≤s.length+1:=by
 unfold putK;split
 .rw [eH];lia
 .rw [aI,aA,eI];lia
theorem Dy{s:List (κ×V)}{k:κ}(v:V)(h:jy s k=none):putK s k v=s++[(k,v)]:=by unfold putK;rw[vS,h];exact ai (by decide)
theorem jQ.isSome_eq(r:jQ o u):o.isSome=u.isSome:=by
 cases o with
 |none=>cases u with
  |none=>rfl
  |some _=>exact(show False from r).elim
 |some _=>cases u with
  |none=>exact(show False from r).elim
  |some _=>rfl
theorem jQ.getD(r:jQ o u)(h:RelV d i):RelV (o.getD d) (u.getD i):=by
 cases o with
 |none=>cases u with
  |none=>exact h
  |some _=>exact(show False from r).elim
 |some _=>cases u with
  |none=>exact(show False from r).elim
  |some _=>exact r
theorem KV.val{v:List (κ×V)}{s:List (κ×Value)}(r:KV v s)(k:κ):jQ (jy v k) (valueAt s k):=by
 unfold KV at r;induction r with
 |nil=>exact True.intro
 | @cons p q ps qs h t i=>
  obtain⟨I,h2⟩:=h;by_cases e:p.1=k
  .have x:q.1=k:=I.symm.trans e;have b:valueAt (q::qs) k=some q.2:=by simp[valueAt,jw,x]
   rw[ji e,b];exact h2
  .have x:¬q.1=k:=λz=>e (I.trans z);have b:valueAt (q::qs) k=valueAt qs k:=by simp[valueAt,jw,x]
   rw[ik e,b];exact i
theorem KV.any(r:KV i z)(k:κ):(i.any λv=>decide (v.1=k))=z.any λv=>decide (v.1=k):=by
 unfold KV at r;induction r with
 |nil=>rfl
 |cons h t x=>rw[fE,fE,x,h.1]
theorem KV.repl(r:KV i N)(k:κ)(a:RelV y u) :
  KV (i.map λv=>if v.1=k then (v.1,y) else v) (N.map λv=>if v.1=k then (v.1,u) else v):=by
 unfold KV at r ⊢;induction r with
 |nil=>exact .nil
 | @cons p q ps qs h t x=>
  rw[aX,aX];refine .cons ?_ x;obtain⟨I,h2⟩:=h;by_cases e:p.1=k
  .rw [ae e,ae (I.symm.trans e)];exact⟨I,a⟩
  .rw [ai e,ai (λz=>e (I.trans z))];exact⟨I,h2⟩
theorem KV.put(r:KV i z)(k:κ)(h:RelV y u):KV (putK i k y) (stored z k u):=by
 unfold putK stored;rw[r.any k];by_cases e:(z.any λv=>decide (v.1=k))=true
 .rw [ae e,ae e];exact r.repl k h
 .rw [ai e,ai e];exact Paired.snoc r ⟨rfl,h⟩
end
variable{w:World}
theorem sD(r:RelV (kV k) u):(cm P w).is k u=true:=by
 cases k with
 |inl i=>obtain⟨t,e⟩:=(show ∃t,u=Value.int i t from r);subst e;exact wA P w i t
 |inr x=>obtain⟨t,e⟩:=(show ∃t,u=Value.str x t from r);subst e;exact kq P w x t
theorem sE:∀{ks:List fR}{q:LV},bB (ks.map kV) q->ItemsAre (cm P w) ks q
 | [],_,r=>by rw[ed]at r;cases r;exact .nil
 |k::ks,_,r=>by
  rw[aX]at r;cases r with
  |cons h t=>exact .cons (sD h) (sE t)
abbrev KT(H:Hp):List (List fR×V)->List (List fR×Addr×Value)->Prop:=Paired λp q=>p.1=q.1/\H q.2.1=some (.tup (p.1.map kV))/\RelV p.2 q.2.2
theorem KT.val{H:Hp}{v:List (List fR×V)}{xs:List (List fR×Addr×Value)}(r:KT H v xs)(k:List fR):jQ (jy v k) ((atKey xs k).map (·.2)):=by
 induction r with
 |nil=>exact True.intro
 | @cons p q ps qs h t i=>
  obtain⟨I,_,h2⟩:=h;by_cases e:p.1=k
  .have x:q.1=k:=I.symm.trans e;have b:atKey (q::qs) k=some q.2:=by simp[atKey,jw,x]
   rw[ji e,b];exact h2
  .have x:¬q.1=k:=λz=>e (I.trans z);have b:atKey (q::qs) k=atKey qs k:=by simp[atKey,jw,x]
   rw[ik e,b];exact i
section
variable{P:Program}{w:World}{H:Hp}{h:Heap}{a:Addr}
theorem rd_of{u:HO}(ok:j7 P w H h)(e:Rd H a u):du P w H h a u:=e.ok ok
theorem sJ{k:List (fR×V)}(ok:j7 P w H h)(e:Rd H a (.dK k)):k.length≤sizeLine/\(a == sysModules)=false/\∃v,KV k v/\h.DictOf (cm P w) a v:=
 show du P w H h a (.dK k) from rd_of ok e
theorem OF{k:List (fR×V)}(ok:j7 P w H h)(e:H a=some (.dK k)):k.length≤sizeLine/\(a == sysModules)=false/\∃v,KV k v/\h.DictOf (cm P w) a v:=sJ ok (.inl e)
theorem qL(ok:j7 P w H h)(e:H a=some (.tup (ks.map kV))):(tupleKind (cm P w)).is h ks a:=by obtain⟨_,i,r,o,I,⟨h2,n,x⟩,_⟩:=(show du P w H h a (.tup (ks.map kV)) from ok a _ e);exact⟨o,i.toArray,n,I,h2,x,by simpa using sE r⟩
theorem wZ(ok:j7 P w H h)(e:Rd H a (.dT i)):i.length≤sizeLine/\(a == sysModules)=false /\
  ∃xs,KT H i xs/\h.DictOfH (tupleKind (cm P w)) a xs:=by
 obtain⟨z,y,xs,r,o,es,k,I,h2,f,b,c⟩:=(show du P w H h a (.dT i) from rd_of ok e);refine⟨z,y,xs,r,o,es,k,I,h2,f,b,λx s=>?_,c⟩;have all:∀{l:List (List fR×V)}{m:List (List fR×Addr×Value)},KT H l m->∀x ∈ m,(tupleKind (cm P w)).is h x.1 x.2.1:=by
  intro l m q;induction q with
  |nil=>intro x s;exact nomatch s
  | @cons p q ps qs n t v=>
   intro x s;rcases ay.mp s with e|s
   .subst e;exact qL ok (by rw[<- n.1];exact n.2.1)
   .exact v x s
 exact all r x s
end
def nk(H:Hp)(a:Addr)(y:V)(r:Option V):Prop:=
 (∃v k,Rd H a (.dK v)/\y=kV k/\r=jy v k)\/∃v k b,Rd H a (.dT v)/\y=.ref b/\H b=some (.tup (k.map kV))/\r=jy v k
theorem nk.k{H:Hp}{a:Addr}{v:List (fR×V)}{k:fR}(e:H a=some (.dK v)):nk H a (kV k) (jy v k):=.inl ⟨v,k,.inl e,rfl,rfl⟩
section
variable{X:Cx}{B:PN}{J:St}{H:Hp}{s:Shared}{a:Addr}{y v:V}{u r:Value}{o:Option V}{A:Around}{E:VP}
theorem Inv.big(I:Inv X B J H s):sysModules < s.heap.objs.size:=by have h:mainGlobals < s.heap.objs.size:=(I.mod.glob.keeps I.bk).lt;exact zF (by decide) h
theorem BU(S:A.units+1 < cLine)(I:Inv X B J H s)(g:nk H a y (some v))(t:RelV y u)(h:∀x s',Inv X B J H s'->RelV v x->Q x s') :
  wpAny (model X.p X.w) A (getItem (.ref a) u) Q E s:=by
 rcases g with ⟨m,k,e,n,l⟩|⟨m,k,b,e,n,q,l⟩
 .subst n;obtain⟨z,i,F,r,d⟩:=sJ I.h e;obtain⟨x,c,w⟩:=jQ.some_of (v:=v) (o:=valueAt F k) (by rw[l];exact r.val k);exact zO (sD t) d.mapOf c (h x _ (I.tok _) w)
 .subst n;cases (show u=Value.ref b from t);obtain⟨z,i,xs,r,d⟩:=wZ I.h e;obtain⟨x,c,w⟩:=jQ.some_of (v:=v) (o:=(atKey xs k).map (·.2)) (by rw[l];exact r.val k);obtain⟨p,j,f⟩:=fV.mp c;refine wpAny_getItem_heap (sV S) (qL I.h q) d j ?_;rw[f];exact h x _ (I.tok _) w
theorem Rr(m:A.units+1 < cLine)(I:Inv X B J H s)(g:nk H a y o)(f:RelV y u)(h:∀s',Inv X B J H s'->Q (.bool o.isSome) s') :
  wpAny (model X.p X.w) A (compareOp .In u (.ref a)) Q E s:=by
 rcases g with ⟨v,k,e,x,l⟩|⟨v,k,b,e,x,c,l⟩
 .subst x;obtain⟨z,n,t,r,d⟩:=sJ I.h e;refine wpAny_in_of (sD f) n d.mapOf ?_;rw[<- (r.val k).isSome_eq,<- l];exact h _ (I.tok _)
 .subst x;cases (show u=Value.ref b from f);obtain⟨z,n,xs,r,d⟩:=wZ I.h e;refine wpAny_in_heap (sV m) (qL I.h c) n d ?_;have q:=(r.val k).isSome_eq;rw[yU]at q;rw[<- q,<- l];exact h _ (I.tok _)
theorem Ie(m:A.units+1 < cLine)(I:Inv X B J H s)(g:nk H a y o)(f:RelV y u)(h:∀s',Inv X B J H s'->Q (.bool (!o.isSome)) s') :
  wpAny (model X.p X.w) A (compareOp .NotIn u (.ref a)) Q E s:=by
 rcases g with ⟨v,k,e,x,l⟩|⟨v,k,b,e,x,c,l⟩
 .subst x;obtain⟨z,n,t,r,d⟩:=sJ I.h e;refine wpAny_notIn_of (sD f) n d.mapOf ?_;rw[<- (r.val k).isSome_eq,<- l];exact h _ (I.tok _)
 .subst x;cases (show u=Value.ref b from f);obtain⟨z,n,xs,r,d⟩:=wZ I.h e;refine wpAny_notIn_heap (sV m) (qL I.h c) n d ?_;have q:=(r.val k).isSome_eq;rw[yU]at q;rw[<- q,<- l];exact h _ (I.tok _)
theorem Ic{t:Nat}(I:Inv X B J H s)(m:Pb (H a))(f:kg a s.heap h')(k:∃q,h'.get? a=some q)(n:du X.p X.w (upd H a i) h' a i) :
  Inv X B J (upd H a i) { s with heap:=h',toks:=t }:=
 I.write (x:=a) (e:=a) m (.inl rfl) (λb q h z=>(f.2 b h).trans z) k n
theorem LM{P:Program}{w:World}{H':Hp}{h':Heap}{k:List (fR×V)}{v:List (fR×Value)}(z:k.length≤sizeLine)(h:(a == sysModules)=false)(r:KV k v)(d:h'.DictOf (cm P w) a v) :
  du P w H' h' a (.dK k):=⟨z,h,v,r,d⟩
end
variable{H:Hp}
theorem EY(h:Heap)(b:sysModules < h.objs.size):du P w H (h.push { cls:=.type "dict",data:=.dict #[] }) h.objs.size (.dK []):=
 ⟨eh _,nQ.mpr (cI (cx b)),[],.nil,Heap.DictOf.new h⟩
def uJ:List (TE×TE)->St->Hp->(List (V×V)->Hp->Prop)->Prop
 | [],_,H,Q=>Q [] H
 |(tk,tv)::r,J,H,Q=>tk J H λx j=>tv J j λy H2=>uJ r J H2 λps h=>Q ((x,y)::ps) h
abbrev VV:List (V×V)->List (Value×Value)->Prop:=Paired λp q=>RelV p.1 q.1/\RelV p.2 q.2
def O'(X:Cx)(G:Pos)(k:List (Option Expr))(v:Ab)(t:List (TE×TE)):Prop:=
 ∀(B:PN)(s:Shared)(J:St)(H:Hp)(Q:List (V×V)->Hp->Prop),Inv X B J H s->uJ t J H Q ->
  wx X (evalPairs (pairTrees k v X.e G)) (λh s'=>∃ps H',Inv X B J H' s'/\VV ps h/\Q ps H') X.xe s
variable{X:Cx}{G:Pos}
theorem Hj:O' X G [] [] []:=λB s J H Q I h=>pairTrees_nil_walk ⟨[],H,I,.nil,h⟩
theorem DD(b:PE X k tk)(m:PE X v tv)(c:O' X G ks z i) :
  O' X G (some k::ks) (v::z) ((tk,tv)::i):=λB s J H Q I h=>
 pairTrees_cons_walk (ez (b B s J H _ I h) fun u g ⟨x,j,e,d,q⟩=>ez (m B g J j _ e q) fun S l ⟨y,H2,n,w,t⟩=>
  ez (c B l J H2 _ n t) λF o ⟨ps,a,f,r,p⟩=>⟨(x,y)::ps,a,f,.cons ⟨d,w⟩ r,p⟩)
def kr(k m:List (fR×V)):List (fR×V):=m.foldl (λa v=>putK a v.1 v.2) k
theorem KV.merge:∀{m:List (fR×V)}{s:List (fR×Value)}{k:List (fR×V)}{v:List (fR×Value)},KV m s->KV k v->KV (kr k m) (merged v s):=by
 intro m s k v r;unfold KV at r;induction r generalizing k v with
 |nil=>intro q;exact q
 | @cons p q ps qs h t i=>
  intro x;have e:KV (putK k p.1 p.2) (stored v q.1 q.2):=by have:=x.put p.1 h.2;rw[<- h.1];exact this
  exact i e
theorem ls:∀(m k:List (fR×V)),(kr k m).length≤k.length+m.length
 | [],k=>by show k.length≤k.length+0;lia
 |p::r,k=>by have I:=ls r (putK k p.1 p.2);have h2:=wE k p.1 p.2;show(kr (putK k p.1 p.2) r).length≤_;rw[aA];lia
theorem q8{P:Program}{w:World}:∀{k:List (fR×V)}{x:List (Value×Value)},VV (k.map λv=>(kV v.1,v.2)) x->∃s,Carries (cm P w) x s/\KV k s
 | [],_,r=>by rw[ed]at r;cases r;exact⟨[],True.intro,.nil⟩
 |p::k,_,r=>by
  rw[aX]at r;cases r with
  | @cons a b n m h t=>obtain⟨s,c,q⟩:=q8 (P:=P) (w:=w) t;obtain⟨f,e⟩:=b;exact⟨(p.1,e)::s,⟨sD h.1,rfl,c⟩,.cons ⟨rfl,h.2⟩ q⟩
def Ny(t:List (TE×TE)):TE:=λJ H Q=>∀p,H p=none->uJ t J (upd H p (.dK [])) λps H2=>H2 p=some (.dK [])/\∃k:List (fR×V),ps=k.map (λv=>(kV v.1,v.2))/\k.length≤15/\Q (.ref p) (upd H2 p (.dK (kr [] k)))
theorem Hr(h:O' X G i N trs)(l:i.all (·.isSome)=true)(j:i.length=N.length)(v:i≠[])
  (n:i.length≤15):PE X (.Dict i N G) (Ny trs):=by
 intro B s J H Q x q;have y:=x.h.fresh (ar s.heap.objs.size);have m:=x.laid (a:=s.heap.objs.size) (o:=.dK []) (h':=s.heap.push { cls:=.type "dict",data:=.dict #[] }) (t':=s.toks) (λ_ _ q=>cv _ q) (ar _) (EY s.heap x.big);refine wpAny_Dict_walk (knd:=cm X.p X.w) l j v n (ez (h B _ J _ _ m (q _ y)) λM L f=>?_);obtain⟨ps,H2,b,r,e,k,p,lk,K⟩:=f;subst p;obtain⟨D,c,C⟩:=q8 (P:=X.p) (w:=X.w) r;obtain⟨z,u,E,A,t⟩:=OF b.h e;cases A;refine⟨D,c,t,λh' d F=>⟨.ref s.heap.objs.size,_,?_,rfl,K⟩⟩;have f:(kr [] k).length≤sizeLine:=by have I:=ls k [];rw[eI]at I;rw[ml];lia
 have g:∃q,h'.get? s.heap.objs.size=some q:=let ⟨q,_,_,S,_⟩:=d;⟨q,S⟩
 exact Ic b (by rw[e];exact True.intro) F g (LM f u (C.merge .nil) d)
structure M1(X:Cx)(o:Expr)(m:Str)(apos:Pos)(e:Expr)(cpos:Pos):Prop where
 base:attributeBase o m X.e (eval o X.e)=eval o X.e
 few:((backTo cpos (starEach [e] X.e)).all (fun x=>!x.1) && (backToKw cpos (keywordEach [] X.e)).all (fun x=>x.1.isSome)
  && decide (([e]:Ab).length+([]:List Keyword).length+(if ([]:List Keyword).isEmpty then 0 else 1) < 30))=true
 line:(apos.endLine == cpos.line)=true
 trees:backTo cpos (starEach [e] X.e)=[(false,eval e X.e)]
structure M2(X:Cx)(o:Expr)(m:Str)(apos:Pos)(e f:Expr)(cpos:Pos):Prop where
 base:attributeBase o m X.e (eval o X.e)=eval o X.e
 few:((backTo cpos (starEach [e,f] X.e)).all (fun x=>!x.1) && (backToKw cpos (keywordEach [] X.e)).all (fun x=>x.1.isSome)
  && decide (([e,f]:Ab).length+([]:List Keyword).length+(if ([]:List Keyword).isEmpty then 0 else 1) < 30))=true
 line:(apos.endLine == cpos.line)=true
 trees:backTo cpos (starEach [e,f] X.e)=[(false,eval e X.e),(false,eval f X.e)]
def Sz(H:Hp)(a:Addr):Prop:=(∃k,Rd H a (.dK k))\/∃k,Rd H a (.dT k)
theorem Lq(h:Inv X B J H s)(d:Sz H a) :
  s.TypeIs (.ref a) "dict"/\(∀b,Value.ref a=.ref b->∃o,s.heap.get? b=some o/\o.dict=none)/\(a == sysModules)=false:=by
 rcases d with ⟨k,e⟩|⟨k,e⟩
 .obtain⟨_,n,v,_,x⟩:=sJ h.h e;refine⟨x.typeIs,λb q=>?_,n⟩;cases q;obtain⟨o,_,_,I,h2,_⟩:=x;exact⟨o,I,h2.2.1⟩
 .obtain⟨_,n,xs,_,x⟩:=wZ h.h e;refine⟨x.typeIs,λb q=>?_,n⟩;cases q;obtain⟨o,_,_,I,h2,_⟩:=x;exact⟨o,I,h2.2.1⟩
section
variable{X:Cx}{B:PN}{J:St}{H:Hp}{s:Shared}{a:Addr}{y d:V}{u r:Value}{o:Option V}{A:Around}{E:VP}
theorem LP(q:A.units+1 < cLine)(I:Inv X B J H s)(g:nk H a y o)(t:RelV y u)(m:RelV d r)(h:∀w s',Inv X B J H s'->RelV (o.getD d) w->Q w s') :
  wpAny (model X.p X.w) A (call (.builtin "dict.get") [.ref a,u,r]) Q E s:=by
 rcases g with ⟨v,k,e,f,l⟩|⟨v,k,b,e,f,p,l⟩
 .subst f;obtain⟨z,c,i,x,n⟩:=sJ I.h e;refine call_meetsIn tF n.typeIs yK (yL _ _ _) (meets_dict_get_default (cm X.p X.w) a (sD t) c r) ⟨_,n.mapOf,h _ _ (I.tok _) ?_⟩;rw[l];exact(x.val k).getD m
 .subst f;cases (show u=Value.ref b from t);obtain⟨z,c,xs,x,n⟩:=wZ I.h e;refine call_meetsIn tF n.typeIs yK (yL _ _ _) (meetsH_dict_get_default (tupleKind (cm X.p X.w)) a b c r) ⟨sV q,k,xs,qL I.h p,n,h _ _ (I.tok _) ?_⟩;rw[l];exact(x.val k).getD m
end
noncomputable def J0(td ty tx:TE):TE:=λJ H Q=>td J H λx j=>∃a,x=.ref a/\Sz j a/\ty J j λy H2=>tx J H2 λz h=>∃o,nk h a y o/\Q (o.getD z) h
section
variable{X:Cx}{o e f:Expr}{apos cpos:Pos}{td ty tx:TE}
theorem DO(w:X.A.units+1 < cLine)(v:PE X o td)(p:PE X e ty)(q:PE X f tx)(m:M2 X o "get" apos e f cpos):PE X (.Call (.Attribute o "get" apos) [e,f] [] cpos) (J0 td ty tx):=by
 intro B s J H Q I h;refine wpAny_Call_method m.base m.few m.line PySem.F.plainAttrs_dict tF PySem.F.type_dict_get (ez (v B s J H _ I h) fun u C i=>?_);obtain⟨x,j,n,K,a,ex,d,l⟩:=i;subst ex;obtain rfl:u=Value.ref a:=K;obtain⟨E,G,_⟩:=Lq n d;refine⟨E,G,?_⟩;rw [m.trees];refine tY rfl (tW (oZ (ez (p B C J j _ n l) fun M D ⟨y,H2,b,P,S⟩=>
  oZ (ez (q B D J H2 _ b S) λL R ⟨z,k,c,A,N,g,F⟩=>tU ?_))))
 exact LP w c g P A λV T t r=>⟨_,k,t,r,F⟩
end
end L2
set_option tactic.hygienic true
namespace Att
open PySem PySem.W PySem.Calls PyProof.Rows
theorem n8:∀(s:List Int)(v:LV),WellAll P h v (s.map WData.int)->IntsAre v s:=by
 intro s;induction s with
 |nil=>intro v w;rw[ed]at w;cases w;exact .nil
 |cons n s i=>
  intro v w;rw[aX]at w;cases w with
  |cons a b=>cases a;exact .cons _ _ (i _ b)
theorem Br{l:OpenLaw}(t:l.most=some n)
  (p:l.row.toRowW.claim.pre i=true) (w:WellAll P h z i) :
  ∃a v s,z=[Value.ref a]/\i=[WData.list (s.map WData.int)]/\h.get? a=some { cls:=.type "list",data:=.seq v.toArray }/\IntsAre v s/\s.length≤n:=by
 have b:WShape.hasAll [] i [.list .int]=true:=(pre_splitW p).1;have c:l.pre.holds [] { args:=i }=true:=(pre_splitW p).2;obtain⟨d,r,rfl,I,h2⟩:=hasAllW_cons b;obtain rfl:=hasAllW_nil h2;obtain⟨xs,rfl,m⟩:=hasW_list I;obtain⟨s,rfl⟩:=items_int m;have e:s.length≤n:=by
  unfold OpenLaw.pre at c;have k:(WTm.not (.lt (.lit (.int (n:Int))) (.len (.arg 0)))).holds [] { args:=[.list (s.map .int)] }=true:=by have k:=(holds_andW c).1;rw[t]at k;exact k
  have f:=condW_of k (w_not (w_lt w_lit (w_len_list (w_arg rfl))));rw[eH]at f;refine Nat.le_of_not_lt λq=>?_;have u:(n:Int) < ((s.length:Nat):Int):=by lia
  first
   |(rw[gn u]at f;exact absurd f (by decide))
   |(simp at f;lia)
 cases w with
 |cons g j=>
  cases j;cases g with
  |list o x=>exact⟨_,_,s,rfl,rfl,o,n8 s _ x,e⟩
theorem Bv(l:OpenLaw)(a:List WData):l.row.toRowW.claim.post a (.bool true) a=true:=
 postW_of (r:=l.row.toRowW) (X:=(true == true))
  (show WShape.has [] (.bool true) .bool=true by first|rfl|decide|simp[WShape.has,WShape.arms,WShape.armsAll])
  (show(WTm.eq .res (.lit (.bool true))).value [] { args:=a,res:=some (.bool true),after:=a }=some (.bool (true == true)) from w_eq_bool (w_res rfl) w_lit) rfl
theorem attach_call{l:OpenLaw}
  (M:l.most=some n) (u:d.params.defaults=[])
  (call:∀(w:World) (h s:Shared) (mg y:SV) (x:Addr) (o:Obj) (H k c:Value) (a:Addr) (v:LV) (m:List Int),
   Ground i z [] N w h mg y s.heap->YP w s.heap ->
   s.heap.get? x=some o->o.data=.func (docDef d.name d.params d.body d.scope H k c)->s.heap.CodeRec k d.name->mg d.name=some (.ref x) ->
   s.heap.get? a=some { cls:=.type "list",data:=.seq v.toArray }->IntsAre v m->m.length≤n->s.gens=#[] ->
   codeAny (model l.prog w) callerA (.call (.ref x) ⟨[.ref a],[]⟩) (λr s'=>r=.ok (.ret (.bool true))/\OldK s.heap s'.heap/\s'.os=s.os/\AllBare s'.gens) s) :
  WalkO i z N YP l.row.toRowW d [] (λf v=>PySem.call f v):=by
 intro w h s mg y G P x o H k c V kV Q C q D g E S K W p F T j I;obtain rfl:V=.none:=Dflts.none D u;obtain rfl:kV=.none:=Dflts.noKw D;obtain⟨a,v,m,rfl,rfl,b,t,e⟩:=Br M p j;refine enter_call (js (call w h s mg y x o H k c a v m G P Q (fd_plain C) q g b t e E) λr s' R=>?_);obtain⟨rfl,h2,A,B⟩:=R;exact⟨.inl ⟨.bool true,.bool true,[],rfl,λ_=>rfl,.bool true,Bv l _,λ_=>⟨List.Pairwise.nil,λ_ L=>(nomatch L)⟩⟩,h2,A,B⟩
end Att
set_option tactic.hygienic false
namespace L2
open PySem PySem.Spec PyProof.Rows
theorem rY:∀{v:LV}{s:List Int},IntsAre v s->bB (s.map V.int) v
 |_,_,.nil=>.nil
 |_,_,.cons n t h=>.cons ⟨t,rfl⟩ (rY h)
def Cd(H:Hp):Prop:=∀b,H b=none\/∃o xs,H b=some (.frz o (.lst xs))
set_option tactic.hygienic true in
theorem Ec{P:Program}{w:World}{K:FG}{mg Z:SV}{CX:Ce}{k:Nat}{Q a:Addr}{fd:FuncData}{x:Str}{sp:Sp}{f:Shared}{j:LV}{G:List Int}
  (KX:K.In f.heap) (B:f.heap.Ns mainGlobals mg) (t:f.heap.Ns builtinsNs Z) (R:∀x:Str,x≠"__name__"->Z x=bootBuiltins x) (A:f.heap.NoLimit) (hg:f.gens=#[])
  (M:f.heap.get? a=some { cls:=.type "list",data:=.seq j.toArray }) (hi:IntsAre j G) (hl:G.length≤sizeLine) (hr:Room k callerA)
  (F:∀base:Heap,K.In base->base.Ns mainGlobals mg->FnOk P w K mg base CX k Q fd [x] sp) (i:∀(s:Shared)(u:Value),BindsTo s fd ⟨[u],[]⟩ [(x,u)])
  (W:∀H:Hp,Cd H->j6 K H a (G.map V.int)->sp [.ref a] H (λv _=>v=.bl true) λ_ _ _=>False)
  (X:∀H e s',CX [] H f (λ_ _ _=>False) e s'->False) :
  codeAny (model P w) callerA (.call (.ref Q) ⟨[.ref a],[]⟩) (λr s'=>r=.ok (.ret (.bool true))/\OldK f.heap s'.heap/\s'.os=f.os/\AllBare s'.gens) f:=by
 have rv:=rY hi;have E:=hi.length;have g:∀H:Hp,Cd H->j6 K H a (G.map V.int)->j7 P w H f.heap->(∀b,H b≠none->b=a)->(H a≠none->K.lookup a=none) ->
   codeAny (model P w) callerA (.call (.ref Q) ⟨[.ref a],[]⟩) (λr s'=>r=.ok (.ret (.bool true))/\OldK f.heap s'.heap/\s'.os=f.os/\AllBare s'.gens) f:=by
  intro H hO hS C hA hK;have c:∀{b:Addr}{o:Obj},f.heap.get? b=some o->H b=none->(u9 f.heap H).get? b=some o:=λe n=>Ey e n
  have noA:∀{b:Addr}{o:Obj}{es:Array DictEntry}{y:Nat},f.heap.get? b=some o->o.data=.dict es y->H b=none:=λ{b o es y} e d=>by
   cases q:H b with
   |none=>rfl
   |some u=>have N:b=a:=hA b (by rw[q];simp);subst N;rw[M]at e;cases e;have d':Data.seq j.toArray _=Data.dict es y:=d;cases d'
  have p:∀{b:Addr}{m:SV},f.heap.Ns b m->(u9 f.heap H).Ns b m:=fun {b m} ⟨o,es,y,e,d,r⟩=>⟨o,es,y,c e (noA e d),d,r⟩;have S:K.In (u9 f.heap H):=fun b o e=>c (KX b o e) (by
   cases q:H b with
   |none=>rfl
   |some u=>have N:b=a:=hA b (by rw[q];simp);subst N;rw[hK (by rw[q];simp)]at e;cases e)
  have hM:Mod K mg (u9 f.heap H):=⟨S,p B,⟨Z,p t,R⟩,let ⟨mc,I,h2⟩:=A;⟨mc,p I,h2⟩⟩;have e0:Env0 P w K mg (u9 f.heap H) callerA [] f H:=⟨rfl,hM,λb o e=>Hy e,zD (BM _ _),trivial,λb t=>absurd (show b ∈ ([]:List Addr) from t) (by simp),C,.of_eq hg⟩;refine js ((F _ S (p B)).run callerA [] f H ⟨[.ref a],[]⟩ [.ref a] [.ref a] _ _ hr e0 (i f (.ref a)) (.cons rfl .nil) (W H hO hS)) λr s' h=>?_;cases r with
  |error e=>exact(X H e s' h).elim
  |ok fl=>
   cases fl with
   |next=>exact False.elim h
   |brk=>exact False.elim h
   |cont=>exact False.elim h
   |ret u=>
    obtain⟨v,H',os,l,un,D,r',q⟩:=h;have q':v=.bl true:=q;subst q';obtain rfl:u=Value.bool true:=r';refine⟨rfl,OldK.of_keep λb o e=>?_,os,l⟩;cases q:H b with
    |none=>exact un.keep b o e q (by intro z;exact absurd (show b ∈ ([]:List Addr) from z) (by simp)) (by simp)
    |some u=>
     rcases hO b with z|⟨ob,xs,z⟩
     .rw [q]at z;cases z
     .have z2:=un.frzs b ob _ z;obtain⟨e1,_⟩:=C b _ z;obtain⟨e2,_⟩:=D b _ z2;rw[e]at e1;cases e1;exact e2
 cases T:K.lookup a with
 |some o=>have e:=KX a o T;rw[M]at e;cases e;refine g (λ_=>none) (λ_=>.inl rfl) (.inr ⟨_,j.toArray,_,T,rfl,rfl,rfl,by rw[cc,E];exact hl,by simpa using rv⟩) (λb u z=>by have L:(none:Option HO)=some u:=z;cases L) (λb z=>absurd rfl z) λz=>absurd rfl z
 |none=>
  refine g (λb=>if b=a then some (.frz { cls:=.type "list",data:=.seq j.toArray } (.lst (G.map V.int))) else none) (λb=>?_) (.inl (.inr ⟨{ cls:=.type "list",data:=.seq j.toArray },ae rfl⟩)) (λb u z=>?_) (λb z=>?_) λ_=>T
  .by_cases t:b=a
   .exact .inr ⟨_,_,ae t⟩
   .exact .inl (ai t)
  .by_cases t:b=a
   .have L:=(ae t).symm.trans z;cases L;subst t;exact⟨M,by rw[eH];exact hl,j,_,rv,M⟩
   .have L:=(ai t).symm.trans z;cases L
  .by_cases t:b=a
   .exact t
   .exact absurd (ai t) z
noncomputable abbrev Sv{K:FG}(_:K.In h):FG:=K
theorem GG{l:Cq}{n k:Nat}{q:Program}{c:LS}{B:(SV)->Heap->Prop}{P:World->Heap->Prop}{d:DefRec}{K:Params->FG}{CX:World->Ce}{sp:World->Sp}{x:Str}
  (W:l.most=some n) (y:n≤sizeLine) (p:d.params.defaults=[]) (Z:Room k callerA)
  (N:∀(w:World)(h:Heap),P w h->(K w.params).In h)
  (F:∀(w:World) (mg:SV) (r:Addr) (h:Heap),(K w.params).In h->h.Ns mainGlobals mg->mg d.name=some (.ref r) ->
   ∃fd:FuncData,(∀(s:Shared)(u:Value),BindsTo s fd ⟨[u],[]⟩ [(x,u)]) /\
    ∀base:Heap,(K w.params).In base->base.Ns mainGlobals mg->FnOk l.prog w (K w.params) mg base (CX w) k r fd [x] (sp w))
  (z:∀(w:World)(H:Hp)(a:Addr)(t:List Int),t.length≤n->Cd H->j6 (K w.params) H a (t.map V.int)->sp w [.ref a] H (λv _=>v=.bl true) λ_ _ _=>False)
  (C:∀(w:World)(H:Hp)(s:Shared)(e:Value)(s':Shared),CX w [] H s (λ_ _ _=>False) e s'->False) :
  Cp q c B P l.row.toRowW d [] (λf A=>PySem.call f A):=by
 refine Att.attach_call W p λw S m mg mb r o pm cd E a A t G D ho hd R g j i b T=>?_;have X:=N w _ D;obtain⟨fd,Q,I⟩:=F w mg r _ X G.T.g g;exact Ec X G.T.g G.T.b G.T.builtins G.T.nolimit T j i (ce b y) Z I Q (λH L M=>z w H a t b L M) λH e s'=>C w H m e s'
theorem CW{l:Cq}{n k:Nat}{q:Program}{o:LS}{X:(SV)->Heap->Prop}{P:World->Heap->Prop}{d:DefRec}{K:Params->FG}{CX:Ce}{sp:FG->Sp}{x:Str}
  (i:l.most=some n) (m:n≤sizeLine) (c:d.params.defaults=[]) (j:Room k callerA)
  (g:∀(w:World)(h:Heap),P w h->(K w.params).In h)
  (F:∀(w:World) (mg:SV) (r:Addr) (h:Heap),(K w.params).In h->h.Ns mainGlobals mg->mg d.name=some (.ref r) ->
   ∃fd:FuncData,(∀(s:Shared)(u:Value),BindsTo s fd ⟨[u],[]⟩ [(x,u)]) /\
    ∀base:Heap,(K w.params).In base->base.Ns mainGlobals mg->FnOk l.prog w (K w.params) mg base CX k r fd [x] (sp (K w.params)))
  (p:∀(K:FG)(H:Hp)(a:Addr)(b:List Int),b.length≤n->Cd H->j6 K H a (b.map V.int)->sp K [.ref a] H (λv _=>v=.bl true) λ_ _ _=>False)
  (C:∀(H:Hp)(s:Shared)(e:Value)(s':Shared),CX [] H s (λ_ _ _=>False) e s'->False) :
  Cp q o X P l.row.toRowW d [] (λf y=>PySem.call f y):=
 GG (K:=K) (CX:=λ_=>CX) (sp:=λw=>sp (K w.params)) i m c j g F (λw H a b I h2 t=>p (K w.params) H a b I h2 t) λ_ H s e s'=>C H s e s'
noncomputable def aa(s:Stmt)(j:Nat):Stmt:=match s with
 | .ClassDef _ _ _ b _ _ _ _ _ _ _=>b.getD j (.Pass ⟨0,0,0,0⟩)
 |_=>.Pass ⟨0,0,0,0⟩
noncomputable def aN(s:Stmt):Arguments:=match s with
 | .FunctionDef _ a _ _ _ _ _ _ _ _=>a
 |_=>{ posonlyargs:=[],args:=[],vararg:=none,kwonlyargs:=[],kw_defaults:=[],kwarg:=none,defaults:=[] }
noncomputable def aD(s:Stmt):List Stmt:=match s with
 | .FunctionDef _ _ b _ _ _ _ _ _ _=>b
 |_=>[]
noncomputable def af(s:Stmt):Scope:=match s with
 | .FunctionDef _ _ _ _ _ _ sc _ _ _=>sc
 |_=>{ kind:=.function,names:=[],isGenerator:=false,isCoroutine:=false }
noncomputable abbrev re:Ce:=λ_ _ _ _ _ _=>False
noncomputable abbrev E0:XK:=λ_ _ _=>False
theorem sf:lY re X E0:=λ_ _ _ _ _ _ _ h=>h.elim
structure Fun(K:FG)(x qual:Str)(st:Stmt)(f:Addr)(fd:FuncData):Prop where
 ex:∃(oc:Value)(od:Option Addr)(kV doc pm:Value)(an:Option Addr)(cdv ct:Value)(osl:Array (OV)),
  fd=lE x qual (aN st) (aD st) (af st) .none kV doc pm an cdv ct/\K.lookup f=some ⟨oc,od,.func fd,osl⟩/\s0 K cdv qual=true
 kp:gO K (.ref f)=true
section
variable{P:Program}{w:World}{K:FG}{mg:SV}{base:Heap}
theorem Fun.ok{x u:Str}{st:Stmt}{f:Addr}{fd:FuncData}{N ps:LS}{k:Nat}{sp:Sp}(F:Fun K x u st f fd)(S:FnScope N ps (af st))(len:∀v H Q E,sp v H Q E->v.length=ps.length)
  (b:∀(c:Value) (A:Around) (o:List Env) (s:Shared) (H:Hp) (v:List V) (Q:VK) (E:XK),Room k (A.deeper (envOfC u (af st) s.heap.objs.size f c))->sp v H Q E ->
   ∃t,iF (oz re P w K mg base N u (af st) f c A o s H E).nox (aD st) t/\t { nx:=λ_ H'=>Q .non H',rt:=Q } (start N v) H):FnOk P w K mg base re (k+1) f fd ps sp:=by
 obtain⟨m,g,kV,a,i,n,c,e,l,rfl,lk,d⟩:=F.ex;refine Jn lk d S len λA o s H v Q E r p=>?_;obtain⟨t,h,q⟩:=b c A o s H v Q E r p;exact⟨t,h.nox,q⟩
theorem Fun.binds{x u:Str}{st:Stmt}{f:Addr}{fd:FuncData}{ps:LS}(F:Fun K x u st f fd)
  (h:∀(kV d p:Value)(a:Option Addr)(c t:Value)(q:LV),q.length=ps.length->bindArgs (lE x u (aN st) (aD st) (af st) .none kV d p a c t) ⟨q,[]⟩=pure (ps.zip q)):Binds K fd ps []:=by
 obtain⟨s,n,kV,d,p,a,c,t,o,rfl,lk,e⟩:=F.ex;exact .all (h kV d p a c t)
theorem aq{x q:Str}{st:Stmt}{f:Addr}{h:Value}{e a:Option Addr}{s:Array (OV)}{kV o p d t:Value}(l:K.lookup f=some ⟨h,e,.func (lE x q (aN st) (aD st) (af st) .none kV o p a d t),s⟩)
  (c:s0 K d q=true) (k:gO K (.ref f)=true):Fun K x q st f (lE x q (aN st) (aD st) (af st) .none kV o p a d t):=⟨⟨h,e,kV,o,p,a,d,t,s,rfl,l,c⟩,k⟩
end
section
variable{X:Cx}
end
end L2
set_option tactic.hygienic true
namespace PySem
open PySem PyProof.Rows
namespace F
end F
section
variable{prog:Program}{w:World}{A:Around}{E:VP}{s:Shared}
inductive PairsAt{K:Type}[DecidableEq K](knd:KeyKind prog w K)(h:Heap):LV->List (K×Value)->Prop
 |nil:PairsAt knd h [] []
 |cons {t:Addr}{key v:Value}{k:K}{us:LV}{kvs:List (K×Value)}:IsTup h t #[key,v]->knd.is k key=true->PairsAt knd h us kvs->PairsAt knd h (.ref t::us) ((k,v)::kvs)
end
end PySem
namespace Ev
open PySem L2
def ir(a C:Addr)(d:Option Addr):Heap->Prop:=λh=>∃o,h.get? a=some o/\o.cls=.ref C/\o.dict=d/\∃B,o.data=.fields B/\(d=none->B[2]? = some .none)
inductive P where
 |non|bl (b:Bool)|int (i:Int)|str (x:Str)|tup (xs:List P)|lst (xs:List P)|ro (xs:List P)|dct (ks:List fR) (vs:List P)
inductive D where
 |p (v:P)|ref (i:Nat)
inductive SO where
 |lst (xs:List D)|dct (ks:List fR) (vs:List D)|fz (v:P)|ins (c:Str) (ks:LS) (vs:List D)|exc (c:Str) (x:Option (Str×P))|tpl (xs:List D)|dtt (ks:List (List fR)) (vs:List D)
noncomputable abbrev aV:=List SO
noncomputable abbrev Lc:=List (Option D)
def RX(K:FG)(a:Addr)(xs:List V):Prop:=sS K (λ_=>none) a xs
def RY(K:FG)(a:Addr)(xs:List V):Prop:=j6 K (λ_=>none) a xs
def TupAt(K:FG)(H:Hp)(a:Addr)(xs:List V):Prop:=H a=some (.tup xs)\/RX K a xs
def LstAt(F:Aa)(H:Hp)(a:Addr)(xs:List V):Prop:=F a/\H a=some (.lst xs)
def Cb(K:FG)(F:Aa)(H:Hp)(a:Addr)(xs:List V):Prop:=(F a/\∃o,H a=some (.frz o (.lst xs)))\/RY K a xs
variable{K:FG}{H:Hp}{a:Addr}{xs:List V}
theorem TupAt.sq(h:TupAt K H a xs):sS K H a xs:=by
 rcases h with h|(h|h)
 .exact .inl (.inl h)
 .rcases h with h|⟨o,h⟩<;>cases h
 .exact .inr h
variable{F:Aa}
theorem LstAt.sq(h:LstAt F H a xs):j6 K H a xs:=.inl (.inl h.2)
theorem Cb.sq(h:Cb K F H a xs):j6 K H a xs:=by
 rcases h with ⟨_,o,h⟩|(h|h)
 .exact .inl (.inr ⟨o,h⟩)
 .rcases h with h|⟨o,h⟩<;>cases h
 .exact .inr h
section
variable(K:FG)(F:Aa)(H:Hp)
mutual
noncomputable def RP:P->V->Prop
 | .non,v=>v=.non
 | .bl b,v=>v=.bl b
 | .int i,v=>v=.int i
 | .str x,v=>v=.str x
 | .tup ds,v=>∃a xs,v=.ref a/\TupAt K H a xs/\dZ ds xs
 | .lst ds,v=>∃a xs,v=.ref a/\LstAt F H a xs/\dZ ds xs
 | .ro ds,v=>∃a xs,v=.ref a/\Cb K F H a xs/\dZ ds xs
 | .dct ks ds,v=>∃a kvs,v=.ref a/\F a/\H a=some (.dK kvs)/\kvs.map (·.1)=ks/\dZ ds (kvs.map (·.2))
noncomputable def dZ:List P->List V->Prop
 | [],xs=>xs=[]
 |d::ds,xs=>∃x r,xs=x::r/\RP d x/\dZ ds r
end
def RD(m:List Addr):D->V->Prop
 | .p d,v=>RP K F H d v
 | .ref i,v=>∃a,v=.ref a/\m[i]? = some a
def fy(m:List Addr):List D->List V->Prop
 | [],xs=>xs=[]
 |d::s,xs=>∃x r,xs=x::r/\RD K F H m d x/\fy m s r
def XD(x:Option (Str×P))(o:Option Addr):Prop:=match x with
 |none=>o=none
 |some z=>∃d v,o=some d/\F d/\H d=some (.xd [(z.1,v)])/\RP K F H z.2 v
def RO(m:List Addr)(a:Addr):SO->Prop
 | .lst d=>∃xs,H a=some (.lst xs)/\fy K F H m d xs
 | .dct s d=>∃k,H a=some (.dK k)/\k.map (·.1)=s/\fy K F H m d (k.map (·.2))
 | .fz v=>RP K F H v (.ref a)
 | .ins c s d=>∃C h k,bN K mainGlobals c=some (some (.ref C))/\H a=some (.ins C h k)/\k.map (·.1)=s/\fy K F H m d (k.map (·.2))
 | .dtt s d=>∃k,H a=some (.dT k)/\k.map (·.1)=s/\fy K F H m d (k.map (·.2))
 | .tpl d=>∃xs,H a=some (.tup xs)/\fy K F H m d xs
 | .exc c x=>∃C o,bN K mainGlobals c=some (some (.ref C))/\H a=some (.ext (ir a C o))/\XD K F H x o
def SO.own:SO->Prop
 | .fz _=>False
 |_=>True
structure Rel(m:List Addr)(S:aV):Prop where
 len:m.length=S.length
 nd:m.Nodup
 obj:∀(i:Nat) a o,m[i]? = some a->S[i]? = some o->RO K F H m a o
 sep:∀(i:Nat) a o,m[i]? = some a->S[i]? = some o->o.own->¬F a
 trk:∀a ∈ m,H a≠none
 ft:∀a,F a->H a≠none
end
structure Kp(F:Aa)(m:List Addr)(H:Hp)(F':Aa)(m':List Addr)(H':Hp):Prop where
 pre:∃n,m'=m++n
 frz:∀b,F b->F' b
 frk:∀b o,F b->H b=some o->H' b=some o
 tup:∀b xs,H b=some (.tup xs)->H' b=some (.tup xs)
structure Stp(F:Aa)(m:List Addr)(H:Hp)(F':Aa)(m':List Addr)(H':Hp):Prop where
 pre:∃n,m'=m++n
 oth:∀b o,H b=some o->b ∉ m->H' b=some o
 frz:∀b,F b->F' b
 frk:∀b o,F b->H b=some o->H' b=some o
 tup:∀b xs,H b=some (.tup xs)->H' b=some (.tup xs)
 trk:∀b,H b≠none->H' b≠none
 nf:∀b,F' b->F b\/H b=none\/b ∈ m
 nm:∀b,b ∈ m'->b ∈ m\/H b=none
variable{F':Aa}{m:List Addr}{m':List Addr}{H':Hp}
theorem Stp.kp(s:Stp F m H F' m' H'):Kp F m H F' m' H':=⟨s.pre,s.frz,s.frk,s.tup⟩
theorem Stp.refl:Stp F m H F m H:=
 ⟨⟨[],by simp⟩,λ_ _ h _=>h,λ_ h=>h,λ_ _ _ h=>h,λ_ _ h=>h,λ_ h=>h,λ_ h=>.inl h,λ_ h=>.inl h⟩
theorem Stp.trans(a:Stp F m H j r z)(b:Stp j r z C t I):Stp F m H C t I where
 pre:=by obtain⟨f,n⟩:=a.pre;obtain⟨p,k⟩:=b.pre;exact⟨f++p,by rw[k,n,c_]⟩
 oth:=λc o h s=>b.oth c o (a.oth c o h s) λx=>by
  rcases a.nm c x with x|x
  .exact s x
  .rw [h]at x;cases x
 frz:=λc h=>b.frz c (a.frz c h)
 frk:=λc o h e=>b.frk c o (a.frz c h) (a.frk c o h e)
 tup:=λc xs h=>b.tup c xs (a.tup c xs h)
 trk:=λc h=>b.trk c (a.trk c h)
 nf:=λc h=>by
  rcases b.nf c h with h|h|h
  .exact a.nf c h
  .by_cases e:H c=none
   .exact .inr (.inl e)
   .exact absurd h (a.trk c e)
  .rcases a.nm c h with h|h
   .exact .inr (.inr h)
   .exact .inr (.inl h)
 nm:=λc h=>by
  rcases b.nm c h with h|h
  .exact a.nm c h
  .by_cases e:H c=none
   .exact .inr e
   .exact absurd h (a.trk c e)
section
variable{K:FG}{F F':Aa}{H H':Hp}{m m':List Addr}{S N:aV}
theorem TupAt.kp(s:Kp F m H F' m' H')(h:TupAt K H a xs):TupAt K H' a xs:=by
 rcases h with h|h
 .exact .inl (s.tup _ _ h)
 .exact .inr h
theorem LstAt.kp(s:Kp F m H F' m' H')(h:LstAt F H a xs):LstAt F' H' a xs:=⟨s.frz _ h.1,s.frk _ _ h.1 h.2⟩
theorem Cb.kp(s:Kp F m H F' m' H')(h:Cb K F H a xs):Cb K F' H' a xs:=by
 rcases h with ⟨f,o,h⟩|h
 .exact .inl ⟨s.frz _ f,o,s.frk _ _ f h⟩
 .exact .inr h
mutual
theorem RP.kp(s:Kp F m H F' m' H'):∀{d:P}{v:V},RP K F H d v->RP K F' H' d v
 | .non,_,h=>h
 | .bl _,_,h=>h
 | .int _,_,h=>h
 | .str _,_,h=>h
 | .tup _,_,h=>by obtain⟨a,xs,e,t,r⟩:=h;exact⟨a,xs,e,t.kp s,dZ.kp s r⟩
 | .lst _,_,h=>by obtain⟨a,xs,e,t,r⟩:=h;exact⟨a,xs,e,t.kp s,dZ.kp s r⟩
 | .ro _,_,h=>by obtain⟨a,xs,e,t,r⟩:=h;exact⟨a,xs,e,t.kp s,dZ.kp s r⟩
 | .dct _ _,_,h=>by obtain⟨a,kvs,e,f,t,k,r⟩:=h;exact⟨a,kvs,e,s.frz _ f,s.frk _ _ f t,k,dZ.kp s r⟩
theorem dZ.kp(s:Kp F m H F' m' H'):∀{ds:List P}{xs:List V},dZ K F H ds xs->dZ K F' H' ds xs
 | [],_,h=>h
 |_::_,_,h=>by obtain⟨x,r,e,h1,h2⟩:=h;exact⟨x,r,e,RP.kp s h1,dZ.kp s h2⟩
end
theorem RD.kp(s:Kp F m H F' m' H'):∀{d:D}{v:V},RD K F H m d v->RD K F' H' m' d v
 | .p _,_,h=>RP.kp s h
 | .ref i,_,h=>by obtain⟨a,e,h⟩:=h;obtain⟨n,x⟩:=s.pre;refine⟨a,e,?_⟩;rw[x];have k:i < m.length:=(bX.mp h).1;rw[fF k];exact h
theorem fy.kp(s:Kp F m H F' m' H'):∀{d:List D}{xs:List V},fy K F H m d xs->fy K F' H' m' d xs
 | [],_,h=>h
 |_::_,_,h=>by obtain⟨x,r,e,a,n⟩:=h;exact⟨x,r,e,RD.kp s a,fy.kp s n⟩
variable{d:P}{v:V}
theorem RP.mono(s:Stp F m H F' m' H')(h:RP K F H d v):RP K F' H' d v:=RP.kp s.kp h
theorem dZ.mono(s:Stp F m H F' m' H'){d:List P}{v:List V}(h:dZ K F H d v):dZ K F' H' d v:=dZ.kp s.kp h
theorem RD.mono(s:Stp F m H F' m' H'){d:D}{v:V}(h:RD K F H m d v):RD K F' H' m' d v:=RD.kp s.kp h
theorem fy.mono(s:Stp F m H F' m' H'){d:List D}{v:List V}(h:fy K F H m d v):fy K F' H' m' d v:=fy.kp s.kp h
theorem dZ.length:∀{d:List P}{xs:List V},dZ K F H d xs->d.length=xs.length
 | [],_,h=>by rw[show _=([]:List V) from h]<;>rfl
 |_::_,_,h=>by obtain⟨x,r,e,_,a⟩:=h;rw[e,aA,aA,dZ.length a]
theorem fy.length:∀{d:List D}{xs:List V},fy K F H m d xs->d.length=xs.length
 | [],_,h=>by rw[show _=([]:List V) from h]<;>rfl
 |_::_,_,h=>by obtain⟨x,r,e,_,a⟩:=h;rw[e,aA,aA,fy.length a]
theorem dZ.get:∀{s:List P}{xs:List V}{i:Nat}{d:P},dZ K F H s xs->s[i]? = some d->∃x,xs[i]? = some x/\RP K F H d x
 | [],_,_,_,_,e=>by simp at e
 |_::_,_,0,_,h,e=>by obtain⟨x,r,rfl,n,_⟩:=h;simp at e;subst e;exact⟨x,rfl,n⟩
 |_::_,_,i+1,d,h,e=>by obtain⟨x,r,rfl,_,k⟩:=h;obtain⟨y,a,f⟩:=dZ.get (i:=i) k (by simpa using e);exact⟨y,by simpa using a,f⟩
theorem dZ.append:∀{d y:List P}{xs s:List V},dZ K F H d xs->dZ K F H y s->dZ K F H (d++y) (xs++s)
 | [],_,_,_,h,g=>by rw[show _=([]:List V) from h];exact g
 |_::_,_,_,_,h,g=>by obtain⟨x,r,rfl,a,e⟩:=h;exact⟨x,r++_,rfl,a,dZ.append e g⟩
theorem fy.append:∀{d y:List D}{xs s:List V},fy K F H m d xs->fy K F H m y s->fy K F H m (d++y) (xs++s)
 | [],_,_,_,h,g=>by rw[show _=([]:List V) from h];exact g
 |_::_,_,_,_,h,g=>by obtain⟨x,r,rfl,a,e⟩:=h;exact⟨x,r++_,rfl,a,fy.append e g⟩
theorem dZ.take:∀(n:Nat){d:List P}{xs:List V},dZ K F H d xs->dZ K F H (d.take n) (xs.take n)
 |0,_,_,_=>rfl
 |_+1,[],_,h=>by rw[show _=([]:List V) from h];rfl
 |n+1,_::_,_,h=>by obtain⟨x,r,rfl,a,e⟩:=h;exact⟨x,r.take n,rfl,a,dZ.take n e⟩
theorem dZ.drop:∀(n:Nat){d:List P}{xs:List V},dZ K F H d xs->dZ K F H (d.drop n) (xs.drop n)
 |0,_,_,h=>h
 |_+1,[],_,h=>by rw[show _=([]:List V) from h];rfl
 |n+1,_::_,_,h=>by obtain⟨x,r,rfl,_,a⟩:=h;exact dZ.drop n a
theorem fy.take:∀(n:Nat){d:List D}{xs:List V},fy K F H m d xs->fy K F H m (d.take n) (xs.take n)
 |0,_,_,_=>rfl
 |_+1,[],_,h=>by rw[show _=([]:List V) from h];rfl
 |n+1,_::_,_,h=>by obtain⟨x,r,rfl,a,e⟩:=h;exact⟨x,r.take n,rfl,a,fy.take n e⟩
theorem fy.get:∀{s:List D}{xs:List V}{i:Nat}{d:D},fy K F H m s xs->s[i]? = some d->∃x,xs[i]? = some x/\RD K F H m d x
 | [],_,_,_,_,e=>by simp at e
 |_::_,_,0,_,h,e=>by obtain⟨x,r,rfl,n,_⟩:=h;simp at e;subst e;exact⟨x,rfl,n⟩
 |_::_,_,i+1,d,h,e=>by obtain⟨x,r,rfl,_,k⟩:=h;obtain⟨y,a,f⟩:=fy.get (i:=i) k (by simpa using e);exact⟨y,by simpa using a,f⟩
theorem fy.ofP:∀{d:List P}{xs:List V},dZ K F H d xs->fy K F H m (d.map .p) xs
 | [],_,h=>h
 |_::_,_,h=>by obtain⟨x,r,e,a,s⟩:=h;exact⟨x,r,e,a,fy.ofP s⟩
variable{p:Addr}
theorem Rel.fresh_m(r:Rel K F H m S)(h:H p=none):p ∉ m:=λz=>r.trk p z h
theorem Rel.fresh_F(r:Rel K F H m S)(h:H p=none):¬F p:=λz=>r.ft p z h
variable{o:HO}
theorem jC(x:H p=none):Stp F m H F m (upd H p o) where
 pre:=⟨[],by simp⟩
 oth:=λb u h _=>by rw[aR (by rintro rfl;rw[x]at h;cases h)];exact h
 frz:=λ_ h=>h
 frk:=λb u _ h=>by rw[aR (by rintro rfl;rw[x]at h;cases h)];exact h
 tup:=λb u h=>by rw[aR (by rintro rfl;rw[x]at h;cases h)];exact h
 trk:=λb h=>by
  by_cases e:b=p
  .subst e;rw[bc];exact λz=>nomatch z
  .rw [aR e];exact h
 nf:=λ_ h=>.inl h
 nm:=λ_ h=>.inl h
theorem XD.kp(s:Kp F m H F' m' H')(h:XD K F H x k):XD K F' H' x k:=by
 cases x with
 |none=>exact h
 |some z=>obtain⟨a,v,e,f,d,r⟩:=h;exact⟨a,v,e,s.frz _ f,s.frk _ _ f d,RP.kp s r⟩
theorem RO.kp(s:Kp F m H F' m' H'){a:Addr}{o:SO}(k:∀u,H a=some u->H' a=some u)(h:RO K F H m a o):RO K F' H' m' a o:=by
 cases o with
 |lst d=>obtain⟨xs,e,r⟩:=h;exact⟨xs,k _ e,fy.kp s r⟩
 |dct t d=>obtain⟨f,e,b,r⟩:=h;exact⟨f,k _ e,b,fy.kp s r⟩
 |fz v=>exact RP.kp s (show RP K F H v (.ref a) from h)
 |ins c t d=>obtain⟨C,p,f,n,e,b,r⟩:=h;exact⟨C,p,f,n,k _ e,b,fy.kp s r⟩
 |dtt t d=>obtain⟨f,e,b,r⟩:=h;exact⟨f,k _ e,b,fy.kp s r⟩
 |tpl d=>obtain⟨xs,e,r⟩:=h;exact⟨xs,k _ e,fy.kp s r⟩
 |exc c x=>obtain⟨C,q,n,e,r⟩:=h;exact⟨C,q,n,k _ e,r.kp s⟩
theorem RO.mono(s:Stp F m H F' m' H'){a:Addr}{o:SO}(k:∀u,H a=some u->H' a=some u)(h:RO K F H m a o):RO K F' H' m' a o:=RO.kp s.kp k h
theorem Rel.stayK(r:Rel K F H m S)(s:Kp F m H F' m H')(k:∀a u,a ∈ m->H a=some u->H' a=some u)(n:∀a,F' a->F a\/H a=none)(t:∀a,F' a->H' a≠none):Rel K F' H' m S where
 len:=r.len
 nd:=r.nd
 obj:=λi a o e x=>(r.obj i a o e x).kp s λu h=>k a u (eL e) h
 sep:=λi a o e x w f=>by
  rcases n a f with f|f
  .exact r.sep i a o e x w f
  .exact r.trk a (eL e) f
 trk:=λa h=>by
  cases q:H a with
  |none=>exact absurd q (r.trk a h)
  |some u=>rw[k a u h q];exact λz=>nomatch z
 ft:=t
theorem Rel.stay(r:Rel K F H m S)(s:Stp F m H F' m H')(k:∀a u,a ∈ m->H a=some u->H' a=some u)(n:∀a,F' a->F a\/H a=none)(t:∀a,F' a->H' a≠none):Rel K F' H' m S where
 len:=r.len
 nd:=r.nd
 obj:=λi a o e x=>(r.obj i a o e x).mono s λu h=>k a u (eL e) h
 sep:=λi a o e x w f=>by
  rcases n a f with f|f
  .exact r.sep i a o e x w f
  .exact r.trk a (eL e) f
 trk:=λa h=>s.trk a (r.trk a h)
 ft:=t
theorem Rel.new(r:Rel K F H m S)(x:H p=none):Rel K F (upd H p o) m S:=
 r.stay (jC x) (λa u e h=>by rw[aR (by rintro rfl;exact r.fresh_m x e)];exact h) (λ_ f=>.inl f) λa f=>(jC (F:=F) (m:=m) x).trk a (r.ft a f)
theorem kZ{p:Addr}{o:HO}(x:H p=none):Stp F m H F (m++[p]) (upd H p o) where
 pre:=⟨[p],rfl⟩
 oth:=(jC (F:=F) (m:=m) (o:=o) x).oth
 frz:=λ_ h=>h
 frk:=(jC (F:=F) (m:=m) (o:=o) x).frk
 tup:=(jC (F:=F) (m:=m) (o:=o) x).tup
 trk:=(jC (F:=F) (m:=m) (o:=o) x).trk
 nf:=λ_ h=>.inl h
 nm:=λb h=>by
  rcases kQ.mp h with h|h
  .exact .inl h
  .have:b=p:=by simpa using h
   subst this;exact .inr x
theorem Rel.own(r:Rel K F H m S){p:Addr}{o:HO}{so:SO}(n:H p=none)(q:RO K F (upd H p o) (m++[p]) p so):Rel K F (upd H p o) (m++[p]) (S++[so]) where
 len:=by rw[aI,aI,r.len];rfl
 nd:=by
  rw[zm];refine⟨r.nd,by simp,λa c b t e=>?_⟩;have:b=p:=by simpa using t
  subst this;subst e;exact r.fresh_m n c
 obj:=λi a u x s=>by
  by_cases k:i < m.length
  .rw [fF k]at x;rw[fF (by rw[<- r.len];exact k)]at s;exact(r.obj i a u x s).mono (kZ n) λw h=>by rw[aR (by rintro rfl;rw[n]at h;cases h)];exact h
  .have l:i=m.length:=by
    have:=(bX.mp x).1;rw[aI]at this;simp at this;lia
   subst l;rw[iM (ar _)]at x;rw[r.len,iM (ar _)]at s;simp at x s;subst x;subst s;exact q
 sep:=λi a u x s w f=>by
  by_cases k:i < m.length
  .rw [fF k]at x;rw[fF (by rw[<- r.len];exact k)]at s;exact r.sep i a u x s w f
  .have l:i=m.length:=by
    have:=(bX.mp x).1;rw[aI]at this;simp at this;lia
   subst l;rw[iM (ar _)]at x;simp at x;subst x;exact r.fresh_F n f
 trk:=λa h=>by
  rcases kQ.mp h with h|h
  .exact (kZ (F:=F) (m:=m) n).trk a (r.trk a h)
  .have:a=p:=by simpa using h
   subst this;rw[bc];exact λz=>nomatch z
 ft:=λa f=>(kZ (F:=F) (m:=m) n).trk a (r.ft a f)
variable{i:Nat}
theorem jB(r:Rel K F H m S)(x:m[i]? = some p)(s:S[i]? = some k)(w:k.own)(t:∀xs,H p≠some (.tup xs)):Stp F m H F m (upd H p o) where
 pre:=⟨[],by simp⟩
 oth:=λb u h a=>by rw[aR (by rintro rfl;exact a (eL x))];exact h
 frz:=λ_ h=>h
 frk:=λb u f h=>by rw[aR (by rintro rfl;exact r.sep i _ k x s w f)];exact h
 tup:=λb xs h=>by rw[aR (by rintro rfl;exact t xs h)];exact h
 trk:=λb h=>by
  by_cases e:b=p
  .subst e;rw[bc];exact λz=>nomatch z
  .rw [aR e];exact h
 nf:=λ_ h=>.inl h
 nm:=λ_ h=>.inl h
theorem ww(h:m.Nodup)(e:m[i]? = some a)(x:m[k]? = some a):i=k:=by exact(List.getElem?_inj (bX.mp e).1 h).mp (e.trans x.symm)
theorem Rel.set(r:Rel K F H m S){i:Nat}{p:Addr}{q b:SO}{o:HO}(s:m[i]? = some p)(k:S[i]? = some q)(c:q.own)(t:∀xs,H p≠some (.tup xs))(v:RO K F (upd H p o) m p b) :
  Rel K F (upd H p o) m (S.set i b) where
 len:=by rw[fk];exact r.len
 nd:=r.nd
 obj:=λj a u e x=>by
  by_cases n:i=j
  .subst n;rw[s]at e;cases e;rw[eM (by exact(bX.mp k).1)]at x;cases x;exact v
  .rw [dC n]at x;exact(r.obj j a u e x).mono (jB r s k c t) λw h=>by rw[aR (by rintro rfl;exact n (ww r.nd s e))];exact h
 sep:=λj a u e x w f=>by
  by_cases n:i=j
  .subst n;rw[s]at e;cases e;exact r.sep i p q s k c f
  .rw [dC n]at x;exact r.sep j a u e x w f
 trk:=λa h=>(jB (o:=o) r s k c t).trk a (r.trk a h)
 ft:=λa f=>(jB (o:=o) r s k c t).trk a (r.ft a f)
theorem pA(x:p ∈ m):Stp F m H (λb=>F b\/b=p) m H:=
 ⟨⟨[],by simp⟩,fun _ _ h _=>h,fun _ h=>.inl h,fun _ _ _ h=>h,fun _ _ h=>h,fun _ h=>h,fun b h=>by
  rcases h with h|h
  .exact .inl h
  .subst h;exact .inr (.inr x),λ_ h=>.inl h⟩
theorem Rel.frz(r:Rel K F H m S){i:Nat}{p:Addr}{c:SO}{v:P}(n:m[i]? = some p)(k:S[i]? = some c)(o:RP K (λb=>F b\/b=p) H v (.ref p)):Rel K (λb=>F b\/b=p) H m (S.set i (.fz v)) where
 len:=by rw[fk];exact r.len
 nd:=r.nd
 obj:=λj a u x e=>by
  by_cases s:i=j
  .subst s;rw[n]at x;cases x;rw[eM (by exact(bX.mp k).1)]at e;cases e;exact o
  .rw [dC s]at e;exact(r.obj j a u x e).mono (pA (eL n)) λw h=>h
 sep:=λj a u x e w f=>by
  by_cases s:i=j
  .subst s;rw[eM (by exact(bX.mp k).1)]at e;cases e;exact w
  .rw [dC s]at e;rcases f with f|f
   .exact r.sep j a u x e w f
   .subst f;exact s (ww r.nd n x)
 trk:=r.trk
 ft:=λa f=>by
  rcases f with f|f
  .exact r.ft a f
  .subst f;exact r.trk _ (eL n)
end
noncomputable abbrev EE:=Lc->aV->Option (D×aV)
noncomputable abbrev FK:=Option (D×aV)
noncomputable abbrev EV:=Lc->aV->Option (P×aV)
noncomputable abbrev tyV:=Option (P×aV)
noncomputable abbrev EB:=Lc->aV->Option (Bool×aV)
noncomputable abbrev Mu:=Option (Bool×aV)
noncomputable abbrev jR:=Lc->aV->Option (List P×aV)
noncomputable abbrev JN:=Option (List P×aV)
inductive Fl where
 |nx|rt (d:D)|bk|ct
noncomputable abbrev ES:=Lc->aV->Option (Fl×Lc×aV)
noncomputable abbrev GL:=Option (Fl×Lc×aV)
variable{α:Type}{β:Type}
noncomputable def cY(x:Option (α×aV))(f:α->aV->Option β):Option β:=match x with
 |some (a,S)=>f a S
 |none=>none
@[simp] theorem jq(a:α)(S:aV)(f:α->aV->Option β):cY (some (a,S)) f=f a S:=rfl
@[simp] theorem OX(f:α->aV->Option β):cY none f=none:=rfl
theorem ao{α β:Type}{x:Option (α×aV)}{f:α->aV->Option β}{r:β}(h:cY x f=some r):∃a S,x=some (a,S)/\f a S=some r:=by
 cases x with
 |none=>cases h
 |some p=>exact⟨p.1,p.2,rfl,h⟩
def x8(f:D->aV->Option (P×aV)):List D->aV->Option (List P×aV)
 | [],S=>some ([],S)
 |d::r,S=>cY (f d S) λv h=>cY (x8 f r h) λB x=>some (v::B,x)
def uH:Nat->D->aV->Option (P×aV)
 |_,.p v,S=>some (v,S)
 |0,.ref _,_=>none
 |n+1,.ref i,S=>match S[i]? with
  |some (.lst d)=>cY (x8 (uH n) d S) λB h=>some (.lst B,h.set i (.fz (.lst B)))
  |some (.dct k d)=>cY (x8 (uH n) d S) λB h=>some (.dct k B,h.set i (.fz (.dct k B)))
  |some (.fz v)=>some (v,S)
  |some (.ins _ _ _)=>none
  |some (.exc _ _)=>none
  |some (.tpl d)=>cY (x8 (uH n) d S) λB h=>some (.tup B,h.set i (.fz (.tup B)))
  |some (.dtt _ _)=>none
  |none=>none
@[simp] theorem C8(n:Nat)(v:P)(S:aV):uH n (.p v) S=some (v,S):=by cases n<;>rfl
theorem AE(n:Nat):∀(B:List P)(S:aV),x8 (uH n) (B.map .p) S=some (B,S)
 | [],_=>rfl
 |v::r,S=>by simp[x8,AE n r S]
variable{n:Nat}{S:aV}{B:List P}
theorem Al(h:S[i]? = some (.lst (B.map .p))):uH (n+1) (.ref i) S=some (.lst B,S.set i (.fz (.lst B))):=by simp[uH,h,AE]
section
variable{K:FG}{F:Aa}{H:Hp}{m:List Addr}{S N:aV}
theorem pD 
  (n:∀{d:D}{x:V}{v:P}{F:Aa}{S N:aV},f d S=some (v,N)->Rel K F H m S->RD K F H m d x->∃F',Stp F m H F' m H/\Rel K F' H m N/\N.length=S.length/\RP K F' H v x) :
  ∀{s:List D}{xs:List V}{B:List P}{F:Aa}{S N:aV},x8 f s S=some (B,N)->Rel K F H m S->fy K F H m s xs->∃F',Stp F m H F' m H/\Rel K F' H m N/\N.length=S.length/\dZ K F' H B xs
 | [],xs,B,F,S,N,h,r,a=>by cases h;exact⟨F,.refl,r,rfl,a⟩
 |d::s,xs,B,F,S,N,h,r,a=>by obtain⟨x,z,e,p,q⟩:=a;obtain⟨v,o,c,h⟩:=ao h;obtain⟨E,A,t,h⟩:=ao h;cases h;obtain⟨j,k,i,l,u⟩:=n c r p;obtain⟨C,b,y,w,g⟩:=pD n t i (fy.mono k q);exact⟨C,k.trans b,y,w.trans l,x,z,e,RP.mono b u,g⟩
theorem nB:∀(n:Nat){d:D}{x:V}{v:P}{F:Aa}{S N:aV},uH n d S=some (v,N)->Rel K F H m S->RD K F H m d x->∃F',Stp F m H F' m H/\Rel K F' H m N/\N.length=S.length/\RP K F' H v x
 |n,.p w,x,v,F,S,N,h,r,E=>by rw[C8]at h;cases h;exact⟨F,.refl,r,rfl,E⟩
 |0,.ref i,x,v,F,S,N,h,r,E=>by cases h
 |n+1,.ref i,x,v,F,S,N,h,r,E=>by
  obtain⟨a,e,f⟩:=E;subst e;have t:i < S.length:=by rw[<- r.len];exact(bX.mp f).1
  obtain⟨o,L⟩:∃o,S[i]? = some o:=⟨S[i],by simp[t]⟩;have C:=r.obj i a o f L;simp only[uH,L]at h;cases o with
  |fz w=>cases h;exact⟨F,.refl,r,rfl,C⟩
  |ins c M G=>cases h
  |exc c x=>cases h
  |dtt _ _=>cases h
  |lst G=>obtain⟨B,k,p,h⟩:=ao h;cases h;obtain⟨xs,u,z⟩:=C;obtain⟨j,A,y,l,g⟩:=pD (λh=>nB n h) p r z;obtain⟨Q,s⟩:∃o,k[i]? = some o:=⟨k[i]'(by rw[l];exact t),by simp[l,t]⟩;have st:Stp j m H (λb=>j b\/b=a) m H:=pA (eL f);have q:RP K (λb=>j b\/b=a) H (.lst B) (.ref a):=⟨a,xs,rfl,⟨.inr rfl,u⟩,dZ.mono st g⟩;exact⟨_,A.trans st,y.frz f s q,by rw[fk];exact l,q⟩
  |tpl G=>obtain⟨B,k,p,h⟩:=ao h;cases h;obtain⟨xs,u,z⟩:=C;obtain⟨j,A,y,l,g⟩:=pD (λh=>nB n h) p r z;obtain⟨Q,s⟩:∃o,k[i]? = some o:=⟨k[i]'(by rw[l];exact t),by simp[l,t]⟩;have st:Stp j m H (λb=>j b\/b=a) m H:=pA (eL f);have q:RP K (λb=>j b\/b=a) H (.tup B) (.ref a):=⟨a,xs,rfl,.inl u,dZ.mono st g⟩;exact⟨_,A.trans st,y.frz f s q,by rw[fk];exact l,q⟩
  |dct M G=>obtain⟨B,k,p,h⟩:=ao h;cases h;obtain⟨I,u,R,z⟩:=C;obtain⟨j,A,y,l,g⟩:=pD (λh=>nB n h) p r z;obtain⟨Q,s⟩:∃o,k[i]? = some o:=⟨k[i]'(by rw[l];exact t),by simp[l,t]⟩;have st:Stp j m H (λb=>j b\/b=a) m H:=pA (eL f);have q:RP K (λb=>j b\/b=a) H (.dct M B) (.ref a):=⟨a,I,rfl,.inr rfl,u,R,dZ.mono st g⟩;exact⟨_,A.trans st,y.frz f s q,by rw[fk];exact l,q⟩
end
structure Grow(F:Aa)(H:Hp)(F':Aa)(H':Hp):Prop where
 keep:∀b o,H b=some o->H' b=some o
 frz:∀b,F b->F' b
 nf:∀b,F' b->F b\/(H b=none/\H' b≠none)
section
variable{K:FG}{F F' j C:Aa}{H H' z I:Hp}{m:List Addr}{S N:aV}
theorem Grow.refl:Grow F H F H:=⟨λ_ _ h=>h,λ_ h=>h,λ_ h=>.inl h⟩
theorem Grow.stp(g:Grow F H F' H'):Stp F m H F' m H' where
 pre:=⟨[],by simp⟩
 oth:=λb o h _=>g.keep b o h
 frz:=g.frz
 frk:=λb o _ h=>g.keep b o h
 tup:=λb xs h=>g.keep b _ h
 trk:=λb h=>by
  cases q:H b with
  |none=>exact absurd q h
  |some o=>rw[g.keep b o q];exact λz=>nomatch z
 nf:=λb h=>by
  rcases g.nf b h with h|⟨h,_⟩
  .exact .inl h
  .exact .inr (.inl h)
 nm:=λ_ h=>.inl h
theorem Rel.grow(r:Rel K F H m S)(g:Grow F H F' H'):Rel K F' H' m S:=
 r.stay g.stp (fun a u _ h=>g.keep a u h) (fun a f=>by
  rcases g.nf a f with f|⟨f,_⟩
  .exact .inl f
  .exact .inr f) λa f=>by
  rcases g.nf a f with f|⟨_,f⟩
  .exact (g.stp (m:=m)).trk a (r.ft a f)
  .exact f
theorem cG{p:Addr}{o:HO}(x:H p=none):Grow F H F (upd H p o):=
 ⟨λb u h=>by rw[aR (by rintro rfl;rw[x]at h;cases h)];exact h,λ_ h=>h,λ_ h=>.inl h⟩
theorem cX{p:Addr}{o:HO}(x:H p=none):Grow F H (λb=>F b\/b=p) (upd H p o):=
 ⟨fun b u h=>by rw [aR (by rintro rfl;rw [x] at h;cases h)];exact h,fun _ h=>.inl h,fun b h=>by
  rcases h with h|h
  .exact .inl h
  .subst h;exact .inr ⟨x,by rw[bc];exact λz=>nomatch z⟩⟩
theorem RP.grow(g:Grow F H F' H')(h:RP K F H d v):RP K F' H' d v:=RP.mono (m:=[]) g.stp h
theorem dZ.grow(g:Grow F H F' H')(h:dZ K F H d v):dZ K F' H' d v:=dZ.mono (m:=[]) g.stp h
theorem RP.newTup(x:H p=none)(r:dZ K F H h xs):RP K F (upd H p (.tup xs)) (.tup h) (.ref p):=⟨p,xs,rfl,.inl bc,r.grow (cG x)⟩
theorem RP.newLst(x:H p=none)(r:dZ K F H h xs):RP K (λb=>F b\/b=p) (upd H p (.lst xs)) (.lst h) (.ref p):=⟨p,xs,rfl,⟨.inr rfl,bc⟩,r.grow (cX x)⟩
end
@[simp] def vC(v:P)(_L:Lc)(S:aV):tyV:=some (v,S)
def gm(i:Nat)(L:Lc)(S:aV):FK:=match L[i]? with
 |some (some d)=>some (d,S)
 |_=>none
@[simp] def vE(f:EE)(L:Lc)(S:aV):tyV:=cY (f L S) (uH 9)
@[simp] def U(f:EV)(L:Lc)(S:aV):FK:=cY (f L S) λv h=>some (.p v,h)
@[simp] def rg(g:P->P->Option P)(a b:EV)(L:Lc)(S:aV):tyV:=cY (a L S) λx h=>cY (b L h) λy e=>(g x y).map λv=>(v,e)
@[simp] def xh(g:P->Option P)(a:EV)(L:Lc)(S:aV):tyV:=cY (a L S) λx h=>(g x).map λv=>(v,h)
@[simp] def bV(a:EV)(L:Lc)(S:aV):Mu:=cY (a L S) λx h=>match x with
 | .bl b=>some (b,h)
 |_=>none
@[simp] def cH(a b:EB)(L:Lc)(S:aV):Mu:=cY (a L S) λc h=>if c=true then b L h else some (false,h)
@[simp] def pJ(a b:EB)(L:Lc)(S:aV):Mu:=cY (a L S) λc h=>if c=true then some (true,h) else b L h
@[simp] def ll(a:EB)(L:Lc)(S:aV):Mu:=cY (a L S) λc h=>some (!c,h)
@[simp] def vB(a:EB)(L:Lc)(S:aV):tyV:=cY (a L S) λc h=>some (.bl c,h)
@[simp] def IT(c:EB)(a b:EV)(L:Lc)(S:aV):tyV:=cY (c L S) λk h=>if k=true then a L h else b L h
@[simp] def gu(_L:Lc)(S:aV):JN:=some ([],S)
@[simp] def aZ(a:EV)(r:jR)(L:Lc)(S:aV):JN:=cY (a L S) λx h=>cY (r L h) λxs e=>some (x::xs,e)
@[simp] def cU(g:List P->Option P)(a:jR)(L:Lc)(S:aV):tyV:=cY (a L S) λxs h=>(g xs).map λv=>(v,h)
@[simp] def df(L:Lc)(S:aV):GL:=some (.nx,L,S)
@[simp] def ag(f g:ES)(L:Lc)(S:aV):GL:=match f L S with
 |some (.nx,h,x)=>g h x
 |r=>r
@[simp] def aG(i:Nat)(f:EE)(L:Lc)(S:aV):GL:=cY (f L S) λd h=>some (.nx,L.set i (some d),h)
@[simp] def br(f:EE)(L:Lc)(S:aV):GL:=cY (f L S) λd h=>some (.rt d,L,h)
@[simp] def aU(f:EE)(L:Lc)(S:aV):GL:=cY (f L S) λ_ h=>some (.nx,L,h)
@[simp] def bY(c:EB)(a b:ES)(L:Lc)(S:aV):GL:=cY (c L S) λk h=>if k=true then a L h else b L h
noncomputable def bD:ES:=λ_ _=>none
noncomputable def Mx:ES:=λL S=>some (.ct,L,S)
noncomputable abbrev lB:=P->Lc->Option Lc
noncomputable def gI(i:Nat):lB:=λv L=>some (L.set i (some (.p v)))
noncomputable def dX(g:lB)(b:ES):List P->Lc->aV->Option (Fl×Lc×aV)
 | [],L,S=>some (.nx,L,S)
 |v::r,L,S=>match g v L with
  |none=>none
  |some a=>match b a S with
   |some (.nx,L2,h)=>dX g b r L2 h
   |some (.ct,L2,h)=>dX g b r L2 h
   |some (.bk,L2,h)=>some (.nx,L2,h)
   |x=>x
@[simp] def uP(i:jR)(g:lB)(b:ES)(L:Lc)(S:aV):GL:=cY (i L S) λxs h=>dX g b xs L h
def aY(c:EB)(b:ES):Nat->Lc->aV->Option (Fl×Lc×aV)
 |0,_,_=>none
 |n+1,L,S=>cY (c L S) λk a=>if k=true then match b L a with
   |some (.nx,L2,h)=>aY c b n L2 h
   |some (.ct,L2,h)=>aY c b n L2 h
   |some (.bk,L2,h)=>some (.nx,L2,h)
   |x=>x
  else some (.nx,L,a)
def eD(n:Nat)(c:EB)(b:ES):ES:=aY c b n
open PySem PySem.Spec PyProof.Rows L2
section
variable(K:FG)
structure RL(F:Aa)(H:Hp)(m:List Addr)(J:L2.St)(L:Lc):Prop where
 len:J.length=L.length
 at':∀(i:Nat) d,L[i]? = some (some d)->∃v,J[i]? = some (some v)/\RD K F H m d v
inductive tEI(f:EE)(J:L2.St)(H:Hp)(Q:VK):Prop
 |mk (F:Aa) (m:List Addr) (L:Lc) (S:aV) (d:D) (S':aV) (h0_:Rel K F H m S) (h1_:RL K F H m J L) (h2_:f L S=some (d,S')) (h3_:∀v F' m' H',Stp F m H F' m' H'->Rel K F' H' m' S'->RD K F' H' m' d v->Q v H'):tEI f J H Q
noncomputable def tE(f:EE):TE:=λJ H Q=>tEI K f J H Q
inductive tVI(f:EV)(J:L2.St)(H:Hp)(Q:VK):Prop
 |mk (F:Aa) (m:List Addr) (L:Lc) (S:aV) (d:P) (S':aV) (h0_:Rel K F H m S) (h1_:RL K F H m J L) (h2_:f L S=some (d,S')) (h3_:∀v F' m' H',Stp F m H F' m' H'->Rel K F' H' m' S'->RP K F' H' d v->Q v H'):tVI f J H Q
noncomputable def tV(f:EV):TE:=λJ H Q=>tVI K f J H Q
inductive tQI(f:EB)(J:L2.St)(H:Hp)(Q:Bool->Hp->Prop):Prop
 |mk (F:Aa) (m:List Addr) (L:Lc) (S:aV) (b:Bool) (S':aV) (h0_:Rel K F H m S) (h1_:RL K F H m J L) (h2_:f L S=some (b,S')) (h3_:∀F' m' H',Stp F m H F' m' H'->Rel K F' H' m' S'->Q b H'):tQI f J H Q
noncomputable def tQ(f:EB):TT:=λJ H Q=>tQI K f J H Q
inductive tVsI(f:jR)(J:L2.St)(H:Hp)(Q:List V->Hp->Prop):Prop
 |mk (F:Aa) (m:List Addr) (L:Lc) (S:aV) (ds:List P) (S':aV) (h0_:Rel K F H m S) (h1_:RL K F H m J L) (h2_:f L S=some (ds,S')) (h3_:∀xs F' m' H',Stp F m H F' m' H'->Rel K F' H' m' S'->dZ K F' H' ds xs->Q xs H'):tVsI f J H Q
noncomputable def vN(f:jR):TA:=λJ H Q=>tVsI K f J H Q
def QE(D:Ends)(F:Aa)(m:List Addr)(J:L2.St)(H:Hp):Fl->Prop
 | .nx=>D.nx J H
 | .bk=>D.bk J H
 | .ct=>D.ct J H
 | .rt d=>∀v,RD K F H m d v->D.rt v H
inductive tStI(f:ES)(D:Ends)(J:L2.St)(H:Hp):Prop
 |mk (F:Aa) (m:List Addr) (L:Lc) (S:aV) (fl:Fl) (L':Lc) (S':aV) (h0_:Rel K F H m S) (h1_:RL K F H m J L) (h2_:f L S=some (fl,L',S')) (h3_:∀J' F' m' H',Stp F m H F' m' H'->Rel K F' H' m' S'->RL K F' H' m' J' L'->QE K D F' m' J' H' fl):tStI f D J H
noncomputable def jT(f:ES):TS:=λD J H=>tStI K f D J H
end
section
variable{K:FG}{F F':Aa}{H H':Hp}{m m':List Addr}{J:L2.St}{L:Lc}{S:aV}
theorem RL.mono(s:Stp F m H F' m' H')(h:RL K F H m J L):RL K F' H' m' J L:=⟨h.len,λi d e=>by obtain⟨v,x,r⟩:=h.at' i d e;exact⟨v,x,RD.mono s r⟩⟩
theorem RL.set (h:RL K F H m J L) (r:RD K F H m d v) (i:Nat):RL K F H m (J.set i (some v)) (L.set i (some d)):=⟨by rw [fk,fk];exact h.len,fun j e q=>by
 by_cases x:i=j
 .subst x;by_cases a:i < L.length
  .rw [eM a]at q;cases q;exact⟨v,eM (by rw[h.len];exact a),r⟩
  .rw [ud (by rw[fk];lia)]at q;cases q
 .rw [dC x]at q;rw[dC x];exact h.at' j e q⟩
end
section
variable{X:Cx}{e:Expr}{y:Ab}{st:Stmt}{sts:List Stmt}
theorem _root_.L2.PE.imp'(h:PE X e t)(i:∀J H Q,k J H Q->t J H Q):PE X e k:=λp s J H Q I q=>h p s J H Q I (i J H Q q)
theorem _root_.L2.PT.imp'(h:PT X e t)(i:∀J H Q,k J H Q->t J H Q):PT X e k:=λp s J H Q I q=>h p s J H Q I (i J H Q q)
theorem _root_.L2.PW.imp'(h:PW X e t)(i:∀J H Q,k J H Q->t J H Q):PW X e k:=λw p s J H Q I q=>h w p s J H Q I (i J H Q q)
theorem _root_.L2.PA.imp'(h:PA X y t)(i:∀J H Q,k J H Q->t J H Q):PA X y k:=λM p s J H Q I q=>h M p s J H Q I (i J H Q q)
theorem _root_.L2.PS.imp'(h:PS X st t)(i:∀D J H,k D J H->t D J H):PS X st k:=λp s J H D I q=>h p s J H D I (i D J H q)
theorem _root_.L2.iF.imp'(h:iF X sts t)(i:∀D J H,k D J H->t D J H):iF X sts k:=λp s J H D I q=>h p s J H D I (i D J H q)
end
section
variable{X:Cx}{a b c e:Expr}{y:Ab}{fa fb:EV}{fe:EE}{M:Pos}
theorem R3(h:PE X e (tE X.K fe)):PE X e (tV X.K (vE fe)):=h.imp' λJ H Q z=>by obtain⟨F,m,L,S,d,N,r,l,q,k⟩:=z;obtain⟨a,x,n,f⟩:=ao q;refine⟨F,m,L,S,a,x,r,l,n,λv F' m' H' s b t=>?_⟩;obtain⟨C,w,c,_,p⟩:=nB 9 f b t;exact k v C m' H' (s.trans w) c p
theorem Ms(h:PE X e (tV X.K fa)):PE X e (tE X.K (U fa)):=h.imp' λJ H Q z=>by obtain⟨F,m,L,S,d,N,r,l,q,k⟩:=z;obtain⟨x,c,a,n⟩:=ao q;cases n;exact⟨F,m,L,S,x,N,r,l,a,λv F' m' H' s f b=>k v F' m' H' s f b⟩
theorem M6(i:Nat)(s:X.N[i]? = some x:=by rfl)(f:FO X.e.scope x:=by first|exact Or.inl rfl|exact Or.inr (Or.inl rfl)|exact Or.inr (Or.inr rfl))(n:(x == ("__debug__":Str))=false:=by decide)
  (h:(x == ("__classdict__":Str))=false:=by decide):PE X (.Name x M) (tE X.K (gm i)):=(xY s f n h).imp' λJ H Q z=>by
 obtain⟨F,m,L,S,d,N,r,l,q,k⟩:=z;unfold gm at q;split at q
 .rename_i c e;cases q;obtain⟨v,a,b⟩:=l.at' i _ e;exact⟨v,a,k v F m H .refl r b⟩
 .cases q
theorem xC(h:PE X e (tC v))(r:∀F H,RP X.K F H d v):PE X e (tV X.K (vC d)):=h.imp' λJ H Q z=>by obtain⟨F,m,L,S,a,N,x,l,q,k⟩:=z;cases q;exact k v F m H .refl x (r F H)
theorem Qm {i h M}:PE X (.Constant (.int i) h M) (tV X.K (vC (.int i))):=xC Kw λ_ _=>rfl
theorem SM {i h M}:PE X (.Constant (.bool i) h M) (tV X.K (vC (.bl i))):=xC NV λ_ _=>rfl
theorem Qh {h M}:PE X (.Constant .none h M) (tV X.K (vC .non)):=xC Kv λ_ _=>rfl
theorem M7 {i h M}:PE X (.Constant (.str i) h M) (tV X.K (vC (.str i))):=xC Ks λ_ _=>rfl
inductive rPI(K:FG)(g:P->P->Option P)(x:V)(y:V)(H:Hp)(Q:VK):Prop
 |mk (F:Aa) (dx:P) (dy:P) (d:P) (h0_:(∀a,F a->H a≠none)) (h1_:RP K F H dx x) (h2_:RP K F H dy y) (h3_:g dx dy=some d) (h4_:∀v F' H',Grow F H F' H'->RP K F' H' d v->Q v H'):rPI K g x y H Q
noncomputable def rP(K:FG)(g:P->P->Option P):R2:=λx y H Q=>rPI K g x y H Q
def rV(X:Cx)(f:Value->Value->Sem Value)(g:P->P->Option P):Prop:=kc X f (rP X.K g)
theorem uK(h:tV X.K (rg g fa fb) J H t):JZ (rP X.K g) (tV X.K fa) (tV X.K fb) J H t:=by
 obtain⟨F,m,L,S,d,N,r,l,q,k⟩:=h;obtain⟨x,s,K,q⟩:=ao q;obtain⟨y,o,P,q⟩:=ao q;refine⟨F,m,L,S,x,s,r,l,K,λv j A z b M D=>?_⟩;refine⟨j,A,L,s,y,o,M,l.mono b,P,λu C B I c f E=>?_⟩;cases e:g x y with
 |none=>rw[e]at q;cases q
 |some a=>rw[e]at q;cases q;refine⟨C,x,y,_,f.ft,RP.mono c D,E,e,λw p i n G=>?_⟩;exact k w p B i (b.trans (c.trans n.stp)) (f.grow n) G
theorem SI(o:rV X (binaryOp k) g)(x:PE X a (tV X.K fa))(e:PE X b (tV X.K fb)):PE X (.BinOp a k b M) (tV X.K (rg g fa fb)):=
 (NT o x e).imp' λ_ _ _ h=>uK h
theorem Qo(o:rV X (compareOp k) g)(x:PE X a (tV X.K fa))(e:PE X b (tV X.K fb))(m:behindInMarks k b=false):PE X (.Compare a [k] [b] M) (tV X.K (rg g fa fb)):=
 (Ax o x e m).imp' λ_ _ _ h=>uK h
theorem C_(h:tQ X.K (bV (rg g fa fb)) J H t):IW (JZ (rP X.K g) (tV X.K fa) (tV X.K fb)) J H t:=by
 refine uK ?_;obtain⟨F,m,L,S,d,N,r,l,q,k⟩:=h;obtain⟨x,n,e,q⟩:=ao q;cases x with
 |bl b=>cases q;exact⟨F,m,L,S,_,_,r,l,e,λv F' m' H' s a p=>⟨_,p,k F' m' H' s a⟩⟩
 |_=>cases q
theorem P_(o:rV X (compareOp k) g)(x:PE X a (tV X.K fa))(e:PE X b (tV X.K fb))(m:behindInMarks k b=false):PT X (.Compare a [k] [b] M) (tQ X.K (bV (rg g fa fb))):=
 (Av o x e m).imp' λ_ _ _ h=>C_ h
variable{Q qb:EB}{u:Ab}
theorem MY(h:PT X a (tQ X.K Q)):PW X (.BoolOp .And [a] M) (tQ X.K Q):=Hf h
theorem P8(h:PT X a (tQ X.K Q)):PW X (.BoolOp .Or [a] M) (tQ X.K Q):=Kh h
theorem P'(f:PT X a (tQ X.K Q))(t:PW X (.BoolOp .And (b::u) M) (tQ X.K qb)):PW X (.BoolOp .And (a::b::u) M) (tQ X.K (cH Q qb)):=
 (Ki f t).imp' λJ H h z=>by
  obtain⟨F,m,L,S,d,N,r,l,q,k⟩:=z;obtain⟨c,x,n,q⟩:=ao q;refine⟨F,m,L,S,c,x,r,l,n,λF' m' H' s e=>?_⟩;cases c with
  |true=>rw[ae rfl]at q ⊢;exact⟨F',m',L,x,d,N,e,l.mono s,q,λC p I w v=>k C p I (s.trans w) v⟩
  |false=>rw[ai cb]at q ⊢;cases q;exact k F' m' H' s e
theorem SF(f:PT X a (tQ X.K Q))(t:PW X (.BoolOp .Or (b::u) M) (tQ X.K qb)):PW X (.BoolOp .Or (a::b::u) M) (tQ X.K (pJ Q qb)):=
 (NO f t).imp' λJ H h z=>by
  obtain⟨F,m,L,S,d,N,r,l,q,k⟩:=z;obtain⟨c,x,n,q⟩:=ao q;refine⟨F,m,L,S,c,x,r,l,n,λF' m' H' s e=>?_⟩;cases c with
  |false=>rw[ai cb]at q ⊢;exact⟨F',m',L,x,d,N,e,l.mono s,q,λC p I w v=>k C p I (s.trans w) v⟩
  |true=>rw[ae rfl]at q ⊢;cases q;exact k F' m' H' s e
theorem P9(x:PT X a (tQ X.K Q)):PT X (.UnaryOp .Not a M) (tQ X.K (ll Q)):=
 (Kj x).imp' λJ H h z=>by obtain⟨F,m,L,S,d,N,r,l,q,k⟩:=z;obtain⟨c,f,e,q⟩:=ao q;cases q;exact⟨F,m,L,S,c,N,r,l,e,λF' m' H' s n=>k F' m' H' s n⟩
theorem Nd {k} (h:PE X a (tV X.K (vB Q))):PE X (.BoolOp k [a] M) (tV X.K (vB Q)):=Kt h
theorem vT(h:tQ X.K Q J H k)(x:∀b H',k b H'->t (.bl b) H'):tV X.K (vB Q) J H t:=by obtain⟨F,m,L,S,d,N,r,l,q,a⟩:=h;exact⟨F,m,L,S,.bl d,N,r,l,by unfold vB;rw[q];rfl,λv F' m' H' s e p=>by rw[show v=.bl d from p];exact x _ _ (a F' m' H' s e)⟩
theorem AC(h:tV X.K (vB Q) J H k):tQ X.K Q J H λb H'=>k (.bl b) H':=by obtain⟨F,m,L,S,d,N,r,l,q,x⟩:=h;obtain⟨c,n,e,q⟩:=ao q;cases q;exact⟨F,m,L,S,c,N,r,l,e,λF' m' H' s a=>x _ F' m' H' s a rfl⟩
theorem Qp(t:PE X a (tV X.K (vB Q)))(p:PE X (.BoolOp .And (b::u) M) (tV X.K (vB qb))):PE X (.BoolOp .And (a::b::u) M) (tV X.K (vB (cH Q qb))):=
 (KA t p).imp' λJ H x h=>by
  obtain⟨F,m,L,S,d,N,r,l,q,k⟩:=AC h;obtain⟨c,e,f,q⟩:=ao q;refine vT (k:=λc z=>if c=true then tV X.K (vB qb) J z x else x (.bl false) z) ⟨F,m,L,S,c,e,r,l,f,λF' m' H' s n=>?_⟩ λb H' q=>⟨b,rfl,q⟩;cases c with
  |true=>rw[ae rfl]at q ⊢;exact vT (k:=λb I=>x (.bl b) I) ⟨F',m',L,e,d,N,n,l.mono s,q,λC v I g w=>k C v I (s.trans g) w⟩ λ_ _ q=>q
  |false=>rw[ai cb]at q ⊢;cases q;exact k F' m' H' s n
theorem SH(t:PE X a (tV X.K (vB Q)))(p:PE X (.BoolOp .Or (b::u) M) (tV X.K (vB qb))):PE X (.BoolOp .Or (a::b::u) M) (tV X.K (vB (pJ Q qb))):=
 (NS t p).imp' λJ H x h=>by
  obtain⟨F,m,L,S,d,N,r,l,q,k⟩:=AC h;obtain⟨c,e,f,q⟩:=ao q;refine vT (k:=λc z=>if c=true then x (.bl true) z else tV X.K (vB qb) J z x) ⟨F,m,L,S,c,e,r,l,f,λF' m' H' s n=>?_⟩ λb H' q=>⟨b,rfl,q⟩;cases c with
  |false=>rw[ai cb]at q ⊢;exact vT (k:=λb I=>x (.bl b) I) ⟨F',m',L,e,d,N,n,l.mono s,q,λC v I g w=>k C v I (s.trans g) w⟩ λ_ _ q=>q
  |true=>rw[ae rfl]at q ⊢;cases q;exact k F' m' H' s n
theorem Qg(n:PE X a (tV X.K (vB Q))):PE X (.UnaryOp .Not a M) (tV X.K (vB (ll Q))):=
 (Ku n).imp' λJ H x h=>by obtain⟨F,m,L,S,d,N,r,l,q,k⟩:=AC h;obtain⟨c,t,e,q⟩:=ao q;cases q;exact vT (k:=λb H'=>x (.bl (!b)) H') ⟨F,m,L,S,c,N,r,l,e,λF' m' H' s f=>k F' m' H' s f⟩ λb H' q=>⟨b,rfl,q⟩
theorem Ad(h:PE X e (tV X.K fa)):PE X e (tV X.K (vB (bV fa))):=h.imp' λJ H Q h=>by
 obtain⟨F,m,L,S,d,N,r,l,q,k⟩:=AC h;obtain⟨x,f,a,q⟩:=ao q;cases x with
 |bl b=>cases q;exact⟨F,m,L,S,_,_,r,l,a,λv F' m' H' s n p=>by cases (show v=.bl d from p);exact k F' m' H' s n⟩
 |_=>cases q
theorem SK(g:PT X c (tQ X.K Q))(w:PE X a (tV X.K fa))(u:PE X b (tV X.K fb)):PE X (.IfExp c a b M) (tV X.K (IT Q fa fb)):=
 (DN g w u).imp' λJ H h z=>by
  obtain⟨F,m,L,S,d,N,r,l,q,k⟩:=z;obtain⟨c,x,p,q⟩:=ao q;refine⟨F,m,L,S,c,x,r,l,p,λF' m' H' s t=>?_⟩;cases c with
  |true=>rw[ae rfl]at q ⊢;exact⟨F',m',L,x,d,N,t,l.mono s,q,λv C e I f n=>k v C e I (s.trans f) n⟩
  |false=>rw[ai cb]at q ⊢;exact⟨F',m',L,x,d,N,t,l.mono s,q,λv C e I f n=>k v C e I (s.trans f) n⟩
variable{fs:jR}
theorem O8:PA X [] (vN X.K gu):=jD.imp' λJ H Q h=>by obtain⟨F,m,L,S,d,N,r,l,q,k⟩:=h;cases q;exact k [] F m H .refl r rfl
theorem Bf(b:PE X e (tV X.K fa))(c:PA X y (vN X.K fs))(t:starEach (e::y) X.e=(false,eval e X.e)::starEach y X.e:=by rfl):PA X (e::y) (vN X.K (aZ fa fs)):=
 (fG b c t).imp' λJ H Q p=>by obtain⟨F,m,L,S,d,N,r,l,q,k⟩:=p;obtain⟨x,h,n,q⟩:=ao q;obtain⟨xs,P,f,q⟩:=ao q;cases q;refine⟨F,m,L,S,x,h,r,l,n,λv j w z s o g=>?_⟩;refine⟨j,w,L,h,xs,N,o,l.mono s,f,λB C u I a K i=>?_⟩;exact k (v::B) C u I (s.trans a) K ⟨v,B,rfl,RP.mono a g,i⟩
noncomputable def few(xs:List α):Bool:=decide (xs.length≤1000000)
theorem vb{α:Type}{xs:List α}(h:few xs=true):xs.length≤sizeLine:=ce (bP h) (by decide)
@[simp] def cf(a:jR)(L:Lc)(S:aV):tyV:=cY (a L S) λxs h=>if few xs=true then some (.tup xs,h) else none
@[simp] def fm(a:jR)(L:Lc)(S:aV):tyV:=cY (a L S) λxs h=>if few xs=true then some (.lst xs,h) else none
@[simp] def mS(a:jR)(L:Lc)(S:aV):FK:=cY (a L S) λxs h=>if few xs=true then some (.ref h.length,h++[.lst (xs.map .p)]) else none
theorem Qb {t} (h:PA X y (vN X.K fs)):PE X (.Tuple y t M) (tV X.K (cf fs)):=(DI h).imp' λJ H Q s=>by
 obtain⟨F,m,L,S,d,N,r,l,q,k⟩:=s;obtain⟨xs,v,e,q⟩:=ao q;split at q
 .rename_i f;cases q;refine⟨F,m,L,S,xs,N,r,l,e,λB j n z c b a=>⟨by rw[<- a.length];exact vb f,λp x=>?_⟩⟩;exact k (.ref p) j n _ (c.trans (cG x).stp) (b.grow (cG x)) (.newTup x a)
 .cases q
theorem Qj(h:PA X y (vN X.K fs)):PE X (.List y M) (tV X.K (fm fs)):=(DL h).imp' λJ H Q s=>by
 obtain⟨F,m,L,S,d,N,r,l,q,k⟩:=s;obtain⟨xs,t,e,q⟩:=ao q;split at q
 .rename_i f;cases q;refine⟨F,m,L,S,xs,N,r,l,e,λB j n z c b a=>⟨by rw[<- a.length];exact vb f,λp x=>?_⟩⟩;exact k (.ref p) _ n _ (c.trans (cX x).stp) (b.grow (cX x)) (.newLst x a)
 .cases q
theorem IP(h:PA X y (vN X.K fs)):PE X (.List y M) (tE X.K (mS fs)):=(DL h).imp' λJ H Q t=>by
 obtain⟨F,m,L,S,d,N,r,l,q,k⟩:=t;obtain⟨xs,f,b,q⟩:=ao q;split at q
 .rename_i c;cases q;refine⟨F,m,L,S,xs,f,r,l,b,λB j x z v s e=>⟨by rw[<- e.length];exact vb c,λp a=>?_⟩⟩;have n:Stp j x z j (x++[p]) (upd z p (.lst B)):=kZ a;refine k (.ref p) j (x++[p]) _ (v.trans n) (s.own a ⟨B,bc,fy.ofP (dZ.mono n e)⟩) ⟨p,rfl,?_⟩;rw[<- s.len,iM (ar _)];simp
 .cases q
def rC(K:FG)(g:List P->Option P):List V->Hp->VK->Prop:=λxs H Q=>∃F s d,(∀a,F a->H a≠none)/\dZ K F H s xs/\g s=some d/\∀v F' H',Grow F H F' H'->RP K F' H' d v->Q v H'
theorem xN(h:tV X.K (cU g fs) J H t):vN X.K fs J H λB z=>rC X.K g B z t:=by
 obtain⟨F,m,L,S,d,N,r,l,q,k⟩:=h;obtain⟨xs,w,n,q⟩:=ao q;cases e:g xs with
 |none=>rw[e]at q;cases q
 |some x=>rw[e]at q;cases q;exact⟨F,m,L,S,xs,_,r,l,n,λB j f z c s b=>⟨j,xs,_,s.ft,b,e,λv C I a p=>k v C f I (c.trans a.stp) (s.grow a) p⟩⟩
theorem CQ{x:Str}{p:Pos}{id:String}{g:List P->Option P}(c:fg X (.builtin id) (rC X.K g))(n:Gl X x)(m:X.g x=none)(v:bootBuiltins x=some (.builtin id))(a:PA X (e::y) (vN X.K fs))(k:x≠"__name__":=by decide)(d:(x == ("__debug__":Str))=false:=by decide)
  (s:starEach (e::y) X.e=(false,eval e X.e)::starEach y X.e:=by rfl) (l:(backTo M (starEach y X.e)).any (·.1)=false:=by rfl):PE X (.Call (.Name x p) (e::y) [] M) (tV X.K (cU g fs)):=
 (ko c n m v a k d s l).imp' λ_ _ _ h=>xN h
theorem CO(c:fg X (.type T) (rC X.K g))(n:Gl X x)(m:X.g x=none)(v:bootBuiltins x=some (.type T))(a:PA X (e::y) (vN X.K fs))(k:x≠"__name__":=by decide)(d:(x == ("__debug__":Str))=false:=by decide)
  (s:starEach (e::y) X.e=(false,eval e X.e)::starEach y X.e:=by rfl) (l:(backTo M (starEach y X.e)).any (·.1)=false:=by rfl):PE X (.Call (.Name x p) (e::y) [] M) (tV X.K (cU g fs)):=
 (Bx c n m v a k d s l).imp' λ_ _ _ h=>xN h
noncomputable def Pl(K:FG)(g:List P->Option P):Sp:=λB H Q _=>rC K g B H Q
theorem Nc(G:FnOk X.p X.w X.K X.g X.b re k f t ps (Pl X.K g))(j:Room k X.A)(w:Gl X x)(i:X.g x=some (.ref f))(u:gO X.K (.ref f)=true)(c:Binds X.K t ps [])
  (b:PA X (e::y) (vN X.K fs)) (d:(x == ("__debug__":Str))=false:=by decide) (v:starEach (e::y) X.e=(false,eval e X.e)::starEach y X.e:=by rfl) (a:(backTo M (starEach y X.e)).any (·.1)=false:=by rfl) :
  PE X (.Call (.Name x p) (e::y) [] M) (tV X.K (cU g fs)):=
 (uS G j w i u c .nil sf b d v a).imp' λJ H Q h=>by obtain⟨F,m,L,S,n,N,r,l,q,k⟩:=xN h;exact⟨F,m,L,S,n,N,r,l,q,λxs F' m' H' s z p=>by show Pl X.K g (xs++[]) H' Q E0;rw[fj];exact k xs F' m' H' s z p⟩
end
section
variable{X:Cx}{a b e:Expr}{st:Stmt}{u bs cs:List Stmt}{f g:ES}{fe:EE}{Q:EB}{M:Pos}
theorem P4:iF X [] (jT X.K df):=Hg.imp' λD J H h=>by obtain⟨F,m,L,S,f,x,N,r,l,q,k⟩:=h;cases q;exact k J F m H .refl r l
theorem MS(o:PS X st (jT X.K f))(K:iF X u (jT X.K g)):iF X (st::u) (jT X.K (ag f g)):=(mw o K).imp' λD J H P=>by
 obtain⟨F,m,L,S,w,v,N,r,l,q,k⟩:=P;cases e:f L S with
 |none=>rw[show ag f g L S=none by unfold ag;rw[e]]at q;cases q
 |some x=>
  obtain⟨i,t,p⟩:=x;cases i with
  |nx=>
   have s:g t p=some (w,v,N):=by have:=q;unfold ag at this;rw[e]at this;exact this
   exact⟨F,m,L,S,.nx,t,p,r,l,e,λc j a z b n h=>⟨j,a,t,p,w,v,N,n,h,s,λy C B I G E A=>k y C B I (b.trans G) E A⟩⟩
  |rt d=>
   have s:some (Fl.rt d,t,p)=some (w,v,N):=by have:=q;unfold ag at this;rw[e]at this;exact this
   cases s;exact⟨F,m,L,S,_,_,_,r,l,e,λc j a z b n h=>k c j a z b n h⟩
  |bk=>
   have s:some (Fl.bk,t,p)=some (w,v,N):=by have:=q;unfold ag at this;rw[e]at this;exact this
   cases s;exact⟨F,m,L,S,_,_,_,r,l,e,λc j a z b n h=>k c j a z b n h⟩
  |ct=>
   have s:some (Fl.ct,t,p)=some (w,v,N):=by have:=q;unfold ag at this;rw[e]at this;exact this
   cases s;exact⟨F,m,L,S,_,_,_,r,l,e,λc j a z b n h=>k c j a z b n h⟩
theorem Jw(h:PS X st (jT X.K f)):iF X [st] (jT X.K f):=pC h
theorem P2(h:PE X e (tE X.K fe)):PS X (.Return (some e) M) (jT X.K (br fe)):=(DB h).imp' λD J H z=>by obtain⟨F,m,L,S,b,n,N,r,l,q,k⟩:=z;obtain⟨d,f,x,q⟩:=ao q;cases q;exact⟨F,m,L,S,d,N,r,l,x,λv F' m' H' s a p=>k J F' m' H' s a (l.mono s) v p⟩
theorem MR(h:PE X e (tE X.K fe))(a:swapsWith e none M.line X.e=pure false:=by rfl):PS X (.Expr e M) (jT X.K (aU fe)):=(Aw h a).imp' λD J H z=>by obtain⟨F,m,L,S,c,f,N,r,l,q,k⟩:=z;obtain⟨d,b,x,q⟩:=ao q;cases q;exact⟨F,m,L,S,d,N,r,l,x,λv F' m' H' s n p=>k J F' m' H' s n (l.mono s)⟩
theorem Bg(i:Nat)(n:X.N.Nodup)(h:PE X e (tE X.K fe))(b:X.N[i]? = some x:=by rfl)(w:Loc X.e.scope x:=by first|exact Or.inl rfl|exact Or.inr rfl)(c:swapsWith e (some (.Name x t)) M.line X.e=pure false:=by rfl)
  (f:X.fn x=true\/X.e.scope.names.lookup x=some .local:=by first|exact .inl rfl|exact .inr rfl|assumption):PS X (.Assign [.Name x t] e M) (jT X.K (aG i fe)):=
 (DA n b w h c f).imp' λD J H z=>by obtain⟨F,m,L,S,y,g,N,r,l,q,k⟩:=z;obtain⟨d,j,a,q⟩:=ao q;cases q;exact⟨F,m,L,S,d,N,r,l,a,λv F' m' H' s u p=>k (J.set i (some v)) F' m' H' s u ((l.mono s).set p i)⟩
theorem SD(i:PT X c (tQ X.K Q))(w:iF X bs (jT X.K f))(u:iF X cs (jT X.K g)):PS X (.If c bs cs M) (jT X.K (bY Q f g)):=(I_ i w u).imp' λD J H z=>by
 obtain⟨F,m,L,S,p,t,N,r,l,q,k⟩:=z;obtain⟨c,x,d,q⟩:=ao q;refine⟨F,m,L,S,c,x,r,l,d,λF' m' H' s v=>?_⟩;cases c with
 |true=>rw[ae rfl]at q ⊢;exact⟨F',m',L,x,p,t,N,v,l.mono s,q,λh C e I b n a=>k h C e I (s.trans b) n a⟩
 |false=>rw[ai cb]at q ⊢;exact⟨F',m',L,x,p,t,N,v,l.mono s,q,λh C e I b n a=>k h C e I (s.trans b) n a⟩
theorem Jx:PS X st (jT X.K bD):=DC.imp' λD J H h=>by obtain⟨F,m,L,S,f,x,N,r,l,q,k⟩:=h;cases q
theorem SE:PS X (.Continue M) (jT X.K Mx):=wh.imp' λD J H h=>by obtain⟨F,m,L,S,f,x,N,r,l,q,k⟩:=h;cases q;exact k J F m H .refl r l
inductive gTI(K:FG)(g:lB)(x:V)(J:L2.St)(H:Hp)(Q:L2.St->Hp->Prop):Prop
 |mk (F:Aa) (m:List Addr) (L:Lc) (v:P) (L':Lc) (h0_:RL K F H m J L) (h1_:RP K F H v x) (h2_:g v L=some L') (h3_:∀J',RL K F H m J' L'->Q J' H):gTI K g x J H Q
noncomputable def gT(K:FG)(g:lB):TG:=λx J H Q=>gTI K g x J H Q
theorem _root_.L2.PG.imp'(h:PG X tg t)(i:∀v J H Q,k v J H Q->t v J H Q):PG X tg k:=λp s J H v u Q I r q=>h p s J H v u Q I r (i v J H Q q)
theorem Lz(i:Nat)(h:X.N.Nodup)(a:X.N[i]? = some x:=by rfl)(e:Loc X.e.scope x:=by first|exact Or.inl rfl|exact Or.inr rfl)(f:X.fn x=true\/X.e.scope.names.lookup x=some .local:=by first|exact .inl rfl|exact .inr rfl|assumption) :
  PG X (.Name x M) (gT X.K (gI i)):=(Hn h a e f).imp' λv J H Q z=>by
 obtain⟨F,m,L,d,s,l,p,q,k⟩:=z;cases q;exact k _ (l.set (d:=.p d) p i)
def Ju(K:FG)(a:It)(B:List P)(F:Aa)(m:List Addr)(H:Hp):Prop:=∀C s I,Stp F m H C s I ->
 (∀(i:Nat) v,B[i]? = some v->a.go i I/\∀x h,a.yld i I x h->∃e,Grow C I e h/\RP K e h v x)/\a.stop B.length I
inductive tII(K:FG)(f:jR)(J:L2.St)(H:Hp)(R:It->Hp->Prop):Prop
 |mk (F:Aa) (m:List Addr) (L:Lc) (S:aV) (vs:List P) (S':aV) (h0_:Rel K F H m S) (h1_:RL K F H m J L) (h2_:f L S=some (vs,S')) (h3_:∀J9 F' m' H',Stp F m H F' m' H'->Rel K F' H' m' S'->Ju K J9 vs F' m' H'->R J9 H'):tII K f J H R
noncomputable def tI(K:FG)(f:jR):TI:=λJ H R=>tII K f J H R
theorem P5{tg iter:Expr}{fi:jR}{g:lB}{b:List Stmt}{fb:ES}(hp:PassesOwn (model X.p X.w) X.A X.e X.xe)(hc:X.c=true)(hi:PI X tg iter (tI X.K fi))(hg:PG X tg (gT X.K g))(hb:iF X b (jT X.K fb))
  (hs:∀x,foldedSetIterable iter X.e x=pure x:=by intro _;rfl):PS X (.For tg iter b [] M) (jT X.K (uP fi g fb)):=
 (Kl hp hc hi hg hb hs).imp' λD J H hz=>by
  obtain⟨F,m,L,S,fl,L',N,r,l,q,k⟩:=hz;obtain⟨B,S1,e1,q⟩:=ao q;refine⟨F,m,L,S,B,S1,r,l,e1,fun J9 j u z A r1 it=>?_⟩;refine⟨fun i n R I=>n=B.length-i/\i≤B.length/\∃C s L2 f,Stp j u z C s I/\Rel X.K C I s f/\RL X.K C I s R L2/\dX g fb (B.drop i) L2 f=some (fl,L',N),
   ⟨B.length,rfl,eh _,j,u,L,S1,.refl,r1,l.mono A,by rw[ma];exact q⟩,?_⟩
  rintro i n R I ⟨rfl,hi,C,s,L2,f,s2,r2,l2,a⟩;obtain⟨go,o⟩:=it C s I s2;by_cases t:i < B.length
  .right;have hv:B[i]? = some B[i]:=by simp[t]
   rw[zB t]at a;obtain⟨hgo,hy⟩:=go i _ hv;refine⟨hgo,λJ3 c=>∃n',n' < B.length-i/\(n'=B.length-(i+1)/\i+1≤B.length/\∃C s L2 f,Stp j u z C s c/\Rel X.K C c s f/\RL X.K C c s J3 L2/\dX g fb (B.drop (i+1)) L2 f=some (fl,L',N)),λ_ _ h=>h,λx c y=>?_⟩;obtain⟨Q,gr,p3⟩:=hy x c y;unfold dX at a;cases eg:g B[i] L2 with
   |none=>rw[eg]at a;cases a
   |some T=>
    rw[eg]at a;dsimp only at a;refine⟨Q,s,L2,B[i],T,l2.mono gr.stp,p3,eg,λJ3 l3=>?_⟩;have E:Stp j u z Q s c:=s2.trans gr.stp;have r3:=r2.grow gr;cases Z:fb T f with
    |none=>rw[Z]at a;cases a
    |some h=>
     obtain⟨p,V,W⟩:=h;rw[Z]at a;refine⟨Q,s,T,f,p,V,W,r3,l3,Z,λJ4 v K H4 G P w=>?_⟩;cases p with
     |nx=>exact⟨B.length-(i+1),by lia,rfl,t,v,K,V,W,E.trans G,P,w,a⟩
     |ct=>exact⟨B.length-(i+1),by lia,rfl,t,v,K,V,W,E.trans G,P,w,a⟩
     |bk=>cases a;exact k J4 v K H4 (A.trans (E.trans G)) P w
     |rt d=>cases a;exact k J4 v K H4 (A.trans (E.trans G)) P w
  .left;have e:i=B.length:=by lia
   subst e;rw[t8]at a;cases a;exact⟨o,k R C s I (A.trans s2) r2 l2⟩
theorem Jv(hp:PassesOwn (model X.p X.w) X.A X.e X.xe)(hc:PT X c (tQ X.K Q))(hb:iF X t (jT X.K fb)):PS X (.While c t [] M) (jT X.K (eD n Q fb)):=
 (wg hp hc hb).imp' λD J H hz=>by
  obtain⟨F,m,L,S,G,E,N,r,l,q,k⟩:=hz;refine⟨λn j I=>∃C x L2 a,Stp F m H C x I/\Rel X.K C I x a/\RL X.K C I x j L2/\aY Q fb n L2 a=some (G,E,N),⟨n,F,m,L,S,.refl,r,l,q⟩,?_⟩;rintro n j I ⟨C,x,L2,a,b,r2,A,T⟩;cases n with
  |zero=>cases T
  |succ n=>
   obtain⟨c,o,Z,h⟩:=ao (show cY (Q L2 a) _=_ from T);refine⟨C,x,L2,a,c,o,r2,A,Z,λB R W s V=>?_⟩;cases c with
   |false=>rw[ai cb]at h ⊢;cases h;exact k j B R W (b.trans s) V (A.mono s)
   |true=>
    rw[ae rfl]at h ⊢;cases P:fb L2 o with
    |none=>rw[P]at h;cases h
    |some z=>
     obtain⟨f,y,K⟩:=z;rw[P]at h;refine⟨λv e=>∃m',m' < n+1/\∃C x L2 a,Stp F m H C x e/\Rel X.K C e x a/\RL X.K C e x v L2/\aY Q fb m' L2 a=some (G,E,N),λ_ _ z=>z,B,R,L2,o,f,y,K,V,A.mono s,P,λv p u e i g w=>?_⟩;cases f with
     |nx=>exact⟨n,jx _,p,u,y,K,b.trans (s.trans i),g,w,h⟩
     |ct=>exact⟨n,jx _,p,u,y,K,b.trans (s.trans i),g,w,h⟩
     |bk=>cases h;exact k v p u e (b.trans (s.trans i)) g w
     |rt d=>cases h;exact k v p u e (b.trans (s.trans i)) g w
end
theorem Stp.toGrow(s:Stp F [] H F' m' H')(f:∀a,F' a->H' a≠none):Grow F H F' H':=
 ⟨fun b o h=>s.oth b o h (by simp),s.frz,fun b h=>by
  rcases s.nf b h with q|q|q
  .exact .inl q
  .exact .inr ⟨q,f b h⟩
  .simp at q⟩
theorem ln{α:Prop}{β:Type}{d:β}(h:(none:Option β)=some d):α:=nomatch h
noncomputable def ka(n:Nat):Bool:=decide (n≤1000000)
theorem h7(h:ka n=true):n≤sizeLine:=ce (bP h) (by decide)
section
variable{X:Cx}
def vr:P->P->Option P
 | .int i,.int j=>some (.int (i+j))
 | .str x,.str y=>if ka (x.length+y.length)=true then some (.str (x++y)) else none
 | .tup xs,.tup s=>if (!xs.isEmpty && ka (xs.length+s.length))=true then some (.tup (xs++s)) else none
 | .lst xs,.lst s=>if ka (xs.length+s.length)=true then some (.lst (xs++s)) else none
 |_,_=>none
theorem Od:rV X (binaryOp .Add) vr:=by
 intro f s J H x n v u Q I o S h;obtain⟨F,E,w,d,L,g,l,q,k⟩:=h;cases E with
 |int i=>
  cases w with
  |int j=>cases q;cases (show x=.int i from g);cases (show n=.int j from l);exact KO f s J H _ _ v u Q I o S ⟨i,j,rfl,rfl,k _ F H .refl rfl⟩
  |_=>exact ln q
 |str i=>
  cases w with
  |str j=>
   simp only[vr]at q;split at q
   .rename_i c;cases q;cases (show x=.str i from g);cases (show n=.str j from l);exact xZ f s J H _ _ v u Q I o S ⟨i,j,rfl,rfl,h7 c,k _ F H .refl rfl⟩
   .cases q
  |_=>exact ln q
 |tup B=>
  cases w with
  |tup y=>
   simp only[vr]at q;split at q
   .rename_i c;rw[aE]at c;cases q;obtain⟨a,xs,rfl,K,r⟩:=g;obtain⟨b,A,rfl,P,t⟩:=l;have C:=r.length;have D:=t.length;have G:xs≠[]:=λz=>by
     subst z;have:B=[]:=kY C;subst this;simp at c
    refine Hv f s J H _ _ v u Q I o S ⟨a,b,xs,A,rfl,rfl,K.sq,P.sq,G,by rw[<- C,<- D];exact h7 c.2,λz=>?_,λ_ p m=>?_⟩
    .subst z;have e:y=[]:=kY D;subst e;refine k _ F H .refl ?_;rw[fj];exact⟨a,xs,rfl,K,r⟩
    .exact k _ F _ (cG m) (.newTup m (r.append t))
   .cases q
  |_=>exact ln q
 |lst B=>
  cases w with
  |lst y=>
   simp only[vr]at q;split at q
   .rename_i c;cases q;obtain⟨a,xs,rfl,K,r⟩:=g;obtain⟨b,A,rfl,P,t⟩:=l;exact KN f s J H _ _ v u Q I o S ⟨a,b,xs,A,rfl,rfl,K.2,P.2,by rw[<- r.length,<- t.length];exact h7 c,λp m=>k _ _ _ (cX m) (.newLst m (r.append t))⟩
   .cases q
  |_=>exact ln q
 |_=>exact ln q
noncomputable def FN(c:Int->Int->Bool)(g:Int->Int->P):P->P->Option P
 | .int i,.int j=>if c i j=true then some (g i j) else none
 |_,_=>none
@[simp] theorem Ih(c:Int->Int->Bool)(g:Int->Int->P)(i j:Int):FN c g (.int i) (.int j)=if c i j=true then some (g i j) else none:=rfl
theorem wr{f:Value->Value->Sem Value}{C:Int->Int->Prop}{a:Int->Int->V}{c:Int->Int->Bool}{g:Int->Int->P}(o:kc X f (rI C a))(b:∀i j,c i j=true->C i j)(m:∀K F H i j,RP K F H (g i j) (a i j)):rV X f (FN c g):=by
 intro p s J H x y v u Q I l z h;obtain⟨F,e,n,d,S,t,w,q,k⟩:=h;cases e with
 |int i=>
  cases n with
  |int j=>
   rw[Ih]at q;split at q
   .rename_i r;cases q;cases (show x=.int i from t);cases (show y=.int j from w);exact o p s J H _ _ v u Q I l z ⟨i,j,rfl,rfl,b i j r,k _ F H .refl (m _ _ _ _ _)⟩
   .cases q
  |_=>exact ln q
 |_=>exact ln q
theorem qB(h:kc X f (Hd k)):kc X f (rI (λ_ _=>True) k):=λp s J H x y v u Q I r n ⟨i,j,e,a,_,q⟩=>h p s J H x y v u Q I r n ⟨i,j,e,a,q⟩
noncomputable abbrev CK:Int->Int->Bool:=λ_ _=>true
abbrev LQ:=FN CK λi j=>.int (i-j)
theorem N4:rV X (binaryOp .Sub) LQ:=wr (qB KG) (λ_ _ _=>trivial) λ_ _ _ _ _=>rfl
noncomputable abbrev Kq:Int->Int->Bool:=λ_ j=>decide (0 < j) && decide (j < 1152921504606846976)
theorem DQ:kc X (binaryOp .FloorDiv) (rI (λ_ j=>0 < j/\j < 1152921504606846976) λi j=>.int (i / j)):=Po λi j _ _ _ _ _ h q=>by have a:(0:Int) < j:=h.1;have e:j < 1152921504606846976:=h.2;have x:j.natAbs.log2 < 9000:=cg ((ui (by lia)).mpr (show j.natAbs < 2 ^ 60 by lia)) (by decide);exact floordiv_int (by lia) (by rw[Int.fdiv_eq_ediv_of_nonneg i (by lia)];exact q) (.inl (PyProof.noPylong_of_log2 x))
abbrev vq:=FN Kq λi j=>.int (i / j)
theorem Hw:rV X (binaryOp .FloorDiv) vq:=wr DQ (λi j h=>by rw[aE]at h;exact⟨bP h.1,bP h.2⟩) λ_ _ _ _ _=>rfl
abbrev Ig:=FN (λ_ j=>decide (0 < j)) λi j=>.int (i % j)
theorem N8:rV X (binaryOp .Mod) Ig:=wr KJ (λi j h=>bP h) λ_ _ _ _ _=>rfl
abbrev LR:=FN (λi j=>decide (0≤j) && decide (j≤1000000) && decide (i.natAbs < 2 ^ 64)) λi j=>.int (i ^ j.toNat)
theorem N5:rV X (binaryOp .Pow) LR:=wr KI (λi j h=>by simp only[aE]at h;exact⟨bP h.1.1,bP h.1.2,bP h.2⟩) λ_ _ _ _ _=>rfl
abbrev Rv:=FN CK λi j=>.bl (decide (i < j))
theorem QZ:rV X (compareOp .Lt) Rv:=wr (qB NZ) (λ_ _ _=>trivial) λ_ _ _ _ _=>rfl
abbrev Rw:=FN CK λi j=>.bl (decide (i≤j))
theorem Q0:rV X (compareOp .LtE) Rw:=wr (qB N0) (λ_ _ _=>trivial) λ_ _ _ _ _=>rfl
abbrev PM:=FN CK λi j=>.bl (decide (j < i))
theorem Q1:rV X (compareOp .Gt) PM:=wr (qB N2) (λ_ _ _=>trivial) λ_ _ _ _ _=>rfl
abbrev Ry:=FN CK λi j=>.bl (decide (j≤i))
theorem Q2:rV X (compareOp .GtE) Ry:=wr (qB N3) (λ_ _ _=>trivial) λ_ _ _ _ _=>rfl
noncomputable def jU(i j:Int):Bool:=decide (i.natAbs.log2+j.natAbs.log2 < 100000000)
theorem D1{i j:Int}(h:jU i j=true):IntMulOk i j:=by
 have a:i.natAbs.log2+j.natAbs.log2 < 100000000:=bP h;have b:∀x:Int,Builtin.Int.intBits x≤x.natAbs.log2+1:=λx=>by
  unfold Builtin.Int.intBits;split
  .exact eh _
  .exact ar _
 exact IntMulOk.of_le (b i) (b j) (by lia)
theorem Hu:kc X (binaryOp .Mult) (rI (λi j=>IntMulOk i j) λi j=>.int (i * j)):=Po λ_ _ _ _ _ _ _ h q=>mul_int q h
noncomputable def il(x:Str)(n:Nat):Str:=⟨(List.replicate n x.cps).foldl (·++·) #[]⟩
theorem xP(x:Str):il x 1=x:=by unfold il;cases x;simp
theorem BO(n:Nat):(List.replicate n (#[]:Array Nat)).foldl (·++·) #[]=#[]:=by
 induction n with
 |zero=>rfl
 |succ n i=>rw[dR,iK];simpa using i
theorem uL(x:Str)(n:Nat)(h:x.length=0):il x n=x:=by have e:x.cps=#[]:=Array.eq_empty_of_size_eq_zero (by simpa[kO] using h);unfold il;cases x;simp only at e;subst e;rw[BO]
theorem yg(a:Array Nat)(n:Nat):∀b:Array Nat,((List.replicate n a).foldl (·++·) b).size=b.size+n * a.size:=by
 induction n with
 |zero=>intro b;simp
 |succ n i=>intro b;rw[dR,iK,i,zf,uk];lia
theorem rq(x:Str)(n:Nat):(il x n).length=n * x.length:=by unfold il kO;simp only;rw[yg];simp
def w8:P->P->Option P
 | .int i,.int j=>if jU i j=true then some (.int (i * j)) else none
 | .str x,.int n=>if (ka (n.toNat * x.length) && decide (n.natAbs < 1000000))=true then some (.str (il x n.toNat)) else none
 | .lst xs,.int n=>if (ka (xs.length * n.toNat) && decide (n.natAbs < 1000000))=true then some (.lst (List.replicate n.toNat xs).flatten) else none
 |_,_=>none
theorem dZ.rep(h:dZ K F H r xs):∀k:Nat,dZ K F H (List.replicate k r).flatten (List.replicate k xs).flatten
 |0=>rfl
 |k+1=>by rw[dR,dR,gC,gC];exact h.append (dZ.rep h k)
theorem N7:rV X (binaryOp .Mult) w8:=by
 intro r s J H x y v u Q I o S h;obtain⟨F,B,w,d,M,g,l,q,k⟩:=h;cases B with
 |int i=>
  cases w with
  |int j=>
   simp only[w8]at q;split at q
   .rename_i c;cases q;cases (show x=.int i from g);cases (show y=.int j from l);exact Hu r s J H _ _ v u Q I o S ⟨i,j,rfl,rfl,D1 c,k _ F H .refl rfl⟩
   .cases q
  |_=>exact ln q
 |str i=>
  cases w with
  |int n=>
   simp only[w8]at q;split at q
   .rename_i c;rw[aE]at c;have E:=bP c.2;have N:n.toNat * i.length≤1000000:=bP c.1;have T:=lM;have V:(1000000:Nat)≤sizeLine:=by decide
    cases q;cases (show x=.str i from g);cases (show y=.int n from l);obtain⟨t,rfl⟩:=o;obtain⟨W,rfl⟩:=S;refine PySem.P.mul_str (by have C:decide (n < -(2 ^ 63:Int))=false:=cT (by lia);have D:decide (n ≥ 2 ^ 63)=false:=cT (by lia);rw[C,D];rfl) (λa b=>?_) (λa b=>?_) ?_
    .intro z;have R:((i.length:Nat):Int)≤(2 ^ 63-1) / n:=by
      refine(Int.le_ediv_iff_mul_le (by lia)).mpr ?_;have e:((i.length:Nat):Int) * n=((n.toNat * i.length:Nat):Int):=by rw[yx,yy (by lia),Int.mul_comm]
      rw[e];lia
     lia
    .unfold Builtin.Str.tooLong;first
      |exact cT (by rw[pj];lia)
      |(rw[pj];exact cT (by lia))
    .have f:Q (.str (il i n.toNat)) H:=k _ F H .refl rfl;by_cases K:n < 1
     .rw [ae K];have e:n.toNat=0:=by lia
      rw[e]at f;exact⟨by decide,⟨.str Str.empty,H,I.tok _,⟨_,rfl⟩,f⟩⟩
     .rw [ai K];by_cases m:(n == 1 ||i.length == 0)=true
      .rw [ae m];rw[fD]at m;have e:il i n.toNat=i:=by
        rcases m with m|m
        .have:n=1:=by simpa using m
         subst this;exact xP i
        .exact uL i _ (by simpa using m)
       rw[e]at f;exact⟨.str i,H,I,⟨_,rfl⟩,f⟩
      .rw [ai m];refine⟨?_,⟨.str (il i n.toNat),H,I.tok _,⟨_,rfl⟩,f⟩⟩;have:=rq i n.toNat
       unfold il at this;rw[this];lia
   .cases q
  |_=>exact ln q
 |lst L=>
  cases w with
  |int n=>
   simp only[w8]at q;split at q
   .rename_i c;rw[aE]at c;have E:=bP c.2;cases q;obtain⟨a,xs,rfl,G,A⟩:=g;cases (show y=.int n from l);exact KH r s J H _ _ v u Q I o S ⟨a,n,xs,rfl,rfl,G.2,by lia,by lia,by rw[<- A.length];exact h7 c.1,λp P=>k _ _ _ (cX P) (.newLst P (A.rep _))⟩
   .cases q
  |_=>exact ln q
 |_=>exact ln q
noncomputable def Si:P->P->Option P
 | .int i,.int j=>some (.bl (decide (i=j)))
 | .str x,.str y=>some (.bl (decide (x=y)))
 | .bl a,.bl b=>some (.bl (decide (a=b)))
 |_,_=>none
noncomputable def MC:P->P->Option P
 | .int i,.int j=>some (.bl (!decide (i=j)))
 | .str x,.str y=>some (.bl (!decide (x=y)))
 | .bl a,.bl b=>some (.bl (!decide (a=b)))
 |_,_=>none
theorem nZ{i j:Int}:decide (V.int i=V.int j)=decide (i=j):=by
 by_cases h:i=j
 .subst h;simp
 .rw [cT h,cT λz=>h (V.int.inj z)]
theorem nY:decide (V.str i=V.str k)=decide (i=k):=by
 by_cases h:i=k
 .subst h;simp
 .rw [cT h,cT λz=>h (V.str.inj z)]
theorem qW:decide (V.bl i=V.bl k)=decide (i=k):=by
 by_cases h:i=k
 .subst h;simp
 .rw [cT h,cT λz=>h (V.bl.inj z)]
theorem Q3:rV X (compareOp .Eq) Si:=by
 intro p s J H x y v u Q I r f h;obtain⟨F,b,a,d,t,e,n,q,k⟩:=h;cases b with
 |int i=>
  cases a with
  |int j=>cases q;cases (show x=.int i from e);cases (show y=.int j from n);exact DR p s J H _ _ v u Q I r f ⟨rfl,by rw[nZ];exact k _ F H .refl rfl⟩
  |_=>exact ln q
 |str i=>
  cases a with
  |str j=>cases q;cases (show x=.str i from e);cases (show y=.str j from n);exact DR p s J H _ _ v u Q I r f ⟨rfl,by rw[nY];exact k _ F H .refl rfl⟩
  |_=>exact ln q
 |bl i=>
  cases a with
  |bl j=>cases q;cases (show x=.bl i from e);cases (show y=.bl j from n);exact DR p s J H _ _ v u Q I r f ⟨rfl,by rw[qW];exact k _ F H .refl rfl⟩
  |_=>exact ln q
 |_=>exact ln q
theorem QY:rV X (compareOp .NotEq) MC:=by
 intro p s J H x y v u Q I r f h;obtain⟨F,b,a,d,t,e,n,q,k⟩:=h;cases b with
 |int i=>
  cases a with
  |int j=>cases q;cases (show x=.int i from e);cases (show y=.int j from n);exact DP p s J H _ _ v u Q I r f ⟨rfl,by rw[nZ];exact k _ F H .refl rfl⟩
  |_=>exact ln q
 |str i=>
  cases a with
  |str j=>cases q;cases (show x=.str i from e);cases (show y=.str j from n);exact DP p s J H _ _ v u Q I r f ⟨rfl,by rw[nY];exact k _ F H .refl rfl⟩
  |_=>exact ln q
 |bl i=>
  cases a with
  |bl j=>cases q;cases (show x=.bl i from e);cases (show y=.bl j from n);exact DP p s J H _ _ v u Q I r f ⟨rfl,by rw[qW];exact k _ F H .refl rfl⟩
  |_=>exact ln q
 |_=>exact ln q
theorem A'{α β:Type}{xs:List α}{s:List β}{i:Int}{d:α}(l:xs.length=s.length)(h:L2.atI xs i=some d):∃j:Nat,xs[j]? = some d/\∀y,s[j]? = some y->L2.atI s i=some y:=by
 unfold L2.atI at h ⊢;rw[l]at h;cases e:Cg s.length i with
 |none=>rw[e]at h;cases h
 |some j=>rw[e]at h;exact⟨j,h,λy x=>x⟩
theorem dZ.atI{K:FG}{F:Aa}{H:Hp}{s:List P}{xs:List V}{i:Int}{d:P}(r:dZ K F H s xs)(h:L2.atI s i=some d):∃x,L2.atI xs i=some x/\RP K F H d x:=by obtain⟨j,a,n⟩:=A' r.length h;obtain⟨x,e,p⟩:=r.get a;exact⟨x,n x e,p⟩
theorem fy.atI{K:FG}{F:Aa}{H:Hp}{m:List Addr}{s:List D}{xs:List V}{i:Int}{d:D}(r:fy K F H m s xs)(h:L2.atI s i=some d):∃x,L2.atI xs i=some x/\RD K F H m d x:=by obtain⟨j,a,n⟩:=A' r.length h;obtain⟨x,e,p⟩:=r.get a;exact⟨x,n x e,p⟩
noncomputable def gL(k:fR):List fR->List α->Option α
 |h::s,v::B=>if h=k then some v else gL k s B
 |_,_=>none
noncomputable def ku:P->Option fR
 | .int i=>some (.inl i)
 | .str x=>some (.inr x)
 |_=>none
def lT:P->P->Option P
 | .tup xs,.int i=>L2.atI xs i
 | .lst xs,.int i=>L2.atI xs i
 | .ro xs,.int i=>L2.atI xs i
 | .str x,.int i=>if ka x.length=true then (L2.atI x.cps.toList i).map λc=>.str ⟨#[c]⟩ else none
 | .dct s B,y=>match ku y with
  |some k=>gL k s B
  |none=>none
 |_,_=>none
theorem nz:∀{s:List (fR×V)}{a:List P}{d:P},dZ K F H a (s.map (·.2))->gL k (s.map (·.1)) a=some d->∃v,jy s k=some v/\RP K F H d v
 | [],a,d,r,h=>by cases a<;>exact ln h
 |(f,v)::s,[],d,r,h=>ln h
 |(f,v)::s,u::a,d,r,h=>by
  obtain⟨x,g,e,p,b⟩:=r;rw[aX]at e;injection e with c m;simp only[aX,gL]at h;by_cases n:f=k
  .rw [ae n]at h;cases h;exact⟨v,ji (p:=(f,v)) n,by rw[show v=x from c];exact p⟩
  .rw [ai n]at h;rw[<- m]at b;obtain⟨w,t,q⟩:=nz b h;exact⟨w,by rw[ik (p:=(f,v)) n];exact t,q⟩
theorem kt(h:ku t=some k)(r:RP K F H t v):v=kV k:=by
 cases t with
 |int i=>cases h;exact r
 |str x=>cases h;exact r
 |_=>exact ln h
theorem Ek(r:X.A.units+1 < cLine):FH X (λx y H Q=>∃a v,x=.ref a/\nk H a y (some v)/\(∃k,H a=some (.dK k))/\Q v H):=by
 intro f l p s J H x y v u Q I d i h m;obtain⟨a,w,rfl,g,⟨k,c⟩,q⟩:=h;cases d;have n:∃o,s.heap.get? a=some o/\o.ExactDict:=by obtain⟨_,_,_,_,o,_,_,e,n,_⟩:=I.h a _ c;exact⟨o,e,n⟩
 obtain⟨o,e,n⟩:=n;exact oY ⟨o,e,n.1⟩ zQ.lookup (BU r I g i λz j b t=>⟨w,H,b,t,q⟩) m
theorem Sc(M:X.A.units+1 < cLine):FH X (rP X.K lT):=by
 intro n l f s J H x y v u Q I o S h t;obtain⟨F,D,m,d,R,g,j,q,k⟩:=h;cases D with
 |tup b=>
  cases m with
  |int i=>obtain⟨a,xs,rfl,K,r⟩:=g;cases (show y=.int i from j);obtain⟨z,e,p⟩:=r.atI (show L2.atI b i=some d from q);exact Ej n l f s J H _ _ v u Q I o S ⟨a,xs,i,z,rfl,rfl,K.sq,e,k z F H .refl p⟩ t
  |_=>exact ln q
 |lst b=>
  cases m with
  |int i=>obtain⟨a,xs,rfl,K,r⟩:=g;cases (show y=.int i from j);obtain⟨z,e,p⟩:=r.atI (show L2.atI b i=some d from q);exact u6 n l f s J H _ _ v u Q I o S ⟨a,xs,i,z,rfl,rfl,K.sq,e,k z F H .refl p⟩ t
  |_=>exact ln q
 |ro b=>
  cases m with
  |int i=>obtain⟨a,xs,rfl,K,r⟩:=g;cases (show y=.int i from j);obtain⟨z,e,p⟩:=r.atI (show L2.atI b i=some d from q);exact u6 n l f s J H _ _ v u Q I o S ⟨a,xs,i,z,rfl,rfl,K.sq,e,k z F H .refl p⟩ t
  |_=>exact ln q
 |str z=>
  cases m with
  |int i=>
   cases (show x=.str z from g);cases (show y=.int i from j);simp only[lT]at q;split at q
   .rename_i L;cases e:L2.atI z.cps.toList i with
    |none=>rw[e]at q;exact ln q
    |some c=>rw[e]at q;cases q;exact Lh n l f s J H _ _ v u Q I o S ⟨z,i,c,rfl,rfl,h7 L,e,k _ F H .refl rfl⟩ t
   .cases q
  |_=>exact ln q
 |dct T b=>
  obtain⟨a,B,rfl,fa,C,G,r⟩:=g;simp only[lT]at q;cases P:ku m with
  |none=>rw[P]at q;exact ln q
  |some N=>rw[P]at q;dsimp only at q;subst G;obtain⟨w,E,p⟩:=nz r q;have A:=kt P j;subst A;exact Ek M n l f s J H _ _ v u Q I o S ⟨a,w,rfl,by rw[<- E];exact nk.k C,⟨B,C⟩,k w F H .refl p⟩ t
 |_=>exact ln q
theorem SJ{a b:Expr}{fa fb:EV}{M:Pos}(u:X.A.units+1 < cLine)(x:PE X a (tV X.K fa))(e:PE X b (tV X.K fb))(s:nh b):PE X (.Subscript a b M) (tV X.K (rg lT fa fb)):=
 (DM (Sc u) x e s).imp' λ_ _ _ h=>uK h
end
section
variable{X:Cx}
theorem qc:∀{s:List (fR×V)}{a:List D}{d:D},fy K F H m a (s.map (·.2))->gL k (s.map (·.1)) a=some d->∃v,jy s k=some v/\RD K F H m d v
 | [],a,d,r,h=>by cases a<;>exact ln h
 |(f,v)::s,[],d,r,h=>ln h
 |(f,v)::s,g::a,d,r,h=>by
  obtain⟨x,i,e,p,b⟩:=r;rw[aX]at e;injection e with c t;simp only[aX,gL]at h;by_cases n:f=k
  .rw [ae n]at h;cases h;exact⟨v,ji (p:=(f,v)) n,by rw[show v=x from c];exact p⟩
  .rw [ai n]at h;rw[<- t]at b;obtain⟨w,q,u⟩:=qc b h;exact⟨w,by rw[ik (p:=(f,v)) n];exact q,u⟩
@[simp] def mU(r:EE)(k:EV)(L:Lc)(S:aV):FK:=cY (r L S) λd x=>cY (k L x) λy h=>match d with
 | .p v=>(lT v y).map λz=>(.p z,h)
 | .ref i=>match h[i]? with
  | some (.lst s)=>(match y with
   | .int j=>(L2.atI s j).map λz=>(z,h)
   |_=>none)
  | some (.tpl s)=>(match y with
   | .int j=>(L2.atI s j).map λz=>(z,h)
   |_=>none)
  |some (.fz v)=>(lT v y).map λz=>(.p z,h)
  | some (.dct a B)=>(match ku y with
   |some k=>(gL k a B).map λz=>(z,h)
   |none=>none)
  |_=>none
theorem Ql{a b:Expr}{fa:EE}{fb:EV}{M:Pos}(hu:X.A.units+1 < cLine)(ha:PE X a (tE X.K fa))(hb:PE X b (tV X.K fb))(hs:nh b):PE X (.Subscript a b M) (tE X.K (mU fa fb)):=
 (DM ((((Sc hu).or u6).or (Ek hu)).or Ej) ha hb hs).imp' λJ H Q hz=>by
  obtain⟨F,m,L,S,d,N,r,l,q,k⟩:=hz;obtain⟨x,S1,W,q⟩:=ao q;obtain⟨h,T,e2,q⟩:=ao q;refine⟨F,m,L,S,x,S1,r,l,W,λv j m1 z K r1 p1=>?_⟩;refine⟨j,m1,L,S1,h,T,r1,l.mono K,e2,λu C E I A f R=>?_⟩;have px:=RD.mono A p1;have n:∀w:P,RP X.K C I w v->(lT w h).map (λe=>(D.p e,T))=some (d,N)->rP X.K lT v u I Q:=λw pw q=>by
   cases g:lT w h with
   |none=>rw[g]at q;cases q
   |some e=>rw[g]at q;cases q;exact⟨C,w,h,e,f.ft,pw,R,g,λt F3 H3 gr o=>k t F3 E H3 (K.trans (A.trans gr.stp)) (f.grow gr) o⟩
  cases x with
  |p w=>exact .inl (.inl (.inl (n w px q)))
  |ref i=>
   obtain⟨a,rfl,hm⟩:=px;dsimp only at q;cases y:T[i]? with
   |none=>rw[y]at q;cases q
   |some so=>
    rw[y]at q;have G:=f.obj i a so hm y;cases so with
    |fz w=>exact .inl (.inl (.inl (n w G q)))
    |dct ks B=>
     dsimp only at q;obtain⟨c,hk,ek,ra⟩:=G;cases ey:ku h with
     |none=>rw[ey]at q;cases q
     |some key=>
      rw[ey]at q;dsimp only at q;subst ek;cases g:gL key (c.map (·.1)) B with
      |none=>rw[g]at q;cases q
      |some e=>rw[g]at q;cases q;obtain⟨w,W,p⟩:=qc ra g;have eyv:=kt ey R;subst eyv;exact .inl (.inr ⟨a,w,rfl,by rw[<- W];exact nk.k hk,⟨c,hk⟩,k w C E I (K.trans A) f p⟩)
    |ins _ _ _=>cases q
    |exc _ _=>cases q
    |dtt _ _=>cases q
    |lst V=>
     dsimp only at q;cases h with
     |int s=>
      dsimp only at q;obtain⟨xs,hH,rs⟩:=G;cases g:L2.atI V s with
      |none=>rw[g]at q;cases q
      |some e=>rw[g]at q;cases q;obtain⟨t,Z,o⟩:=rs.atI g;cases (show u=.int s from R);exact .inl (.inl (.inr ⟨a,xs,s,t,rfl,rfl,j6.of hH,Z,k t C E I (K.trans A) f o⟩))
     |_=>cases q
    |tpl V=>
     dsimp only at q;cases h with
     |int s=>
      dsimp only at q;obtain⟨xs,hH,rs⟩:=G;cases g:L2.atI V s with
      |none=>rw[g]at q;cases q
      |some e=>rw[g]at q;cases q;obtain⟨t,Z,o⟩:=rs.atI g;cases (show u=.int s from R);exact .inr ⟨a,xs,s,t,rfl,rfl,.inl (.inl hH),Z,k t C E I (K.trans A) f o⟩
     |_=>cases q
def cj:P->Option Nat
 | .tup xs=>some xs.length
 | .lst xs=>some xs.length
 | .ro xs=>some xs.length
 | .str x=>if ka x.length=true then some x.length else none
 |_=>none
def bR:D->aV->Option Nat
 | .p v,_=>cj v
 | .ref i,S=>match S[i]? with
  |some (.lst d)=>some d.length
  |some (.fz v)=>cj v
  |_=>none
def b9(r:EE):EV:=λL S=>cY (r L S) λd h=>(bR d h).map λn=>(.int n,h)
theorem AI{F:Aa}{H:Hp}{w:P}{v:V}{n:Nat}{Q:VK}(p:RP X.K F H w v)(h:cj w=some n)(q:Q (.int n) H) :
  (∃p y,[v]=[V.ref p]/\(j6 X.K H p y\/sS X.K H p y)/\Q (.int y.length) H)\/(∃z,[v]=[V.str z]/\z.length≤sizeLine/\Q (.int z.length) H):=by
 cases w with
 |tup d=>obtain⟨a,xs,rfl,t,r⟩:=p;cases h;exact .inl ⟨a,xs,rfl,.inr t.sq,by rw[<- r.length];exact q⟩
 |lst d=>obtain⟨a,xs,rfl,t,r⟩:=p;cases h;exact .inl ⟨a,xs,rfl,.inl t.sq,by rw[<- r.length];exact q⟩
 |ro d=>obtain⟨a,xs,rfl,t,r⟩:=p;cases h;exact .inl ⟨a,xs,rfl,.inl t.sq,by rw[<- r.length];exact q⟩
 |str x=>
  cases (show v=.str x from p);simp only[cj]at h;split at h
  .rename_i c;cases h;exact .inr ⟨x,rfl,h7 c,q⟩
  .cases h
 |_=>exact ln h
theorem Qk(C:Gl X "len")(f:X.g "len"=none)(A:PE X e (tE X.K fe))(c:starEach [e] X.e=[(false,eval e X.e)]:=by rfl):PE X (.Call (.Name "len" p) [e] [] M) (tV X.K (b9 fe)):=
 (ko (vD.or vA) C f PySem.boot_len (fG A jD (by rw[c];rfl)) (by decide) (by decide) (by rw[c];rfl) rfl).imp' λJ H Q D=>by
  obtain⟨F,m,L,S,d,N,r,l,q,k⟩:=D;obtain⟨x,b,K,q⟩:=ao q;refine⟨F,m,L,S,x,b,r,l,K,λv j E z I u t=>?_⟩;cases h:bR x b with
  |none=>rw[h]at q;cases q
  |some n=>
   rw[h]at q;cases q;have s:Q (.int n) z:=k _ j E z I u rfl;cases x with
   |p w=>exact AI t h s
   |ref i=>
    obtain⟨a,rfl,f⟩:=t;simp only[bR]at h;cases y:N[i]? with
    |none=>rw[y]at h;cases h
    |some g=>
     rw[y]at h;have o:=u.obj i a g f y;cases g with
     |fz w=>exact AI o h s
     |dct T B=>cases h
     |ins _ _ _=>cases h
     |exc _ _=>cases h
     |tpl _=>cases h
     |dtt _ _=>cases h
     |lst R=>cases h;obtain⟨xs,P,G⟩:=o;exact .inl ⟨a,xs,rfl,.inl (j6.of P),by rw[<- G.length];exact s⟩
noncomputable def gH(d:D)(S:aV):Option (Nat×List D):=match d with
 | .ref i=>match S[i]? with
  |some (.lst s)=>some (i,s)
  |_=>none
 |_=>none
theorem uU(h:gH d S=some (i,k)):d=.ref i/\S[i]? = some (.lst k):=by
 unfold gH at h;split at h
 .split at h
  .rename_i e;cases h;exact⟨rfl,e⟩
  .cases h
 .cases h
@[simp] def dw(r:EE)(a:EE)(L:Lc)(S:aV):FK:=cY (r L S) λd h=>match gH d h with
 |none=>none
 |some _=>cY (a L h) λx e=>match gH d e with
  |some (i,s)=>if few s=true then some (.p .non,e.set i (.lst (s++[x]))) else none
  |none=>none
theorem Gz{o e:Expr}{V fe:EE}{p c:Pos}(ho:PE X o (tE X.K V))(he:PE X e (tE X.K fe))(G:starEach [e] X.e=[(false,eval e X.e)]:=by rfl)
  (b:attributeBase o "append" X.e (eval o X.e)=eval o X.e:=by rfl) (t:(p.endLine == c.line)=true:=by rfl):PE X (.Call (.Attribute o "append" p) [e] [] c) (tE X.K (dw V fe)):=
 (NU yN yH PySem.F.type_list_append sr ho (fG he jD (by rw[G];rfl)) b (by rw[G];rfl) t (by rw[G];rfl) rfl).imp' λJ H Q hz=>by
  obtain⟨F,m,L,S,d,N,r,l,q,k⟩:=hz;obtain⟨x,A,e1,q⟩:=ao q;refine⟨F,m,L,S,x,A,r,l,e1,λv j m1 z s1 r1 p1=>?_⟩;cases D:gH x A with
  |none=>rw[D]at q;cases q
  |some h=>
   obtain⟨i,ds⟩:=h;rw[D]at q;dsimp only at q;obtain⟨rfl,y⟩:=uU D;obtain⟨a,rfl,hm⟩:=id p1;obtain⟨xs,hH,rs⟩:=r1.obj i a _ hm y;refine⟨.inl ⟨rfl,xs,j6.of hH⟩,?_⟩;obtain⟨s,T,e2,q⟩:=ao q;refine⟨j,m1,L,A,s,T,r1,l.mono s1,e2,λu C M I s2 R p2=>?_⟩;cases n:gH (.ref i) T with
   |none=>rw[n]at q;cases q
   |some h=>
    obtain⟨i2,B⟩:=h;rw[n]at q;dsimp only at q;obtain⟨e3,f⟩:=uU n;cases e3;split at q
    .rename_i W;cases q;obtain⟨a2,e4,w⟩:=RD.mono s2 p1;cases e4;obtain⟨g,K,P⟩:=R.obj i a _ w f;have hl:=vb W;have E:g.length < sizeLine:=by
      have:B.length≤1000000:=bP W;rw[<- P.length];exact mh this (by decide)
     have Z:∀zs,I a≠some (.tup zs):=λzs h=>by rw[K]at h;cases h
     have st:Stp C M I C M (upd I a (.lst (g++[u]))):=jB R w f trivial Z;refine⟨a,g,u,rfl,rfl,K,E,?_⟩;exact k .non C M _ (s1.trans (s2.trans st)) (R.set w f trivial Z ⟨_,bc,fy.mono st (P.append ⟨u,[],rfl,p2,rfl⟩)⟩) rfl
    .cases q
def j_(r:EE):EE:=λL S=>cY (r L S) λd h=>match gH d h with
 |some (i,s)=>match s[s.length-1]? with
  |some x=>some (x,h.set i (.lst s.dropLast))
  |none=>none
 |none=>none
theorem fy.dropLast(r:fy K F H m h xs):fy K F H m h.dropLast xs.dropLast:=by rw[zx,zx,r.length];exact r.take _
theorem Qf(G:PE X o (tE X.K fo))
  (b:attributeBase o "pop" X.e (eval o X.e)=eval o X.e:=by rfl) (n:(t.endLine == cpos.line)=true:=by rfl):PE X (.Call (.Attribute o "pop" t) [] [] cpos) (tE X.K (j_ fo)):=
 (Kz yN yD PySem.F.type_list_pop K0 G b n).imp' λJ H Q I=>by
  obtain⟨F,m,L,S,d,N,r,l,q,k⟩:=I;obtain⟨x,P,D,q⟩:=ao q;refine⟨F,m,L,S,x,P,r,l,D,λv j w z T g M=>?_⟩;cases s:gH x P with
  |none=>rw[s]at q;cases q
  |some h=>
   obtain⟨i,A⟩:=h;rw[s]at q;dsimp only at q;obtain⟨rfl,y⟩:=uU s;obtain⟨a,rfl,p⟩:=id M;obtain⟨xs,c,K⟩:=g.obj i a _ p y;refine⟨.inl ⟨rfl,xs,j6.of c⟩,?_⟩;cases f:A[A.length-1]? with
   |none=>rw[f]at q;cases q
   |some e=>
    rw[f]at q;cases q;obtain⟨u,E,R⟩:=K.get f;have B:∀C,z a≠some (.tup C):=λC h=>by rw[c]at h;cases h
    have st:Stp j w z j w (upd z a (.lst xs.dropLast)):=jB g p y trivial B;refine⟨a,xs,u,rfl,rfl,c,by rw[<- K.length];exact E,?_⟩;exact k u j w _ (T.trans st) (g.set p y trivial B ⟨_,bc,fy.mono st K.dropLast⟩) (RD.mono st R)
noncomputable abbrev EO:=Lc->aV->Option (Option Int×aV)
noncomputable def cW:EO:=λ_ S=>some (none,S)
def bM(a:EV):EO:=λL S=>cY (a L S) λv h=>match v with
 | .int i=>some (some i,h)
 |_=>none
inductive tOI(K:FG)(f:EO)(J:L2.St)(H:Hp)(Q:Option Int->Hp->Prop):Prop
 |mk (F:Aa) (m:List Addr) (L:Lc) (S:aV) (b:Option Int) (S':aV) (h0_:Rel K F H m S) (h1_:RL K F H m J L) (h2_:f L S=some (b,S')) (h3_:∀F' m' H',Stp F m H F' m' H'->Rel K F' H' m' S'->Q b H'):tOI K f J H Q
noncomputable def tO(K:FG)(f:EO):TO:=λJ H Q=>tOI K f J H Q
theorem _root_.L2.PO.imp'(h:PO X e t)(i:∀J H Q,k J H Q->t J H Q):PO X e k:=λp s J H Q I q=>h p s J H Q I (i J H Q q)
theorem KU:PO X none (tO X.K cW):=Hl.imp' λJ H Q h=>by obtain⟨F,m,L,S,d,N,r,l,q,k⟩:=h;cases q;exact k F m H .refl r
theorem KS(h:PE X e (tV X.K fa)):PO X (some e) (tO X.K (bM fa)):=(Hk h).imp' λJ H Q s=>by
 obtain⟨F,m,L,S,d,N,r,l,q,k⟩:=s;obtain⟨x,c,a,q⟩:=ao q;cases x with
 |int i=>cases q;exact⟨F,m,L,S,_,_,r,l,a,λv j n z b f p=>⟨i,p,k j n z b f⟩⟩
 |_=>cases q
def cut(xs:List α)(lo h:Option Int):List α:=(xs.drop (HT.eQ xs.length 0 lo)).take (HT.eQ xs.length xs.length h-HT.eQ xs.length 0 lo)
theorem dZ.cut(r:dZ K F H k xs)(lo h:Option Int):dZ K F H (Ev.cut k lo h) (rS xs lo h):=by unfold Ev.cut rS;rw[r.length];exact(r.drop _).take _
def Ud:P->Option Int->Option Int->Option P
 | .lst xs,lo,h=>some (.lst (cut xs lo h))
 | .ro xs,lo,h=>some (.lst (cut xs lo h))
 | .tup xs,lo,h=>if HT.eQ xs.length 0 lo=0/\HT.eQ xs.length xs.length h=xs.length then none else some (.tup (cut xs lo h))
 |_,_,_=>none
theorem _root_.L2.PI.imp'(h:PI X r iter t)(i:∀J H R,k J H R->t J H R):PI X r iter k:=λp s J H R I q=>h p s J H R I (i J H R q)
theorem El(f:∀C h I,Stp F m H C h I->j6 K I a xs)(r:dZ K F H B xs):Ju K (P0 K a) B F m H:=by
 intro C h I s;have q:=f C h I s;have k:=dZ.mono s r;refine⟨λi v e=>?_,⟨xs,q,by rw[k.length];exact ar _⟩⟩;obtain⟨x,n,p⟩:=k.get e;refine⟨⟨xs,x,q,n⟩,λy b z=>?_⟩;obtain⟨rfl,z⟩:=z;have:=z xs q
 rw[n]at this;cases this;exact⟨C,.refl,p⟩
theorem Lj(k:TupAt K H a xs)(r:dZ K F H B xs):Ju K (Sx K a) B F m H:=by
 intro C b I s;have q:=(k.kp s.kp).sq;have n:=dZ.mono s r;refine⟨λi v e=>?_,⟨xs,q,by rw[n.length];exact ar _⟩⟩;obtain⟨x,h,p⟩:=n.get e;refine⟨⟨xs,x,q,h⟩,λy f z=>?_⟩;obtain⟨rfl,z⟩:=z;have:=z xs q
 rw[h]at this;cases this;exact⟨C,.refl,p⟩
noncomputable def intsFrom(lo:Int)(n:Nat):List P:=(List.range n).map λ(i:Nat)=>.int (lo+(i:Int))
def yd(a:EV):jR:=λL S=>cY (a L S) λv h=>match v with
 | .int j=>if decide (j.natAbs < 1000000)=true then some (intsFrom 0 j.toNat,h) else none
 |_=>none
theorem Ll{lo:Int}:Ju K (PZ lo n) (intsFrom lo n) F m H:=by
 intro C k I s;have l:(intsFrom lo n).length=n:=by unfold intsFrom;simp
 refine⟨λi v e=>?_,by show n≤(intsFrom lo n).length;rw[l];exact ar _⟩;have h:i < n:=by rw[<- l];exact(bX.mp e).1
 refine⟨h,λx a z=>?_⟩;obtain⟨rfl,rfl⟩:=z;refine⟨C,.refl,?_⟩;unfold intsFrom at e;simp[h]at e;subst e;exact rfl
theorem T3{i a:Expr}{fa:EV}{p M:Pos}(g:Gl X "range")(f:X.g "range"=none)(n:PE X a (tV X.K fa))(s:starEach [a] X.e=[(false,eval a X.e)]:=by rfl):PI X i (.Call (.Name "range" p) [a] [] M) (tI X.K (yd fa)):=
 (Bw g f (fG n jD (by rw[s];rfl)) s).imp' λJ H R b=>by
  obtain⟨F,m,L,S,B,N,r,l,q,k⟩:=b;obtain⟨v,y,e,q⟩:=ao q;cases v with
  |int h=>
   dsimp only at q;split at q
   .rename_i c;have o:h.natAbs < 1000000:=bP c;cases q;refine⟨F,m,L,S,_,_,r,l,e,λx j t z u w d=>?_⟩;cases (show x=.int h from d);exact⟨h,rfl,by lia,by lia,k _ j t z u w Ll⟩
   .cases q
  |_=>cases q
end
def kG(g:lB)(c:EB)(e:EV):List P->Lc->aV->Option (List P×aV)
 | [],_,S=>some ([],S)
 |v::r,L,S=>match g v L with
  |none=>none
  |some h=>cY (c h S) λk x=>if k=true then cY (e h x) λy a=>cY (kG g c e r h a) λn s=>some (y::n,s) else kG g c e r h x
noncomputable def Cf(q:List Nat)(n:Nat)(L:List (Option α)):List (Option α):=(q.foldl (λL i=>L.set i none) L)++List.replicate n none
def mq(i:jR)(q:List Nat)(n:Nat)(g:lB)(c:EB)(e:EV):EV:=λL S=>cY (i L S) λxs h=>if few xs=true then cY (kG g c e xs (Cf q n L) h) λy x=>some (.lst y,x) else none
@[simp] def Fu(_L:Lc)(S:aV):Mu:=some (true,S)
theorem gF(q:List Nat):∀L:List (Option α),(q.foldl (λL i=>L.set i none) L).length=L.length:=by
 induction q with
 |nil=>intro L;rfl
 |cons t q h=>intro L;rw[iK,h,fk]
theorem rG(q:List Nat):∀(L:List (Option α))(i:Nat)(d:α),(q.foldl (λL i=>L.set i none) L)[i]? = some (some d)->L[i]? = some (some d)/\i ∉ q:=by
 induction q with
 |nil=>intro L i d h;exact⟨h,by simp⟩
 |cons t q s=>
  intro L i d h;rw[iK]at h;obtain⟨x,a⟩:=s _ _ _ h;by_cases e:t=i
  .subst e;by_cases l:t < L.length
   .rw [eM l]at x;cases x
   .rw [ud (by rw[fk];lia)]at x;cases x
  .rw [dC e]at x;exact⟨x,by simp[a];exact λz=>e z.symm⟩
theorem uB(q:List Nat)(n:Nat)(L:List (Option α)):(Cf q n L).length=L.length+n:=by unfold Cf;rw[aI,gF,kW]
theorem Ai(h:(Cf q n L)[i]? = some (some d)):L[i]? = some (some d)/\i ∉ q/\i < L.length:=by
 unfold Cf at h;by_cases x:i < L.length
 .rw [fF (by rw[gF];exact x)]at h;obtain⟨a,e⟩:=rG q L i d h;exact⟨a,e,x⟩
 .rw [iM (by rw[gF];lia),ue]at h;split at h<;>cases h
variable{J:L2.St}
theorem RL.up(l:RL K F H m J L)(q:List Nat)(n:Nat):RL K F H m (Cf q n J) (Cf q n L):=by
 refine⟨by rw[uB,uB,l.len],λi d h=>?_⟩;obtain⟨a,s,f⟩:=Ai h;obtain⟨v,e,r⟩:=l.at' i d a;refine⟨v,?_,r⟩;unfold Cf;rw[fF (by rw[gF,l.len];exact f)];have k:∀(q:List Nat)(J:L2.St),i ∉ q->J[i]? = some (some v)->(q.foldl (λL i=>L.set i none) J)[i]? = some (some v):=by
  intro q;induction q with
  |nil=>intro J _ e;exact e
  |cons t q b=>intro J x e;rw[iK];refine b _ (λz=>x (bn _ z)) ?_;rw[dC (λz=>x (by rw[z];exact bi))];exact e
 exact k q J s e
noncomputable def nN(G:Scope)(e:Env):List (Str×Addr):=((G.names.filter λx=>x.2 == .free).map λx=>(x.1,(e.cells.lookup x.1).getD 0)).reverse
def inn(X:Cx)(G:Scope)(l:LS)(s:Shared)(H:Hp)(C:Addr)(f:List Addr):Cx:=
 { X with N:=l,z:=s,y:=H,e:=compEnvC G (nN G X.e) C X.e,o:=X.k,ex:=f,fn:=λ_=>false,pn:=[],xe:=λ_ _=>False }
structure BlockOk(X:Cx)(scope:Scope)(N':LS)(ts:List Nat)(n:Nat):Prop where
 kind:scope.kind=.function
 cell:∀x ∈ scope.names,x.2≠.cell
 loc:∀x ∈ scope.names,x.2=.local->scope.names.lookup x.1=some .local
 fr:∀x ∈ scope.names,x.2=.free->scope.names.lookup x.1=some .free/\(X.e.kindOf x.1=some .cell\/X.e.kindOf x.1=some .free)
 names:X.N=N'.take X.N.length
 more:N'.length=X.N.length+n
 ts:∀x ∈ scope.names,x.2=.local->∀i:Nat,X.N[i]? = some x.1->i ∈ ts
theorem iq:∀{l:List (Str×α)}{x:Str}{v:α},l.lookup x=some v->(x,v) ∈ l
 | [],_,_,h=>by simp at h
 |(y,w)::r,x,v,h=>by
  rw[md]at h;cases e:x == y with
  |true=>rw[e]at h;cases h;rw[show x=y from by simpa using e];exact bi
  |false=>rw[e]at h;exact bn _ (iq h)
theorem lr:∀{l:List (Str×α)}{x:Str}{v:α},(x,v) ∈ l->∃w,l.lookup x=some w
 | [],_,_,h=>by simp at h
 |(y,w)::r,x,v,h=>by
  rw[md];cases e:x == y with
  |true=>exact⟨w,rfl⟩
  |false=>
   rcases ay.mp h with h|h
   .injection h with a _;subst a;simp at e
   .exact lr h
variable{x:Str}
theorem gb(h:(relabel G r).names.lookup x=some k):∃a,(x,a) ∈ G.names/\(k=a\/(k=.cell/\a=.free)):=by
 have m:=iq h;unfold relabel at m;obtain⟨⟨n,a⟩,t,e⟩:=iJ.mp m;by_cases c:(a == NameKind.free && r.scope.kind == .function && r.kindOf n == some .cell)=true
 .have s:(n,NameKind.cell)=(x,k):=by simpa[c] using e
  injection s with f b;subst f;rw[aE,aE]at c;exact⟨a,t,.inr ⟨b.symm,by simpa using c.1.1⟩⟩
 .have s:(n,a)=(x,k):=by simpa[c] using e
  injection s with f b;subst f;exact⟨a,t,.inl b.symm⟩
section
variable{X:Cx}{G:Scope}{l:LS}{q:List Nat}{n:Nat}
theorem BlockOk.cl(B:BlockOk X G l q n)(I:Inv X pins J H s)(h:(nN G X.e).lookup x=some c):X.e.cells.lookup x=some c/\(x,NameKind.free) ∈ G.names:=by
 have t:=iq h;unfold nN at t;obtain⟨⟨y,k⟩,m,e⟩:=iJ.mp (zl.mp t);obtain⟨m,w⟩:=o8.mp m;have r:k=.free:=by simpa using w
 subst r;injection e with v f;subst v;obtain⟨_,d⟩:=B.fr _ m rfl;obtain⟨p,a⟩:=I.o.has y d;dsimp only at f;rw[a]at f;have b:p=c:=f;subst b;exact⟨a,m⟩
theorem BlockOk.has(B:BlockOk X G l q n)(h:(x,NameKind.free) ∈ G.names):∃c,(nN G X.e).lookup x=some c:=by unfold nN;exact lr (v:=(X.e.cells.lookup x).getD 0) (zl.mpr (iJ.mpr ⟨(x,.free),o8.mpr ⟨h,by simp⟩,rfl⟩))
theorem Et(B:BlockOk X G l q n)(I:Inv X r J H s)(C:s.heap.objs.size≤k)(f:∀b ∈ t,vL X r H b)(w:∀b ∈ t,b < s.heap.objs.size) :
  (inn X G l s H k t).Ok where
 mod:=I.o.mod
 kind:=B.kind
 glob:=I.o.glob
 blt:=I.o.blt
 above:=C
 inj:=λx y c v d=>I.o.inj x y c (B.cl I v).1 (B.cl I d).1
 has:=λx h=>by
  have p:(relabel G X.e).names.lookup x=some .cell\/(relabel G X.e).names.lookup x=some .free:=h;rcases p with h|h
  .obtain⟨u,m,e|⟨_,e⟩⟩:=gb h
   .subst e;exact absurd rfl (B.cell _ m)
   .subst e;exact B.has m
  .obtain⟨u,m,e|⟨e,_⟩⟩:=gb h
   .subst e;exact B.has m
   .cases e
 cab:=λx c h=>nomatch h
 hd:=I.o.hd
 frames:=I.o.frames
 stk:=.inl rfl
 exf:=λb a=>⟨cx (cg (w b a) C),λx c h=>(f b a).2.2.2.2.1 x c (B.cl I h).1⟩
 bs:=I.bs
 bsz:=ce I.o.bsz I.sz
 noex:=λb o e a=>by
  rcases(f b a).2.2.2.1 with z|z
  .exact I.o.noex b o e z
  .exact absurd (cg (bC (I.o.bs b o e).1) z) (iN _)
 exfs:=λb a z=>by
  rcases ay.mp (I.stkSub b z) with z|z
  .exact (f b a).2.1 z
  .exact (f b a).2.2.1 z
 funs:=I.stack
 frf:=I.stkFree
theorem _root_.L2.Un.sameBut(u:Un fs r H H' h t)(s:kg k t h2)(C:∀b o,h.get? b=some o->b≠k):Un fs r H H' h h2 where
 keep:=λb o e n a x=>s.extBut b o (C b o e) (u.keep b o e n a x)
 slot:=λb o e n a x=>by obtain⟨l,q⟩:=u.slot b o e n a x;exact⟨l,s.extBut b _ (C b o e) q⟩
 free:=u.free
 there:=λb o e x=>by obtain⟨f,q⟩:=u.there b o e x;exact⟨f,s.extBut b _ (C b o e) q⟩
 tups:=u.tups
 frzs:=u.frzs
 tbls:=u.tbls
theorem _root_.L2.j7.sameBut{P:Program}{w:World}{H:Hp}{h x:Heap}{C:Addr}(ok:j7 P w H h)(n:kg C h x)(a:H C=none):j7 P w H x:=λb u e=>
 (ok b u e).stay (fun c v s q=>n.extBut c v (by
  rintro rfl;rcases s with z|z
  .subst z;rw[a]at e;cases e
  .rw [a]at z;cases z) q) (λ_ q=>q) λ_ _ q=>q
inductive PIfs(X:Cx):Ab->EB->Prop where
 |none:PIfs X [] Fu
 |one {c:Expr}{q:EB}:PT X c (tQ X.K q)->PIfs X [c] q
theorem Kp.bump(x:¬F p)(t:∀xs,H p≠some (.tup xs)):Kp F m H F m (upd H p o):=
 ⟨⟨[],by simp⟩,λ_ h=>h,λb u f h=>by rw[aR (by rintro rfl;exact x f)];exact h,λb xs h=>by rw[aR (by rintro rfl;exact t xs h)];exact h⟩
theorem Stp.bump(s:Stp F m H F' m' H')(x:H p=none):Stp F m H F' m' (upd H' p o) where
 pre:=s.pre
 oth:=λb u h a=>by rw[aR (by rintro rfl;rw[x]at h;cases h)];exact s.oth b u h a
 frz:=s.frz
 frk:=λb u f h=>by rw[aR (by rintro rfl;rw[x]at h;cases h)];exact s.frk b u f h
 tup:=λb xs h=>by rw[aR (by rintro rfl;rw[x]at h;cases h)];exact s.tup b xs h
 trk:=λb h=>by
  by_cases e:b=p
  .subst e;rw[bc];exact λz=>nomatch z
  .rw [aR e];exact s.trk b h
 nf:=s.nf
 nm:=s.nm
theorem Rel.bump(r:Rel K F H m S)(x:¬F p)(s:p ∉ m)(t:∀xs,H p≠some (.tup xs)):Rel K F (upd H p o) m S:=
 r.stayK (Kp.bump x t) (λa u e h=>by rw[aR (by rintro rfl;exact s e)];exact h) (λ_ f=>.inl f) λa f=>by rw[aR (by rintro rfl;exact x f)];exact r.ft a f
theorem Q_:Kp F m H (λb=>F b\/b=p) m H:=⟨⟨[],by simp⟩,λ_ h=>.inl h,λ_ _ _ h=>h,λ_ _ h=>h⟩
theorem Stp.addF(s:Stp F m H F' m' H')(x:H p=none):Stp F m H (λb=>F' b\/b=p) m' H':=
 ⟨s.pre,s.oth,fun b h=>.inl (s.frz b h),s.frk,s.tup,s.trk,fun b h=>by
  rcases h with h|h
  .exact s.nf b h
  .subst h;exact .inr (.inl x),s.nm⟩
theorem Rel.addF(r:Rel K F H m S)(s:p ∉ m)(n:H p≠none):Rel K (λb=>F b\/b=p) H m S where
 len:=r.len
 nd:=r.nd
 obj:=λi a o e x=>(r.obj i a o e x).kp Q_ λu h=>h
 sep:=λi a o e x w f=>by
  rcases f with f|f
  .exact r.sep i a o e x w f
  .subst f;exact s (eL e)
 trk:=r.trk
 ft:=λa f=>by
  rcases f with f|f
  .exact r.ft a f
  .subst f;exact n
theorem _root_.L2.Inv.letGo(I:Inv X k J H s)(f:kg h s.heap t)(C:H h=none)(v:X.z.heap.objs.size≤h)(d:h≠X.e.locals)
  (w:∀x c,X.e.cells.lookup x=some c->c≠h) (u:∀p ∈ X.pn++k,p.1≠h):Inv X k J H { s with heap:=t }:=by
 have r:∀b:Addr,b ∉ [h]->b≠h:=λb m z=>m (by simp[z]);refine I.call' (s':={ s with heap:=t }) (i:=[h]) rfl ⟨λb o e _ _ a=>f.extBut b o (r b a) e,λb o e _ _ a=>⟨o.slots,f.extBut b o (r b a) e⟩,λ_ _ _ n _=>n,λb o e a=>⟨o,f.extBut b o (r b a) e⟩,λ_ _ q=>q,λ_ _ _ q=>q,λb g q=>⟨#[],by rw[q];simp⟩⟩ (I.h.sameBut f C) I.bare λb m=>?_;have e:b=h:=by simpa using m
 subst e;exact⟨.inr v,d,w,u⟩
theorem BZ(I:Nat->Shared->Prop)
  (u:∀n s,I n s->wpAny (model t w) A (pyNext it) (fun r f=>match r with
   |none=>R (.ok .next) f
   | some v=>wpAny (model t w) A (letOwnedTupleGo tg it v) (fun _ d=>wpAny (model t w) A (assign tg k v) (fun _ g=>
     wpAny (model t w) A (forIn ifs true fun c r=>if r=true then do let ok <- isTrue c k (eval c k);pure (ForInStep.yield ok) else pure (ForInStep.yield r)) (fun ok b=>
      if ok=true then wpAny (model t w) A (eval elt k) (fun x i=>
       wpAny (model t w) A (call (.builtin "list.append") [acc,x]) (λ_ j=>∃m,m < n/\I m j) (notedBy (model t w) A k λe a=>R (.error e) a) i) (notedBy (model t w) A k λe a=>R (.error e) a) b
      else ∃m,m < n/\I m b) (notedBy (model t w) A k λe a=>R (.error e) a) g) (notedBy (model t w) A k λe a=>R (.error e) a) d) (notedBy (model t w) A k λe a=>R (.error e) a) f) (notedBy (model t w) A k λe a=>R (.error e) a) s)
  (n:Nat) (h:I n s):codeAny (model t w) A (.compLoop (.ListComp elt [⟨tg,iter,ifs,0⟩] G M) 0 it acc k) R s:=by
 refine codeAny_loop rfl I (λn s S=>?_) n h;show wpAny _ A ((compTurn (.ListComp elt [⟨tg,iter,ifs,0⟩] G M) 0 it acc k).onRaise (λx=>do noteFrame x k;theTreesLotGoes x)) _ _ s;refine wpAny_noted ?_;rw[compTurn_list];refine ak (pL (ak (bK (u n s S) (λr f p=>?_) λ_ _ z=>z)));cases r with
 |none=>exact aP p
 |some v=>
  refine ak (bK p (λ_ d l=>ak (bK l (λ_ g y=>ak (bK y (λok b q=>?_) λ_ _ z=>z)) λ_ _ z=>z)) λ_ _ z=>z);cases ok with
  |false=>exact aP ⟨rfl,q⟩
  |true=>exact ak (ak (bK q (λx i o=>ak (bK o (λ_ j H=>aP (aP ⟨rfl,H⟩)) λ_ _ z=>z)) λ_ _ z=>z))
theorem Il{H:Heap}{tk:Nat}(B:BlockOk X G l q n)(a:Inv X pins J I k)(C:k.heap.objs.size≤h)(f2:∀b ∈ fp,vL X pins I b)(E:∀b ∈ fp,b < k.heap.objs.size)(d:∀b o,k.heap.get? b=some o->H.get? b=some o)
  (hD:I k.heap.objs.size=none) (D:k.heap.objs.size≠h) (A:I h=none) (w:H.Ns h mC) (s:H.get? k.heap.objs.size=some { cls:=.type "list",dict:=none,data:=.seq ([]:LV).toArray }) :
  Inv (inn X G l k I h fp) [] (Cf q n J) (upd I k.heap.objs.size (.lst [])) { k with heap:=H,toks:=tk }:=by
 refine⟨Et B a C f2 E,rfl,a.bare,Un.laid d (ar _) hD,?_,λx c e=>?_,?_,λx c e=>?_,λp hp=>absurd (show p ∈ ([]:PN) from hp) (by simp),?_,?_⟩
 .obtain⟨m0,hn0,L⟩:=a.loc;refine⟨_,w,λi x v V W hv=>?_⟩;obtain⟨F,K,P⟩:=Ai W;have t:J.length=X.N.length:=a.len;have Q:X.N[i]? = some x:=by
   rw[B.names,kX (by rw[<- t];exact P)];exact V
  have j:(relabel G X.e).names.lookup x=some .local\/(relabel G X.e).names.lookup x=some .cell\/(relabel G X.e).names.lookup x=some .free:=hv;have T:¬(relabel G X.e).names.lookup x=some .local:=λz=>by
   obtain⟨R,m,e|⟨e,_⟩⟩:=gb z
   .subst e;exact absurd (B.ts _ m rfl i Q) K
   .cases e
  have N:(x,NameKind.free) ∈ G.names:=by
   rcases j with z|z|z
   .exact absurd z T
   .obtain⟨R,m,e|⟨_,e⟩⟩:=gb z
    .subst e;exact absurd rfl (B.cell _ m)
    .subst e;exact m
   .obtain⟨R,m,e|⟨e,_⟩⟩:=gb z
    .subst e;exact m
    .cases e
  obtain⟨_,r⟩:=B.fr _ N rfl;have M:FO X.e.scope x:=by
   rcases r with z|z
   .exact .inr (.inl z)
   .exact .inr (.inr z)
  obtain⟨u,ru,lk⟩:=L i x v Q F M;refine⟨u,ru,.inr ⟨?_,?_⟩⟩
  .rcases j with z|z|z
   .exact absurd z T
   .exact .inl z
   .exact .inr z
  .rcases lk with ⟨z,_⟩|⟨_,c,Z,ic⟩
   .rcases r with y|y
    .rw [z]at y;cases y
    .rw [z]at y;cases y
   .obtain⟨c',f⟩:=B.has N;have:=(B.cl a f).1
    rw[Z]at this;cases this;obtain⟨o,g,S⟩:=ic;exact⟨c,f,o,d c o g,S⟩
 .obtain⟨v,o,g,S⟩:=a.cell x c (B.cl a e).1;exact⟨v,o,d c o g,S⟩
 .show upd I k.heap.objs.size (.lst []) h=none;rw[aR (cI D)];exact A
 .obtain⟨v,o,g,S⟩:=a.cell x c (B.cl a e).1;rw[aR (cx (bC g))];exact a.freeC x c (B.cl a e).1
 .exact a.h.laid d (ar _) ⟨eh _,[],0,.nil,s⟩
 .show (Cf q n J).length=l.length;rw[uB,a.len,B.more]
inductive cIv(K:FG)(Y9:Cx)(F1:Aa)(m1:List Addr)(H2:Hp)(A:Addr)(tn:Nat->Heap->Prop)(fp:List Addr)(R:Nat->Nat->Lc->aV->List P->Prop)(ys:List P)(nn:Nat)(sx:Shared):Prop
 |mk (i:Nat) (J':L2.St) (F':Aa) (m':List Addr) (H':Hp) (L':Lc) (S':aV) (acc rest:List P) (xs:List V) (h0_:Inv Y9 [] J' H' sx) (h1_:tn i sx.heap) (h2_:∀b ∈ fp,H' b=none) (h3_:Stp F1 m1 H2 F' m' H') (h4_:Rel K F' H' m' S') (h5_:RL K F' H' m' J' L') (h6_:H' A=some (.lst xs)) (h7_:dZ K F' H' acc xs) (h8_:acc.length≤i) (h9_:¬F' A) (ha_:A ∉ m') (hb_:R nn i L' S' rest) (hc_:acc++rest=ys):cIv K Y9 F1 m1 H2 A tn fp R ys nn sx
theorem sK 
  (h:BlockOk X G l q n) (hcalm:X.c=true)
  (hi:PI X tg iter (tI X.K fi)) (hg:∀s H C Q,PG (inn X G l s H C Q) tg (gT X.K g)) (hc:∀s H C Q,PIfs (inn X G l s H C Q) ifs fc) (he:∀s H C Q,PE (inn X G l s H C Q) elt (tV X.K fe))
  (hclos:closureFor G X.e=pure (nN G X.e)) (hs:∀x,foldedSetIterable iter X.e x=pure x)
  (a:Inv X pins J H s) (r:Rel X.K F H m S) (k:RL X.K F H m J L) (t:mq fi q n g fc fe L S=some (d,S2))
  (fin:∀p F' m' H' sx C,Inv X pins J H' sx->Stp F m H F' m' H'->Rel X.K F' H' m' S2->RP X.K F' H' d (.ref p)->H' C=none->X.z.heap.objs.size≤C->C≠X.e.locals->(∀x c,X.e.cells.lookup x=some c->c≠C)->(∀p ∈ X.pn++pins,p.1≠C) ->
   (∃mC,sx.heap.Ns C mC)->compPost (model X.p X.w) X.A X.xe use a0 (.ref p) C (.ok .next) sx) :
  wx X (comprehension (.ListComp elt [⟨tg,iter,ifs,0⟩] G M) G X.e p2 (newList []) false (eval iter X.e) use) a0 X.xe s:=by
 obtain⟨B,S1,e1,t⟩:=ao t;split at t;case isFalse=>cases t
 rename_i hfew;obtain⟨ys,S2',e2,t⟩:=ao t;cases t;refine wpAny_comprehension_free (use:=use) rfl hs hclos h.kind h.loc (ez (hi pins s J H _ a ⟨F,m,L,S,B,S1,r,k,e1,λJ9 j m1 z s1 r1 it=>(show(λJ9 z=>∃j m1,Stp F m H j m1 z/\Rel X.K j z m1 S1/\Ju X.K J9 B j m1 z) J9 z from ⟨j,m1,s1,r1,it⟩)⟩) λxv sA hA=>ez hA λitv D h2=>?_);obtain⟨it,Q,tn,J9,I,rfl,I2,T,st2,f2,j,m1,s1,r1,itp⟩:=h2;have hfp:∀b ∈ Q,b < D.heap.objs.size:=λb R=>by obtain⟨o,e,_⟩:=T.obj _ _ st2 b R;exact bC e
 refine pN ?_ (by show 0≤sizeLine;exact eh _);refine wpAny_newFunctionEnv h.cell (by intro y hy;simp at hy) (λh1 hns1 hsb1=>?_) h.kind;dsimp only at hns1 hsb1 ⊢;have hD:I D.heap.objs.size=none:=I2.h.fresh (ar _);generalize hH2:D.heap.push { cls:=.type "list",dict:=none,data:=.seq ([]:LV).toArray }=A at hns1 hsb1 ⊢;have hC:A.objs.size=D.heap.objs.size+1:=by rw[<- hH2,xA]
 have E:D.heap.objs.size≤A.objs.size:=by rw[hC];exact uh _
 have old:∀b o,D.heap.get? b=some o->h1.get? b=some o:=λb o e=>hsb1.extBut b o (cx (cg (bC e) E)) (cv _ (hH2 ▸ cv _ e));have hDC:D.heap.objs.size≠A.objs.size:=by rw[hC];exact cx (jx _)
 have accO:h1.get? D.heap.objs.size=some { cls:=.type "list",dict:=none,data:=.seq ([]:LV).toArray }:=hsb1.extBut _ _ hDC (cv _ (hH2 ▸ gy _ rfl));have hCn:I A.objs.size=none:=I2.h.fresh E;have hCcell:∀x c,X.e.cells.lookup x=some c->c≠A.objs.size:=λx c e w=>by obtain⟨v,o,ho,_⟩:=I2.cell x c e;exact absurd (bC ho) (ug.mpr (by rw[w];exact E))
 have hCloc:A.objs.size≠X.e.locals:=zG (cg I2.lt E);have hCpin:∀p ∈ X.pn++pins,p.1≠A.objs.size:=λp hp w=>absurd (bC (I2.pin p hp).1) (ug.mpr (by rw[w];exact E));have I3:=Il (tk:=D.toks+([]:List (Str×Value)).length) h I2 E f2 hfp old hD hDC hCn hns1 accO;have okX:=Et (k:=A.objs.size) h I2 E f2 hfp;have fpH:∀{H':Hp},(∀b ∈ Q,H' b=none)->∀b ∈ Q,vL (inn X G l D I A.objs.size Q) [] H' b:=λhn b R=>
  ⟨hn b R,cx (cg (hfp b R) E),okX.exfs b R,.inl R,(okX.exf b R).2,λp hp=>absurd (show p ∈ ([]:PN) from hp) (by simp)⟩
 have tn1:tn 0 h1:=T.keep _ _ _ st2 λb R o e=>old b o e;have loop:∀s3:Shared,s3={ D with heap:=h1,toks:=D.toks+([]:List (Str×Value)).length } ->
   codeAny (model X.p X.w) X.A (.compLoop (.ListComp elt [⟨tg,iter,ifs,0⟩] G M) 0 (.ref it) (.ref D.heap.objs.size) (compEnvC G (nN G X.e) A.objs.size X.e))
    (compPost (model X.p X.w) X.A X.xe use a0 (.ref D.heap.objs.size) A.objs.size) s3:=by
  rintro s3 rfl;refine BZ (cIv X.K (inn X G l D I A.objs.size Q) j m1 I D.heap.objs.size tn Q (λnn i L' N u=>nn=B.length-i/\i≤B.length/\kG g fc fe (B.drop i) L' N=some (u,S2)) ys) ?_ B.length ?_
  .rintro nn sx ⟨i,J',F',m',H',L',N,acc,u,xs,I',tn',fr',st',r',l',hacc,ra,hal,nF,nm,⟨rfl,hi',W⟩,rfl⟩;obtain⟨hgo,hstop⟩:=itp F' m' H' st';by_cases hlt:i < B.length
   .have hv:B[i]? = some B[i]:=by simp[hlt]
    rw[zB hlt]at W;obtain⟨hgo1,hy⟩:=hgo i _ hv;refine bK (T.item (inn X G l D I A.objs.size Q) rfl rfl rfl hcalm i [] sx J' H' (λ_ _=>False) I' (fpH fr') tn' hgo1) (λrr sy hr=>?_) (λ_ _ f=>f.elim);obtain⟨K,rfl,hr⟩:=hr;refine bK hr (λ_ sz hz=>?_) (λ_ _ f=>f.elim);obtain⟨x,H3,I4,rx,yl,tn4,fr4⟩:=hz;obtain⟨F3,gr,p3⟩:=hy x H3 yl;have st4:Stp j m1 I F3 m' H3:=st'.trans gr.stp;have r4:=r'.grow gr;have l4:=l'.mono (gr.stp (m:=m'));have acc4:=gr.keep _ _ hacc;have nF4:¬F3 D.heap.objs.size:=λw=>by
     rcases gr.nf _ w with w|⟨w,_⟩
     .exact nF w
     .rw [hacc]at w;cases w
    have I4':=I4.pinned (fpH fr4) (T.obj _ _ tn4);have back:∀{J7:L2.St}{H7:Hp}{s7:Shared},Inv (inn X G l D I A.objs.size Q) ([]++nE Q sz.heap) J7 H7 s7->tn (i+1) s7.heap/\∀b ∈ Q,H7 b=none:=λ{J7 H7 s7} I7=>
     ⟨T.keep _ _ _ tn4 λb R o e=>(I7.pin (b,o) (cw _ (cw _ (jH R e)))).1,λb R=>by obtain⟨o,e,dd⟩:=T.obj _ _ tn4 b R;exact(I7.pin (b,o) (cw _ (cw _ (jH R e)))).2.1⟩
    unfold kG at W;cases eg:g B[i] L' with
    |none=>rw[eg]at W;cases W
    |some L1=>
     rw[eg]at W;dsimp only at W;obtain⟨kk,S5,e5,W⟩:=ao W;refine bK (hg D I A.objs.size Q _ sz J' H3 x K (λJ5 H5=>H5=H3/\RL X.K F3 H3 m' J5 L1) I4' rx ⟨F3,m',L',B[i],L1,l4,p3,eg,λJ5 l5=>⟨rfl,l5⟩⟩) (λ_ s5 h5=>?_) (λ_ _ f=>f.elim);obtain⟨J5,H5,I5,rfl,l5⟩:=h5;have test:wx X (forIn ifs true λc r=>if r=true then do let ok <- isTrue c (compEnvC G (nN G X.e) A.objs.size X.e) (eval c (compEnvC G (nN G X.e) A.objs.size X.e));pure (ForInStep.yield ok) else pure (ForInStep.yield r))
       (λok s6=>ok=kk/\∃Z m6 H6,Inv (inn X G l D I A.objs.size Q) ([]++nE Q sz.heap) J5 H6 s6/\Stp F3 m' H5 Z m6 H6/\Rel X.K Z H6 m6 S5) (λ_ _=>False) s5:=by
      have hcc:=hc D I A.objs.size Q;cases hcc with
      |none=>cases e5;exact wpAny_tests_nil ⟨rfl,F3,m',H5,I5,.refl,r4⟩
      |one hq=>refine wpAny_tests_one (bK (hq _ s5 J5 H5 (λb H6=>b=kk/\∃Z m6,Stp F3 m' H5 Z m6 H6/\Rel X.K Z H6 m6 S5) I5 ⟨F3,m',L1,N,kk,S5,r4,l5,e5,λZ m6 H6 s6 r6=>⟨rfl,Z,m6,s6,r6⟩⟩) (λb s6 h6=>?_) λ_ _ f=>f);obtain⟨H6,I6,rfl,Z,m6,V,r6⟩:=h6;exact⟨rfl,Z,m6,H6,I6,V,r6⟩
     refine bK test (λok s6 h6=>?_) (λ_ _ f=>f.elim);obtain⟨rfl,Z,m6,H6,I6,V,r6⟩:=h6;have acc6:=V.oth _ _ acc4 nm;have nm6:D.heap.objs.size ∉ m6:=λw=>by
      rcases V.nm _ w with w|w
      .exact nm w
      .rw [acc4]at w;cases w
     have nF6:¬Z D.heap.objs.size:=λw=>by
      rcases V.nf _ w with w|w|w
      .exact nF4 w
      .rw [acc4]at w;cases w
      .exact nm w
     have ra6:=dZ.mono V (ra.grow gr);have l6:=l5.mono V;cases ok with
     |false=>rw[ai cb]at W ⊢;obtain⟨t7,f7⟩:=back I6;exact⟨B.length-(i+1),by lia,i+1,J5,Z,m6,H6,L1,S5,acc,u,xs,I6.pins_of λp hp=>absurd hp (by simp),t7,f7,st4.trans V,r6,l6,acc6,ra6,Nat.le_succ_of_le hal,nF6,nm6,⟨rfl,hlt,W⟩,rfl⟩
     |true=>
      rw[ae rfl]at W ⊢;obtain⟨y,S8,e8,W⟩:=ao W;obtain⟨zs,S9,e9,W⟩:=ao W;cases W;refine bK (he D I A.objs.size Q _ s6 J5 H6 (λv8 H8=>∃F8 m8,Stp Z m6 H6 F8 m8 H8/\Rel X.K F8 H8 m8 S8/\RP X.K F8 H8 y v8) I6 ⟨Z,m6,L1,S5,y,S8,r6,l6,e8,λv8 F8 m8 H8 s8 r8 p8=>⟨F8,m8,s8,r8,p8⟩⟩) (λu8 s8 h8=>?_) (λ_ _ f=>f.elim);obtain⟨v8,H8,I8,rv8,F8,m8,st8,r8,p8⟩:=h8;have acc8:=st8.oth _ _ acc6 nm6;have nm8:D.heap.objs.size ∉ m8:=λw=>by
       rcases st8.nm _ w with w|w
       .exact nm6 w
       .rw [acc6]at w;cases w
      have nF8:¬F8 D.heap.objs.size:=λw=>by
       rcases st8.nf _ w with w|w|w
       .exact nF6 w
       .rw [acc6]at w;cases w
       .exact nm6 w
      have ra8:=dZ.mono st8 ra6;have nt8:∀zs,H8 D.heap.objs.size≠some (.tup zs):=λzs w=>by rw[acc8]at w;cases w
      have hl8:xs.length < sizeLine:=by have h9:B.length≤1000000:=bP hfew;rw[<- ra8.length];exact cg (mh hal hlt) (ce h9 (by decide))
      refine bK (sr (X:=inn X G l D I A.objs.size Q) _ s8 J5 H8 (.ref D.heap.objs.size) [v8] (.ref D.heap.objs.size) [u8] (λ_ H9=>H9=upd H8 D.heap.objs.size (.lst (xs++[v8]))) I8 rfl (.cons rv8 .nil) ⟨_,xs,v8,rfl,rfl,acc8,hl8,rfl⟩) (λ_ s9 h9=>?_) (λ_ _ f=>f.elim);obtain⟨_,H9,I9,_,rfl⟩:=h9;obtain⟨t9,f9⟩:=back I9;have kb:Kp F8 m8 H8 F8 m8 (upd H8 D.heap.objs.size (.lst (xs++[v8]))):=Kp.bump nF8 nt8;have st9:Stp j m1 I F8 m8 (upd H8 D.heap.objs.size (.lst (xs++[v8]))):=(st4.trans (V.trans st8)).bump hD;have l9:RL X.K F8 (upd H8 D.heap.objs.size (.lst (xs++[v8]))) m8 J5 L1:=⟨l6.len,λP dd e=>by obtain⟨v,e1,rr⟩:=(l6.mono st8).at' P dd e;exact⟨v,e1,RD.kp kb rr⟩⟩
      exact⟨B.length-(i+1),by lia,i+1,J5,F8,m8,_,L1,S8,acc++[y],zs,xs++[v8],I9.pins_of fun p hp=>absurd hp (by simp),t9,f9,st9,r8.bump nF8 nm8 nt8,l9,bc,
       dZ.kp kb (ra8.append ⟨v8,[],rfl,p8,rfl⟩),by rw[aI];exact Nat.succ_le_succ hal,nF8,nm8,⟨rfl,hlt,e9⟩,by simp⟩
   .have e:i=B.length:=by lia
    subst e;rw[t8]at W;cases W;refine bK (T.done (inn X G l D I A.objs.size Q) rfl rfl rfl hcalm B.length [] sx J' H' (λ_ _=>False) I' (fpH fr') tn' hstop) (λrr sy hr=>?_) (λ_ _ f=>f.elim);obtain⟨rfl,I5⟩:=hr;rw[fj] at *
    have Iout:Inv X pins J H' sy:=I2.call' (i:=Q) I5.os I5.base I5.h I5.bare λb R=>⟨(f2 b R).2.2.2.1,(f2 b R).2.1,(f2 b R).2.2.2.2.1,(f2 b R).2.2.2.2.2⟩;have hD0:H D.heap.objs.size=none:=by
     cases t:H D.heap.objs.size with
     |none=>rfl
     |some o=>exact absurd hD (s1.trk _ (by rw[t];exact λw=>nomatch w))
    have hCH:H' A.objs.size=none:=I5.free;obtain⟨mC,hmC,_⟩:=I5.loc;exact fin D.heap.objs.size (λb=>F' b\/b=D.heap.objs.size) m' H' sy A.objs.size Iout ((s1.trans st').addF hD0) (r'.addF nm (by rw[hacc];exact λw=>nomatch w))
     ⟨_,xs,rfl,⟨.inr rfl,hacc⟩,dZ.kp (m:=m') Q_ ra⟩ hCH (ce I2.sz E) hCloc hCcell hCpin ⟨mC,hmC⟩
  .exact⟨0,_,j,m1,_,Cf q n L,S1,[],ys,[],I3,tn1,λb R=>by rw[aR (cx (hfp b R))];exact(f2 b R).1,(cG hD).stp,r1.grow (cG hD),((k.mono s1).mono (cG hD).stp).up q n,bc,rfl,eh _,r1.fresh_F hD,r1.fresh_m hD,⟨rfl,eh _,by rw[ma];exact e2⟩,rfl⟩
 exact codeAny_compStart_list (loop _ rfl) (T.self X.A 0 _ _ _ tn1 (loop _ rfl))
theorem Na(B:BlockOk X G l q n)(c:X.c=true)
  (A:PI X tg iter (tI X.K fi)) (P:∀s H C f,PG (inn X G l s H C f) tg (gT X.K g)) (z:∀s H C f,PIfs (inn X G l s H C f) ifs fc) (K:∀s H C f,PE (inn X G l s H C f) t (tV X.K fe))
  (o:closureFor G X.e=pure (nN G X.e)) (D:∀x,foldedSetIterable iter X.e x=pure x:=by intro _;rfl) :
  PE X (.ListComp t [⟨tg,iter,ifs,0⟩] G M) (tV X.K (mq fi q n g fc fe)):=by
 intro i s J H Q I ⟨F,m,L,S,d,N,r,h,a,k⟩;rw[eval_ListComp];refine sK B c A P z K o D I r h a λp F' m' H' sx C b st T V y v w u j E=>?_
 obtain⟨R,e⟩:=E;exact⟨R,e,λZ W=>⟨.ref p,H',b.letGo W y v w u j,rfl,k _ F' m' H' st T V⟩⟩
theorem MT(i:Nat)(hN:X.N.Nodup)(B:BlockOk X G l q n)(c:X.c=true)
  (hi:PI X tg iter (tI X.K fi)) (hg:∀s H C b,PG (inn X G l s H C b) tg (gT X.K g)) (hc:∀s H C b,PIfs (inn X G l s H C b) ifs fc) (he:∀s H C b,PE (inn X G l s H C b) t (tV X.K fe))
  (o:closureFor G X.e=pure (nN G X.e)) (P:swapsWith (.ListComp t [⟨tg,iter,ifs,0⟩] G M) (some (.Name x px)) spos.line X.e=pure true:=by rfl)
  (hs:∀x,foldedSetIterable iter X.e x=pure x:=by intro _;rfl) (z:X.N[i]? = some x:=by rfl) (hx:Loc X.e.scope x:=by first|exact Or.inl rfl|exact Or.inr rfl)
  (hf:X.fn x=true\/X.e.scope.names.lookup x=some .local:=by first|exact .inl rfl|exact .inr rfl|assumption) :
  PS X (.Assign [.Name x px] (.ListComp t [⟨tg,iter,ifs,0⟩] G M) spos) (jT X.K (aG i (U (mq fi q n g fc fe)))):=by
 intro j s J H D I ⟨F,m,L,S,fl,L',N,r,h,f,k⟩;obtain⟨d,S1,W,f⟩:=ao f;cases f;obtain⟨v,S2,Z,e3⟩:=ao W;cases e3;rw[exec_Assign_Name_used _ _ _ _ P];refine ak (pL (ak ?_));show wpAny _ _ (do let _ <- comprehension (.ListComp t [⟨tg,iter,ifs,0⟩] G M) G X.e _ (newList []) false (eval iter X.e) (some (assign (.Name x px) X.e))) _ _ s;refine ak (bK (sK (use:=some (assign (.Name x px) X.e)) (a0:=λ_ A=>SP X j D .next A) B c hi hg hc he o hs I r h Z λp F' m' H' sx C V st r' rp hC h0 R T h3 hz=>?_) (λ_ A hq=>aP (aP hq)) λ_ _ e=>e);obtain⟨mC,K⟩:=hz;refine zT (nC V hN z hx (v:=.ref p) rfl (λA y u=>?_) hf);refine⟨mC,?_,λh' sb=>⟨_,H',y.letGo sb hC h0 R T h3,k _ F' m' H' st r' ((h.mono st).set (d:=.p v) rp i)⟩⟩;obtain⟨a,E,w⟩:=u;refine K.sameBut E ?_;rcases w with w|w
 .rw [w];exact R
 .exact cI (T x a w)
end
end Ev
namespace Ev
open PySem PySem.Spec PyProof.Rows L2
section
variable{X:Cx}{a b e:Expr}{es:Ab}{C N:EV}{fs:jR}{E p:Pos}
noncomputable def kE:P->Option P
 | .int i=>some (.int (-i))
 |_=>none
theorem Qi(f:PE X a (tV X.K C)):PE X (.UnaryOp .USub a E) (tV X.K (xh kE C)):=(NR JM f).imp' λJ H Q z=>by
 obtain⟨F,m,L,S,d,t,r,l,q,k⟩:=z;obtain⟨x,w,n,q⟩:=ao q;cases x with
 |int i=>cases q;exact⟨F,m,L,S,_,_,r,l,n,λv h b e s c p=>⟨i,p,k _ h b e s c rfl⟩⟩
 |_=>cases q
noncomputable def jV:List P->Option P
 | [.int i,.int j]=>some (.int (if j > i then j else i))
 |_=>none
noncomputable def gw:List P->Option P
 | [.int i,.int j]=>some (.int (if j < i then j else i))
 |_=>none
noncomputable def A7:List P->Option P
 | [.int i]=>some (.int i)
 | [.bl b]=>some (.int (if b then 1 else 0))
 |_=>none
theorem NM{K:FG}{F:Aa}{H:Hp}{d h:P}{s:List V}(r:dZ K F H [d,h] s):∃x y,s=[x,y]/\RP K F H d x/\RP K F H h y:=by obtain⟨x,f,rfl,p,e⟩:=r;obtain⟨y,n,rfl,a,k⟩:=e;cases (show n=[] from k);exact⟨x,y,rfl,p,a⟩
theorem G_{K:FG}{F:Aa}{H:Hp}{d:P}{s:List V}(r:dZ K F H [d] s):∃x,s=[x]/\RP K F H d x:=by obtain⟨x,h,rfl,p,a⟩:=r;cases (show h=[] from a);exact⟨x,rfl,p⟩
theorem Iy(c:X.c=true):fg X (.builtin "max") (rC X.K jV):=by
 intro B s J H b u Q I r h;obtain⟨F,n,d,f,e,q,k⟩:=h;unfold jV at q;split at q
 .cases q;obtain⟨x,y,rfl,p,a⟩:=NM e;exact B5 c B s J H _ u Q I r ⟨_,_,by rw[show x=_ from p,show y=_ from a],k _ F H .refl rfl⟩
 .cases q
theorem Ix(c:X.c=true):fg X (.builtin "min") (rC X.K gw):=by
 intro B s J H b u Q I r h;obtain⟨F,n,d,f,e,q,k⟩:=h;unfold gw at q;split at q
 .cases q;obtain⟨x,y,rfl,p,a⟩:=NM e;exact B4 c B s J H _ u Q I r ⟨_,_,by rw[show x=_ from p,show y=_ from a],k _ F H .refl rfl⟩
 .cases q
theorem Iz:fg X (.type "int") (rC X.K A7):=by
 intro B s J H n u Q I r h;obtain⟨F,e,d,f,a,q,k⟩:=h;unfold A7 at q;split at q
 .cases q;obtain⟨x,rfl,p⟩:=G_ a;exact sL B s J H _ u Q I r (.inl ⟨_,by rw[show x=_ from p],k _ F H .refl rfl⟩)
 .cases q;obtain⟨x,rfl,p⟩:=G_ a;exact sL B s J H _ u Q I r (.inr ⟨_,by rw[show x=_ from p],k _ F H .refl rfl⟩)
 .cases q
theorem M5(g:Gl X "max")(m:X.g "max"=none)(a:PA X (e::es) (vN X.K fs))(c:X.c=true:=by rfl)
  (x:starEach (e::es) X.e=(false,eval e X.e)::starEach es X.e:=by rfl) (h:(backTo E (starEach es X.e)).any (·.1)=false:=by rfl):PE X (.Call (.Name "max" p) (e::es) [] E) (tV X.K (cU jV fs)):=CQ (Iy c) g m Gq a (by decide) (by decide) x h
theorem M4(g:Gl X "min")(m:X.g "min"=none)(a:PA X (e::es) (vN X.K fs))(c:X.c=true:=by rfl)
  (x:starEach (e::es) X.e=(false,eval e X.e)::starEach es X.e:=by rfl) (h:(backTo E (starEach es X.e)).any (·.1)=false:=by rfl):PE X (.Call (.Name "min" p) (e::es) [] E) (tV X.K (cU gw fs)):=CQ (Ix c) g m Gr a (by decide) (by decide) x h
end
section
variable{X:Cx}{a b c e:Expr}{es:Ab}{C N d:EV}{fs:jR}{E p:Pos}
abbrev BW:P->P->Option P:=Si
theorem Oc(_:X.A.units+1 < cLine):rV X (compareOp .Eq) BW:=Q3
noncomputable def signs(x:Str):List P:=x.cps.toList.map λc=>.str ⟨#[c]⟩
noncomputable def Sw(x:Str):It:=⟨λi _=>i < x.cps.size,λi H v h=>h=H/\∃c,x.cps[i]? = some c/\v=.str ⟨#[c]⟩,λi _=>x.cps.size≤i⟩
theorem Bj{P:Program}{w:World}{K:FG}{M:Expr}(n:Addr)(x:Str)(t:Tok):Turn P w K M (Sw x) [n] n (λi h=>h.IsStrIter n "str_ascii_iterator" x t i) where
 mem:=by simp
 obj:=λi h st b a=>by
  have e:b=n:=by simpa using a
  subst e;obtain⟨o,e,c,d⟩:=st;exact⟨o,e,λv z=>by rw[d]at z;cases z⟩
 keep:=λi h m st k=>let ⟨o,e,r⟩:=st;⟨o,k n (by simp) o e,r⟩
 item:=by
  intro X S F y A i B s J H E I p st g;subst S F y;obtain⟨q,u,f2,f3,j,l⟩:=p n (by simp);have C:x.cps[i]? = some (x.cps[i]'g):=Array.getElem?_eq_getElem g;refine wpAny_pyNext_ascii_item st C λm f L=>?_
  have D:L2.Inv X B J H { s with heap:=m,toks:=s.toks+1 }:=I.turned (λb o a e=>(L.2 b a).trans e) q u f3 j l;obtain⟨o,e,c,d⟩:=id f;exact⟨_,rfl,wR (s:={ s with heap:=m,toks:=s.toks+1 }) e c d (by decide) ⟨.str ⟨#[x.cps[i]'g]⟩,H,D,⟨_,rfl⟩,⟨rfl,_,C,rfl⟩,f,λb a=>(p b a).1⟩⟩
 done:=by intro X S F y A i B s J H E I p st g;subst S F y;obtain⟨q,u,f2,f3,j,l⟩:=p n (by simp);exact wpAny_pyNext_ascii_end (I.o.hd A) st (by rw[Array.getElem?_eq_none_iff];exact g) λm G=>⟨rfl,I.turned (t':=s.toks) (λb o a e=>G b o a e) q u f3 j l⟩
 self:=λ_ _ _ _ _ st h=>wpAny_pyIter_striter_ascii st h
theorem Li{K:FG}{F:Aa}{m:List Addr}{H:Hp}{x:Str}:Ju K (Sw x) (signs x) F m H:=by
 intro a r f s;have h:(signs x).length=x.cps.size:=by unfold signs;simp
 refine⟨λi v e=>?_,by show x.cps.size≤(signs x).length;rw[h];exact ar _⟩;have k:i < x.cps.size:=by rw[<- h];exact(bX.mp e).1
 refine⟨k,λy b z=>?_⟩;obtain⟨rfl,c,n,rfl⟩:=z;refine⟨a,.refl,?_⟩;unfold signs at e;rw[kR,zi,n]at e;cases e;exact rfl
@[simp] def Lm(a:EV)(L:Lc)(S:aV):JN:=cY (a L S) λv h=>match v with
 | .lst s=>some (s,h)
 | .ro s=>some (s,h)
 | .tup s=>some (s,h)
 | .str x=>if (x.cps.all (· < 128))=true then some (signs x,h) else none
 |_=>none
theorem iS{T iter:Expr}(h:PE X iter (tV X.K C)):PI X T iter (tI X.K (Lm C)):=by
 intro B s J H R I ⟨F,m,L,S,vs,S',r,l,q,k⟩;obtain⟨v,D,e1,q⟩:=ao q;refine ez (h B s J H (λx f=>∃d g,Stp F m H d g f/\Rel X.K d f g D/\RP X.K d f v x) I ⟨F,m,L,S,v,D,r,l,e1,λx d g f n G j=>⟨d,g,n,G,j⟩⟩) λu n E=>?_
 obtain⟨x,f,c,M,d,g,st,G,j⟩:=E;have mk:∀{N:It},Ju X.K N vs d g f->D=S'->R N f:=λit e=>by subst e;exact k _ d g f st G it
 have i:∀{a:Addr}{A:List V},x=.ref a->j6 X.K f a A->R (P0 X.K a) f->wx X (pyIter u) (RW X B J T R) X.xe n:=λ{a A} e hq q=>by
  subst e;cases M;obtain⟨K,rv,p,E⟩:=c.list hq;refine wpAny_pyIter_list p.isList ?_;refine⟨n.heap.objs.size,[n.heap.objs.size],_,_,f,rfl,c.kept (t':=n.toks) λb o e=>cv _ e,Bk a _,⟨_,gy _ rfl,rfl,rfl⟩,λb y=>?_,q⟩;have e:b=n.heap.objs.size:=by simpa using y
  subst e;exact c.fpOk (ar _) (c.h.fresh (ar _))
 cases v with
 |lst Q=>cases q;obtain⟨a,A,rfl,w,P⟩:=j;exact i rfl w.sq (mk (El (λW m2 Z s=>(w.kp s.kp).sq) P) rfl)
 |ro Q=>cases q;obtain⟨a,A,rfl,w,P⟩:=j;exact i rfl w.sq (mk (El (λW m2 Z s=>(w.kp s.kp).sq) P) rfl)
 |tup Q=>
  cases q;obtain⟨a,A,rfl,w,P⟩:=j;cases M;obtain⟨K,rv,pp,E⟩:=c.tuple w.sq;refine wpAny_pyIter_tuple (show n.heap.IsTuple a K.toArray from pp) ?_;refine⟨n.heap.objs.size,[n.heap.objs.size],_,_,f,rfl,c.kept (t':=n.toks) λb o e=>cv _ e,xJ a _,⟨_,gy _ rfl,rfl,rfl⟩,λb y=>?_,mk (Lj w P) rfl⟩;have e:b=n.heap.objs.size:=by simpa using y
  subst e;exact c.fpOk (ar _) (c.h.fresh (ar _))
 |str z=>
  dsimp only at q;split at q
  .rename_i ha;cases q;cases (show x=.str z from j);obtain⟨t,rfl⟩:=(show ∃t,u=Value.str z t from M);refine wpAny_pyIter_ascii ha ?_;refine⟨n.heap.objs.size,[n.heap.objs.size],_,_,f,rfl,c.kept (t':=n.toks) λb o e=>cv _ e,Bj _ z t,⟨_,gy _ rfl,rfl,rfl⟩,λb y=>?_,mk Li rfl⟩;have e:b=n.heap.objs.size:=by simpa using y
   subst e;exact c.fpOk (ar _) (c.h.fresh (ar _))
  .cases q
 |_=>cases q
noncomputable def Sy(lo step:Int)(n:Nat):It:=⟨λi _=>i < n,λi H x h=>h=H/\x=.int (lo+(i:Nat) * step),λi _=>n≤i⟩
theorem vU{P:Program}{w:World}{K:FG}{G:Expr}(x:Addr)(lo step:Int)(n:Nat):Turn P w K G (Sy lo step n) [x] x (λi h=>IsRangeIter h x (lo+(i:Nat) * step) ((n:Int)-(i:Nat)) step) where
 mem:=by simp
 obj:=λi h st b a=>by
  have e:b=x:=by simpa using a
  subst e;exact⟨_,st,λv z=>by have L:Data.fields _=Data.cell v:=z;cases L⟩
 keep:=λi h c st k=>k x (by simp) _ st
 item:=by
  intro X g y u j i B s J H E I m st l;subst g y u;obtain⟨r,p,f2,f3,q,d⟩:=m x (by simp);have W:=Walks.range (prog:=X.p) (w:=X.w) (I.o.hd j) x lo step n;refine W.item i s _ _ l st λv c S C f D=>?_
  obtain⟨t,rfl⟩:=C;have F:L2.Inv X B J H { s with heap:=c,toks:=S }:=I.turned (λb o a e=>D b o (by simpa using a) e) r p f3 q d;exact⟨_,rfl,wR (s:={ s with heap:=c,toks:=S }) (n:="range_iterator") f rfl rfl (by decide) ⟨.int (lo+(i:Nat) * step),H,F,⟨t,rfl⟩,⟨rfl,rfl⟩,f,λb a=>(m b a).1⟩⟩
 done:=by intro X g y u j i B s J H E I m st l;subst g y u;obtain⟨r,p,f2,f3,q,d⟩:=m x (by simp);exact z4 (I.o.hd j) st (by have:n≤i:=l;lia) λc A=>⟨rfl,I.turned (t':=s.toks) (λb o a e=>A b o a e) r p f3 q d⟩
 self:=λ_ _ _ _ _ st h=>z3 st h
noncomputable def i8(lo h step:Int):Nat:=(if lo < h then (h-lo-1) / step+1 else 0).toNat
noncomputable def i_(lo step:Int)(n:Nat):List P:=(List.range n).map λ(i:Nat)=>.int (lo+(i:Int) * step)
def yc(a b c:EV):jR:=λL S=>cY (a L S) λx e=>cY (b L e) λy s=>cY (c L s) λz n=>match x,y,z with
 | .int lo,.int h,.int st=>if (decide (lo.natAbs < 1000000) && decide (h.natAbs < 1000000) && decide (0 < st) && decide (st < 1000000))=true then some (i_ lo st (i8 lo h st),n) else none
 |_,_,_=>none
theorem Lk{K:FG}{F:Aa}{m:List Addr}{H:Hp}{lo step:Int}{n:Nat}:Ju K (Sy lo step n) (i_ lo step n) F m H:=by
 intro a b k s;have l:(i_ lo step n).length=n:=by unfold i_;simp
 refine⟨λi v e=>?_,by show n≤(i_ lo step n).length;rw[l];exact ar _⟩;have h:i < n:=by rw[<- l];exact(bX.mp e).1
 refine⟨h,λx f z=>?_⟩;obtain⟨rfl,rfl⟩:=z;refine⟨a,.refl,?_⟩;unfold i_ at e;simp[h]at e;subst e;exact rfl
theorem T2{tg:Expr}(hg:Gl X "range")(hm:X.g "range"=none)(ha:PE X a (tV X.K C))(D:PE X b (tV X.K N))(hc:PE X c (tV X.K d))(hs:starEach [a,b,c] X.e=[(false,eval a X.e),(false,eval b X.e),(false,eval c X.e)]:=by rfl)(f:starEach [b,c] X.e=[(false,eval b X.e),(false,eval c X.e)]:=by rfl)(i:starEach [c] X.e=[(false,eval c X.e)]:=by rfl) :
  PI X tg (.Call (.Name "range" p) [a,b,c] [] E) (tI X.K (yc C N d)):=by
 intro B s J H R I ⟨F,m,L,S,vs,S',r,l,q,k⟩;obtain⟨x,S1,P,q⟩:=ao q;obtain⟨y,S2,A,q⟩:=ao q;obtain⟨z,Z,e3,q⟩:=ao q;have hA:PA X [a,b,c] (vN X.K (aZ C (aZ N (aZ d gu)))):=Bf ha (Bf D (Bf hc O8 (by rw[i];rfl)) (by rw[f,i])) (by rw[hs,f]);refine Call_ (qJ I hg hm boot_range (tS (ez (hA E B s J H (λW t=>∃v w,Stp F m H v w t/\Rel X.K v t w Z/\dZ X.K v t [x,y,z] W) I ⟨F,m,L,S,[x,y,z],Z,r,l,?_,λW v w t u T Q=>⟨v,w,u,T,Q⟩⟩) λus u ⟨W,t,I1,rv,v,w,st,T,Q⟩=>?_) (by rw[hs,f]) (by rw[f];rfl)))
 .simp only[aZ,gu,P,A,e3,jq]
 obtain⟨x1,xr1,rfl,px,q1⟩:=Q;obtain⟨y1,xr2,rfl,py,q2⟩:=q1;obtain⟨z1,V,rfl,pz,q3⟩:=q2;cases (show V=[] from q3);cases x with
 |int lo=>
  cases y with
  |int h=>
   cases z with
   |int stp=>
    dsimp only at q;split at q
    .rename_i g;simp only[aE,gY]at g;obtain⟨⟨⟨c1,c2⟩,c3⟩,c4⟩:=g;cases q;cases (show x1=.int lo from px);cases (show y1=.int h from py);cases (show z1=.int stp from pz);cases rv with
     |cons ra j=>
      cases j with
      |cons rb j=>
       cases j with
       |cons rc j=>
        cases j;obtain⟨t1,rfl⟩:=ra;obtain⟨t2,rfl⟩:=rb;obtain⟨t3,rfl⟩:=rc;refine call_range_3 (by lia) ?_ (.inl (PyProof.noPylong_small (by lia)));have sz:iI lo h stp=((i8 lo h stp:Nat):Int):=by
         unfold iI i8;rw[ae (by lia)];split
         .have:0≤(h-lo-1) / stp:=Int.ediv_nonneg (by lia) (by lia);lia
         .rfl
        have M:iI lo h stp≤4000000:=by
         unfold iI;rw[ae (by lia)];split
         .have:(h-lo-1) / stp≤h-lo-1:=Int.ediv_le_self _ (by lia);lia
         .lia
        refine zV (IsRange.new ..) ?_ ?_
        .have G:0≤iI lo h stp:=by rw[sz];lia
         unfold Go;generalize iI lo h stp=n at M G;simp only[Gn,aE,fD,gY,i0];refine⟨⟨⟨⟨by lia,by lia⟩,by lia⟩,by lia⟩,?_⟩;refine .inr ?_;rw[ae (by lia),gn (by lia),gn (by lia)];rfl
        .have K:L2.Inv X B J t { u with heap:=u.heap.push { cls:=.type "range",data:=.fields #[.int lo t1,.int h t2,.int stp t3] } }:=I1.kept (t':=u.toks) λb o e=>cv _ e;refine⟨_,[_],_,_,t,rfl,K.kept (t':=u.toks) λb o e=>cv _ e,vU _ lo stp (i8 lo h stp),?_,λb D=>?_,k _ v w t st T Lk⟩
         .have P:lo+((0:Nat):Int) * stp=lo:=by simp
          have A:((i8 lo h stp:Nat):Int)-((0:Nat):Int)=iI lo h stp:=by rw[sz];lia
          show IsRangeIter _ _ (lo+((0:Nat):Int) * stp) (((i8 lo h stp:Nat):Int)-((0:Nat):Int)) stp;rw[P,A];exact gy _ rfl
         .have e:=(zq.mp D);rw[e];exact K.fpOk (ar _) (K.h.fresh (ar _))
    .cases q
   |_=>cases q
  |_=>cases q
 |_=>cases q
end
section
variable{X:Cx}{E p:Pos}
noncomputable abbrev DE:=List (Str×EV)
noncomputable def vp:DE:=[]
noncomputable def eC(k:Str)(f:EV)(r:DE):DE:=(k,f)::r
def uA:DE->jR
 | []=>gu
 |(_,f)::r=>aZ f (uA r)
noncomputable def mH(l:DE):List fR:=l.map λx=>.inr x.1
def mn(l:DE):EV:=λL S=>cY (uA l L S) λv h=>if (mH l).Nodup/\l.length≤15 then some (.dct (mH l) v,h) else none
def Nl(K:FG)(l:DE):List (TE×TE):=l.map λx=>(tV K (vC (.str x.1)),tV K x.2)
def KD(X:Cx)(E:Pos)(k:List (Option Expr))(v:Ab)(l:DE):Prop:=O' X E k v (Nl X.K l)
theorem Rc:KD X E [] [] vp:=Hj
theorem Ol(h:PE X r (tV X.K (vC (.str x))))(e:PE X v (tV X.K f))(a:KD X E Q vs u):KD X E (some r::Q) (v::vs) (eC x f u):=DD h e a
theorem wl{K:FG}{J:L2.St}{L:Lc}:∀{l:DE}{F:Aa}{m:List Addr}{H:Hp}{S a:aV}{e:List P}{Q:List (V×V)->Hp->Prop},Rel K F H m S->RL K F H m J L->uA l L S=some (e,a) ->
  (∀s n c h,Stp F m H n c h->Rel K n h c a->dZ K n h e s->Q ((l.map (·.1)).zipWith (λk x=>(V.str k,x)) s) h)->uJ (Nl K l) J H Q
 | [],F,m,H,S,a,e,Q,r,l,q,k=>by cases q;exact k [] F m H .refl r rfl
 |(x,f)::t,F,m,H,S,a,e,Q,r,l,q,k=>by obtain⟨y,j,z,q⟩:=ao (show cY (f L S) _=_ from q);obtain⟨Z,W,o,q⟩:=ao q;cases q;refine⟨F,m,L,S,.str x,S,r,l,rfl,λv u A R b G C=>?_⟩;refine⟨u,A,L,S,y,j,G,l.mono b,z,λw N X T p I D=>?_⟩;refine wl I ((l.mono b).mono p) o λs g B i d M E=>?_;cases (show v=.str x from C);exact k (w::s) g B i (b.trans (p.trans d)) M ⟨w,s,rfl,RP.mono d D,E⟩
theorem mE:∀{m s:List (fR×V)},((s++m).map (·.1)).Nodup->kr s m=s++m
 | [],s,_=>by simp[kr]
 |(k,v)::m,s,n=>by
  have b:jy s k=none:=by
   cases e:jy s k with
   |none=>rfl
   |some w=>
    exfalso;unfold jy at e;cases f:s.find? (λc=>decide (c.1=k)) with
    |none=>rw[f]at e;cases e
    |some q=>have h:=pi f;have x:=o7 f;have a:q.1=k:=bP x;rw[iL,zm]at n;exact n.2.2 q.1 (iJ.mpr ⟨q,h,rfl⟩) k (by simp) a
  show kr (putK s k v) m=_;rw[Dy v b,mE (by simpa using n)];simp
theorem p_:∀{l:DE}{L:Lc}{S a:aV}{v:List P},uA l L S=some (v,a)->v.length=l.length
 | [],L,S,a,v,h=>by cases h;rfl
 |(x,f)::r,L,S,a,v,h=>by obtain⟨y,s,k,q⟩:=ao (show cY (f L S) _=_ from h);obtain⟨b,n,e,q⟩:=ao q;cases q;rw[aA,aA,p_ e]
theorem CJ{l:DE}{s:List V}(h:s.length=l.length):(l.map (·.1)).zipWith (λk x=>(V.str k,x)) s=((mH l).zip s).map (λv=>(kV v.1,v.2)):=by
 unfold mH;induction l generalizing s with
 |nil=>cases s<;>rfl
 |cons q l i=>
  cases s with
  |nil=>rfl
  |cons x s=>simp only[aX,List.zipWith_cons_cons,ub];rw[i (by simpa using h)];rfl
theorem uy:∀{s:List q}{a:List r},s.length=a.length->(s.zip a).map (·.1)=s
 | [],[],_=>rfl
 |x::s,y::a,h=>by rw[ub,aX,uy (by simpa using h)]
theorem z9:∀{a:List q}{s:List r},a.length=s.length->(a.zip s).map (·.2)=s
 | [],[],_=>rfl
 |x::a,y::s,h=>by rw[ub,aX,z9 (by simpa using h)]
theorem M'(h:KD X E u values v)(f:u.all (·.isSome)=true)(D:u.length=values.length)(C:u≠[])(i:u.length≤15):PE X (.Dict u values E) (tV X.K (mn v)):=
 (Hr h f D C i).imp' λJ H Q G=>by
  obtain⟨F,m,L,S,d,R,r,N,q,k⟩:=G;obtain⟨V,T,j,q⟩:=ao q;split at q
  .rename_i y;cases q;intro p a;have g:Grow F H F (upd H p (.dK [])):=cG a;refine wl (r.grow g) (N.mono (g.stp (m:=m))) j λt s e n w M A=>?_
   have l:t.length=v.length:=by rw[<- A.length,p_ j]
   have x:(mH v).length=t.length:=by unfold mH;rw[eH,l]
   have c:n p=some (.dK []):=w.oth p _ bc (r.fresh_m a);refine⟨c,(mH v).zip t,CJ l,by rw[List.length_zip,x,l];simpa using y.2,?_⟩;rw[mE (s:=[]) (by rw[dv,uy x];exact y.1),dv];have o:¬s p:=λz=>by
    rcases w.nf p z with z|z|z
    .exact r.fresh_F a z
    .rw [bc]at z;cases z
    .exact r.fresh_m a z
   have K:p ∉ e:=λz=>by
    rcases w.nm p z with z|z
    .exact r.fresh_m a z
    .rw [bc]at z;cases z
   have P:∀B,n p≠some (.tup B):=λB z=>by rw[c]at z;cases z
   have I:Kp s e n s e (upd n p (.dK ((mH v).zip t))):=Kp.bump o P;have st:Stp F m H s e (upd n p (.dK ((mH v).zip t))):=((g.stp (m:=m)).trans w).bump a;refine k (.ref p) (λb=>s b\/b=p) e _ (st.addF a) ((M.bump o K P).addF K (by rw[bc];exact λz=>nomatch z)) ⟨p,_,rfl,.inr rfl,bc,uy x,?_⟩;rw[z9 x];exact dZ.kp (m:=e) Q_ (dZ.kp I A)
  .cases q
end
mutual
noncomputable def pd:P->PyData
 | .non=>.none
 | .bl b=>.bool b
 | .int i=>.int i
 | .str x=>.str x
 | .tup xs=>.tuple (Az xs)
 | .lst xs=>.list (Az xs)
 | .ro xs=>.list (Az xs)
 | .dct _ _=>.none
noncomputable def Az:List P->List PyData
 | []=>[]
 |x::r=>pd x::Az r
end
noncomputable def jl:Nat->P->Bool
 |_,.non=>true
 |_,.bl _=>true
 |_,.int _=>true
 |_,.str x=>oK x
 |n+1,.tup s=>s.all (jl n)
 |n+1,.lst s=>s.all (jl n)
 |n+1,.ro s=>s.all (jl n)
 |_,_=>false
variable{n:Nat}
theorem pF:∀{s:List P},(∀d ∈ s,(pd d).canLay0=true/\(pd d).depth≤n)->tz (Az s)=true/\tu (Az s)≤n
 | [],_=>⟨rfl,eh _⟩
 |d::r,h=>by obtain⟨⟨p,a⟩,q⟩:=List.forall_mem_cons.mp h;obtain⟨x,e⟩:=pF q;exact⟨by simp only[Az,tz,p,x,Bool.and_self],by simp only[Az,tu];lia⟩
theorem jG:∀(n:Nat)(p:P),jl n p=true->(pd p).canLay0=true/\(pd p).depth≤n
 |_,.non,_=>⟨rfl,eh _⟩
 |_,.bl _,_=>⟨rfl,eh _⟩
 |_,.int _,_=>⟨rfl,eh _⟩
 |n,.str x,h=>⟨by cases n<;>exact h,eh _⟩
 |n,.dct _ _,h=>by cases n<;>cases h
 |0,.tup _,h=>by cases h
 |0,.lst _,h=>by cases h
 |0,.ro _,h=>by cases h
 |n+1,.tup s,h=>by obtain⟨a,b⟩:=pF λd e=>jG n d (cZ.mp h d e);exact⟨a,by simp only[pd,oJ];lia⟩
 |n+1,.lst s,h=>by obtain⟨a,b⟩:=pF λd e=>jG n d (cZ.mp h d e);exact⟨a,by simp only[pd,oJ];lia⟩
 |n+1,.ro s,h=>by obtain⟨a,b⟩:=pF λd e=>jG n d (cZ.mp h d e);exact⟨a,by simp only[pd,oJ];lia⟩
theorem jF(h:jl 20 p=true):SeqAt.shaped (pd p)=true:=by obtain⟨x,a⟩:=jG 20 p h;unfold SeqAt.shaped;rw[x,oU];exact gn (by lia)
section
variable{X:Cx}{B:PN}{J:L2.St}{H:Hp}{s:Shared}{F:Aa}
theorem iQ(o:∀{p:P}{v:V}{u:Value},RP X.K F H p v->RelV v u->jl n p=true->∃k,Reads s.heap u (pd p) k) :
  ∀{f:List P}{a:List V}{b:LV},dZ X.K F H f a->bB a b->(∀d ∈ f,jl n d=true)->∃k,ReadsAll s.heap b (Az f) k
 | [],a,b,r,v,_=>by cases (show a=[] from r);cases v;exact⟨_,.nil⟩
 |d::f,a,b,r,v,h=>by
  obtain⟨x,i,rfl,p,r⟩:=r;cases v with
  |cons w t=>obtain⟨k,q⟩:=o p w (h d (.head _));obtain⟨g,m⟩:=iQ o r t λe c=>h e (.tail _ c);exact⟨_,.cons q m⟩
theorem qz(I:Inv X B J H s):∀(n:Nat){p:P}{v:V}{u:Value},RP X.K F H p v->RelV v u->jl n p=true->∃w,Reads s.heap u (pd p) w:=by
 intro n;induction n with
 |zero=>
  intro p v u r k h;cases p with
  |non=>cases (show v=.non from r);cases k;exact⟨_,.none⟩
  |bl b=>cases (show v=.bl b from r);cases k;exact⟨_,.bool b⟩
  |int i=>cases (show v=.int i from r);obtain⟨t,rfl⟩:=k;exact⟨_,.int i t⟩
  |str x=>cases (show v=.str x from r);obtain⟨t,rfl⟩:=k;exact⟨_,.str x t⟩
  |_=>simp[jl]at h
 |succ n y=>
  intro p v u r k h;cases p with
  |non=>cases (show v=.non from r);cases k;exact⟨_,.none⟩
  |bl b=>cases (show v=.bl b from r);cases k;exact⟨_,.bool b⟩
  |int i=>cases (show v=.int i from r);obtain⟨t,rfl⟩:=k;exact⟨_,.int i t⟩
  |str x=>cases (show v=.str x from r);obtain⟨t,rfl⟩:=k;exact⟨_,.str x t⟩
  |dct A C=>simp[jl]at h
  |tup z=>obtain⟨a,K,rfl,l,j⟩:=r;cases k;obtain⟨g,f,⟨o,e,c,m,d⟩,S⟩:=I.tuple l.sq;obtain⟨w,q⟩:=iQ y j f (by simpa[jl] using h);rw[pd];exact⟨w,y8 e c d (by simpa using q)⟩
  |lst z=>obtain⟨a,K,rfl,l,j⟩:=r;cases k;obtain⟨g,f,⟨o,m,e,c,_,d⟩,S⟩:=I.list l.sq;obtain⟨w,q⟩:=iQ y j f (by simpa[jl] using h);rw[pd];exact⟨_,tR e c d (by simpa using q)⟩
  |ro z=>obtain⟨a,K,rfl,l,j⟩:=r;cases k;obtain⟨g,f,⟨o,m,e,c,_,d⟩,S⟩:=I.list l.sq;obtain⟨w,q⟩:=iQ y j f (by simpa[jl] using h);rw[pd];exact⟨_,tR e c d (by simpa using q)⟩
end
noncomputable def li(f:D->Option P):List D->Option (List P)
 | []=>some []
 |d::r=>(f d).bind λv=>(li f r).map λs=>v::s
def eB(S:aV):Nat->D->Option P
 |_,.p v=>some v
 |0,.ref _=>none
 |n+1,.ref i=>match S[i]? with
  |some (.lst d)=>(li (eB S n) d).map .lst
  |some (.tpl d)=>(li (eB S n) d).map .tup
  |some (.fz v)=>some v
  |_=>none
@[simp] theorem uM(S:aV)(n:Nat)(v:P):eB S n (.p v)=some v:=by cases n<;>rfl
theorem AF(S:aV)(n:Nat):∀s:List P,li (eB S n) (s.map .p)=some s
 | []=>rfl
 |v::r=>by simp[li,AF S n r]
section
variable{X:Cx}{B:PN}{J:L2.St}{H:Hp}{s:Shared}{F:Aa}{m:List Addr}{S:aV}
theorem lL(o:∀{d:D}{v:V}{u:Value}{p:P},RD X.K F H m d v->RelV v u->eB S n d=some p->jl Q p=true->∃b,Reads s.heap u (pd p) b) :
  ∀{k:List D}{f:List V}{c:LV}{ps:List P},fy X.K F H m k f->bB f c->li (eB S n) k=some ps->(∀d ∈ ps,jl Q d=true)->∃b,ReadsAll s.heap c (Az ps) b
 | [],f,c,ps,r,v,q,_=>by cases (show f=[] from r);cases v;cases q;exact⟨_,.nil⟩
 |d::k,f,c,ps,r,v,q,h=>by
  obtain⟨x,B,rfl,p,r⟩:=r;obtain⟨y,i,q⟩:∃a,eB S n d=some a/\(li (eB S n) k).map (λK=>a::K)=some ps:=by
   cases e:eB S n d with
   |none=>simp[li,e]at q
   |some a=>exact⟨a,rfl,by simpa[li,e] using q⟩
  obtain⟨C,j,rfl⟩:∃a,li (eB S n) k=some a/\ps=y::a:=by
   cases e:li (eB S n) k with
   |none=>rw[e]at q;cases q
   |some a=>rw[e]at q;cases q;exact⟨a,rfl,rfl⟩
  cases v with
  |cons z l=>obtain⟨b,g⟩:=o p z i (h y (.head _));obtain⟨A,t⟩:=lL o r l j λe w=>h e (.tail _ w);exact⟨_,.cons g t⟩
theorem eW(I:Inv X B J H s)(E:Rel X.K F H m S):∀(n k:Nat){d:D}{v:V}{u:Value}{p:P},RD X.K F H m d v->RelV v u->eB S n d=some p->jl k p=true->∃t,Reads s.heap u (pd p) t:=by
 intro n;induction n with
 |zero=>
  intro k d v u p r x q h;cases d with
  |p w=>rw[uM]at q;cases q;exact qz I k r x h
  |ref i=>cases q
 |succ n C=>
  intro k d v u p r x q h;cases d with
  |p w=>rw[uM]at q;cases q;exact qz I k r x h
  |ref i=>
   obtain⟨a,rfl,K⟩:=r;have L:i < S.length:=by rw[<- E.len];exact(bX.mp K).1
   obtain⟨o,A⟩:∃o,S[i]? = some o:=⟨S[i],by simp[L]⟩;have y:=E.obj i a o K A;simp only[eB,A]at q;cases o with
   |fz w=>cases q;exact qz I k y x h
   |dct R b=>cases q
   |ins _ _ _=>cases q
   |exc _ _=>cases q
   |dtt _ _=>cases q
   |lst b=>
    dsimp only at q;cases e:li (eB S n) b with
    |none=>rw[e]at q;cases q
    |some Q=>
     rw[e]at q;cases q;cases k with
     |zero=>simp[jl]at h
     |succ k=>obtain⟨G,j,z⟩:=y;cases x;obtain⟨l,f,⟨o,N,g,c,_,d⟩,M⟩:=I.list (j6.of j);obtain⟨t,q⟩:=lL (Q:=k) (λr x q h=>C k r x q h) z f e (by simpa[jl] using h);rw[pd];exact⟨_,tR g c d (by simpa using q)⟩
   |tpl b=>
    dsimp only at q;cases e:li (eB S n) b with
    |none=>rw[e]at q;cases q
    |some Q=>
     rw[e]at q;cases q;cases k with
     |zero=>simp[jl]at h
     |succ k=>obtain⟨G,j,z⟩:=y;cases x;obtain⟨l,f,⟨o,g,c,N,d⟩,M⟩:=I.tuple (a:=a) (xs:=G) (.inl (.inl j));obtain⟨t,q⟩:=lL (Q:=k) (λr x q h=>C k r x q h) z f e (by simpa[jl] using h);rw[pd];exact⟨_,y8 g c d (by simpa using q)⟩
theorem gD(l:Rel X.K F H m S)(r:RD X.K F H m u v)(q:eB S n u=some p)(k:∀f,p≠.lst f/\p≠.tup f):RP X.K F H p v:=by
 cases u with
 |p w=>rw[uM]at q;cases q;exact r
 |ref i=>
  cases n with
  |zero=>cases q
  |succ n=>
   obtain⟨a,rfl,h⟩:=r;have b:i < S.length:=by rw[<- l.len];exact(bX.mp h).1
   obtain⟨o,x⟩:∃o,S[i]? = some o:=⟨S[i],by simp[b]⟩;have c:=l.obj i a o h x;simp only[eB,x]at q;cases o with
   |fz w=>cases q;exact c
   |dct t d=>cases q
   |ins _ _ _=>cases q
   |exc _ _=>cases q
   |dtt _ _=>cases q
   |lst d=>
    dsimp only at q;cases e:li (eB S n) d with
    |none=>rw[e]at q;cases q
    |some s=>rw[e]at q;cases q;exact absurd rfl (k s).1
   |tpl d=>
    dsimp only at q;cases e:li (eB S n) d with
    |none=>rw[e]at q;cases q
    |some s=>rw[e]at q;cases q;exact absurd rfl (k s).2
end
inductive rEI(K:FG)(g:D->D->aV->Option P)(x:V)(y:V)(H:Hp)(Q:VK):Prop
 |mk (F:Aa) (m:List Addr) (S:aV) (d:D) (e:D) (v:P) (h0_:Rel K F H m S) (h1_:RD K F H m d x) (h2_:RD K F H m e y) (h3_:g d e S=some v) (h4_:∀u F' H',Grow F H F' H'->RP K F' H' v u->Q u H'):rEI K g x y H Q
noncomputable def rE(K:FG)(g:D->D->aV->Option P):R2:=λx y H Q=>rEI K g x y H Q
@[simp] def cQ(g:D->D->aV->Option P)(a b:EE)(L:Lc)(S:aV):tyV:=cY (a L S) λx e=>cY (b L e) λy h=>(g x y h).map λv=>(v,h)
section
variable{X:Cx}{a b:Expr}{C N:EE}{E:Pos}
theorem An(h:tV X.K (cQ a0 C N) J H Q):JZ (rE X.K a0) (tE X.K C) (tE X.K N) J H Q:=by
 obtain⟨F,m,L,S,d,o,r,l,q,k⟩:=h;obtain⟨x,a,K,q⟩:=ao q;obtain⟨y,s,P,q⟩:=ao q;refine⟨F,m,L,S,x,a,r,l,K,λv t A I b G B=>?_⟩;refine⟨t,A,L,a,y,s,G,l.mono b,P,λu p n M c f D=>?_⟩;cases e:a0 x y s with
 |none=>rw[e]at q;cases q
 |some z=>rw[e]at q;cases q;exact⟨p,n,o,x,y,_,f,RD.mono c B,D,e,λw i j g E=>k w i n j (b.trans (c.trans g.stp)) (f.grow g) E⟩
theorem Nb(o:kc X (compareOp v) (rE X.K r))(x:PE X a (tE X.K C))(e:PE X b (tE X.K N))(m:behindInMarks v b=false):PE X (.Compare a [v] [b] E) (tV X.K (cQ r C N)):=
 (Ax o x e m).imp' λ_ _ _ h=>An h
theorem MX(o:kc X (compareOp op) (rE X.K u))(c:PE X a (tE X.K C))(t:PE X b (tE X.K N))(w:behindInMarks op b=false):PT X (.Compare a [op] [b] E) (tQ X.K (bV (cQ u C N))):=
 (Av o c t w).imp' λJ H Q h=>by
  refine An ?_;obtain⟨F,m,L,S,d,j,r,l,q,k⟩:=h;obtain⟨x,y,f,q⟩:=ao q;cases x with
  |bl b=>cases q;exact⟨F,m,L,S,_,_,r,l,f,λv e g n s i p=>⟨_,p,k e g n s i⟩⟩
  |_=>cases q
end
def AO(x y:P):Option Bool:=match BW x y with
 |some (.bl b)=>some b
 |_=>if (jl 20 x && jl 20 y)=true then some (gz (pd x) (pd y)) else none
def BN(d e:D)(S:aV):Option P:=(eB S 9 d).bind λx=>(eB S 9 e).bind λy=>(AO x y).map .bl
def Jd(x y:P):Option Bool:=match MC x y with
 |some (.bl b)=>some b
 |_=>if (jl 20 x && jl 20 y)=true then some (!PyData.eqv (pd x) (pd y)) else none
def MB(d e:D)(S:aV):Option P:=(eB S 9 d).bind λx=>(eB S 9 e).bind λy=>(Jd x y).map .bl
noncomputable def w_(c:D)(S:aV):Option (List fR):=match c with
 | .p (.dct k _)=>some k
 | .ref i=>match S[i]? with
  |some (.dct k _)=>some k
  |some (.fz (.dct k _))=>some k
  |_=>none
 |_=>none
noncomputable def Lw(k:fR)(s:List fR):Bool:=s.any λh=>decide (h=k)
def Jk(x c:P):Option Bool:=match x,c with
 | .str i,.str j=>some (!(oR j i 0 j.length 1).isEmpty)
 |x,.lst s=>if (s.all (jl 19) && jl 19 x)=true then some (s.any λy=>gz (pd y) (pd x)) else none
 |x,.tup s=>if (s.all (jl 19) && jl 19 x)=true then some (s.any λy=>gz (pd y) (pd x)) else none
 |_,_=>none
def Op(d c:D)(S:aV):Option Bool:=match w_ c S with
 |some s=>(eB S 9 d).bind λx=>(ku x).map λk=>Lw k s
 |none=>(eB S 9 d).bind λx=>(eB S 9 c).bind λy=>Jk x y
def gk(d c:D)(S:aV):Option P:=(Op d c S).map .bl
def iu(d c:D)(S:aV):Option P:=(Op d c S).map λb=>.bl (!b)
noncomputable def AL:D->Bool
 | .p .non=>true
 |_=>false
def LA(d e:D)(_:aV):Option P:=match e with
 | .p .non=>some (.bl (AL d))
 |_=>none
theorem ym(h:BW x r=some b):(∀s,x≠.lst s/\x≠.tup s)/\∀s,r≠.lst s/\r≠.tup s:=by
 refine⟨λs=>⟨λe=>?_,λe=>?_⟩,λs=>⟨λe=>?_,λe=>?_⟩⟩
 .subst e;cases r<;>cases h
 .subst e;cases r<;>cases h
 .subst e;cases x<;>cases h
 .subst e;cases x<;>cases h
section
variable{X:Cx}
theorem Ob(o:X.A.units+64 < cLine):kc X (compareOp .Eq) (rE X.K BN):=by
 intro B s J H x y v u Q I j z h;obtain⟨F,m,S,d,e,r,l,g,i,q,k⟩:=h;unfold BN at q;cases t:eB S 9 d with
 |none=>rw[t]at q;cases q
 |some a=>
  rw[t]at q;cases p:eB S 9 e with
  |none=>rw[p]at q;cases q
  |some b=>
   rw[p]at q;simp only[gA]at q;cases n:AO a b with
   |none=>rw[n]at q;cases q
   |some c=>
    rw[n]at q;cases q;unfold AO at n;split at n
    .rename_i G w;cases n;obtain⟨K,P⟩:=ym w;exact Oc (by lia) B s J H x y v u Q I j z ⟨F,a,b,.bl c,l.ft,gD l g t K,gD l i p P,w,k⟩
    .split at n
     .rename_i f;rw[aE]at f;cases n;obtain⟨D,A⟩:=eW I l 9 20 g j t f.1;obtain⟨E,C⟩:=eW I l 9 20 i z p f.2;exact eq_dataH A C (jF f.1) (jF f.2) o ⟨.bl _,H,I,rfl,k _ F H .refl rfl⟩
     .cases n
theorem BV(h:MC x r=some b):(∀s,x≠.lst s/\x≠.tup s)/\∀s,r≠.lst s/\r≠.tup s:=by
 refine⟨λs=>⟨λe=>?_,λe=>?_⟩,λs=>⟨λe=>?_,λe=>?_⟩⟩
 .subst e;cases r<;>cases h
 .subst e;cases r<;>cases h
 .subst e;cases x<;>cases h
 .subst e;cases x<;>cases h
theorem N6(o:X.A.units+64 < cLine):kc X (compareOp .NotEq) (rE X.K MB):=by
 intro B s J H x y v u Q I j z h;obtain⟨F,m,S,d,e,r,l,g,i,q,k⟩:=h;unfold MB at q;cases t:eB S 9 d with
 |none=>rw[t]at q;cases q
 |some a=>
  rw[t]at q;cases p:eB S 9 e with
  |none=>rw[p]at q;cases q
  |some b=>
   rw[p]at q;simp only[gA]at q;cases n:Jd a b with
   |none=>rw[n]at q;cases q
   |some c=>
    rw[n]at q;cases q;unfold Jd at n;split at n
    .rename_i G w;cases n;obtain⟨K,P⟩:=BV w;exact QY B s J H x y v u Q I j z ⟨F,a,b,.bl c,l.ft,gD l g t K,gD l i p P,w,k⟩
    .split at n
     .rename_i f;rw[aE]at f;cases n;obtain⟨D,A⟩:=eW I l 9 20 g j t f.1;obtain⟨E,C⟩:=eW I l 9 20 i z p f.2;exact ne_dataH A C (jF f.1) (jF f.2) o ⟨.bl _,H,I,rfl,k _ F H .refl rfl⟩
     .cases n
theorem mx(x:P):∀s:List P,(Az s).any (λy=>gz y (pd x))=s.any λy=>gz (pd y) (pd x)
 | []=>rfl
 |y::r=>by rw[Az,fE,fE,mx x r]
theorem Ja(h:r.all (jl 19)=true):tz (Az r)=true/\tu (Az r)≤20:=by have l:=jG 20 (.lst r) h;simp only[pd,PyData.canLay0,oJ]at l;have x:=l.2;exact⟨l.1,by lia⟩
theorem rZ:(jy u v).isSome=Lw v (u.map (·.1)):=by
 induction u with
 |nil=>rfl
 |cons p r i=>
  unfold Lw at i ⊢;by_cases h:p.1=v
  .rw [ji h,aX,fE,gn h];rfl
  .rw [ik h,i,aX,fE,cT h];rfl
theorem w9{K:FG}{F:Aa}{H:Hp}{m:List Addr}{S:aV}{c:D}{y:V}{n:List fR}(r:Rel K F H m S)(p:RD K F H m c y)(q:w_ c S=some n):∃a k,y=.ref a/\H a=some (.dK k)/\k.map (·.1)=n:=by
 unfold w_ at q;split at q
 .cases q;obtain⟨a,k,e,_,x,h,_⟩:=p;exact⟨a,k,e,x,h⟩
 .rename_i i;obtain⟨a,rfl,s⟩:=p;split at q
  .rename_i o;cases q;obtain⟨k,x,h,_⟩:=r.obj i a _ s o;exact⟨a,k,rfl,x,h⟩
  .rename_i o;cases q;obtain⟨b,k,e,_,x,h,_⟩:=r.obj i a _ s o;cases e;exact⟨a,k,rfl,x,h⟩
  .cases q
 .cases q
theorem N_(V:X.A.units+64 < cLine):kc X (compareOp .In) (rE X.K gk):=by
  intro B s J H x y v u Q I o K h;obtain⟨F,m,S,d,e,r,l,g,i,q,k⟩:=h;unfold gk Op at q;cases w:w_ e S with
  |some W=>
    rw[w]at q;dsimp only at q;cases t:eB S 9 d with
    |none=>rw[t]at q;cases q
    |some a=>
      rw[t]at q;simp only[gA]at q;cases f:ku a with
      |none=>rw[f]at q;cases q
      |some L=>rw[f]at q;cases q;obtain⟨b,M,rfl,G,n⟩:=w9 l i w;have N:RP X.K F H a x:=gD l g t λD=>⟨λz=>(by subst z;cases f),λz=>(by subst z;cases f)⟩;cases K;cases kt f N;exact Rr (by lia) I (nk.k G) o λZ E=>⟨.bl _,H,E,rfl,by rw[rZ,n];exact k _ F H .refl rfl⟩
  |none=>
    rw[w]at q;dsimp only at q;cases t:eB S 9 d with
    |none=>rw[t]at q;cases q
    |some a=>
      rw[t]at q;cases f:eB S 9 e with
      |none=>rw[f]at q;cases q
      |some b=>
        rw[f]at q;simp only[gA]at q;cases n:Jk a b with
        |none=>rw[n]at q;cases q
        |some c=>
          rw[n]at q;cases q;unfold Jk at n;split at n
          · cases n
            cases (show x=.str _ from gD l g t λD=>⟨λz=>(by cases z),λz=>(by cases z)⟩);cases (show y=.str _ from gD l i f λD=>⟨λz=>(by cases z),λz=>(by cases z)⟩);exact By B s J H _ _ v u Q I o K ⟨_,_,rfl,rfl,k _ F H .refl rfl⟩
          all_goals first
            |(cases n;done)
            | (split at n
               · rename_i p
                 rw[aE]at p;cases n;obtain⟨R,j⟩:=eW I l 9 20 i K f (by simpa[jl] using p.1);obtain⟨T,C⟩:=eW I l 9 19 g o t p.2;have P:=Ja p.1;have A:=jG 19 _ p.2;rw[pd]at j;first
                   |exact SeqAt.in_list_reads j C P.1 A.1 (by lia) ⟨.bl _,H,I,rfl,by rw[mx];exact k _ F H .refl rfl⟩
                   |exact SeqAt.in_tuple_reads j C P.1 A.1 (by lia) ⟨.bl _,H,I,rfl,by rw[mx];exact k _ F H .refl rfl⟩
               · cases n)
theorem DS(V:X.A.units+64 < cLine):kc X (compareOp .NotIn) (rE X.K iu):=by
  intro B s J H x y v u Q I o K h;obtain⟨F,m,S,d,e,r,l,g,i,q,k⟩:=h;unfold iu Op at q;cases w:w_ e S with
  |some W=>
    rw[w]at q;dsimp only at q;cases t:eB S 9 d with
    |none=>rw[t]at q;cases q
    |some a=>
      rw[t]at q;simp only[gA]at q;cases f:ku a with
      |none=>rw[f]at q;cases q
      |some L=>rw[f]at q;cases q;obtain⟨b,M,rfl,G,n⟩:=w9 l i w;have N:RP X.K F H a x:=gD l g t λD=>⟨λz=>(by subst z;cases f),λz=>(by subst z;cases f)⟩;cases K;cases kt f N;exact Ie (by lia) I (nk.k G) o λZ E=>⟨.bl _,H,E,rfl,by rw[rZ,n];exact k _ F H .refl rfl⟩
  |none=>
    rw[w]at q;dsimp only at q;cases t:eB S 9 d with
    |none=>rw[t]at q;cases q
    |some a=>
      rw[t]at q;cases f:eB S 9 e with
      |none=>rw[f]at q;cases q
      |some b=>
        rw[f]at q;simp only[gA]at q;cases n:Jk a b with
        |none=>rw[n]at q;cases q
        |some c=>
          rw[n]at q;cases q;unfold Jk at n;split at n
          · cases n
            cases (show x=.str _ from gD l g t λD=>⟨λz=>(by cases z),λz=>(by cases z)⟩);cases (show y=.str _ from gD l i f λD=>⟨λz=>(by cases z),λz=>(by cases z)⟩);exact uX B s J H _ _ v u Q I o K ⟨_,_,rfl,rfl,k _ F H .refl rfl⟩
          all_goals first
            |(cases n;done)
            | (split at n
               · rename_i p
                 rw[aE]at p;cases n;obtain⟨R,j⟩:=eW I l 9 20 i K f (by simpa[jl] using p.1);obtain⟨T,C⟩:=eW I l 9 19 g o t p.2;have P:=Ja p.1;have A:=jG 19 _ p.2;rw[pd]at j;first
                   |exact SeqAt.notIn_list_reads j C P.1 A.1 (by lia) ⟨.bl _,H,I,rfl,by rw[mx];exact k _ F H .refl rfl⟩
                   |exact SeqAt.notIn_tuple_reads j C P.1 A.1 (by lia) ⟨.bl _,H,I,rfl,by rw[mx];exact k _ F H .refl rfl⟩
               · cases n)
theorem N9:kc X (compareOp .Is) (rE X.K LA):=by
 intro B s J H x y v u Q I c t h;obtain⟨F,m,S,d,e,r,l,n,f,q,k⟩:=h;unfold LA at q;split at q
 .cases q;cases (show y=.non from f);refine KL B s J H x _ v u Q I c t ⟨rfl,?_⟩;have:decide (x=.non)=AL d:=by
   cases d with
   |ref i=>obtain⟨a,rfl,_⟩:=n;rfl
   |p w=>
    cases w with
    |non=>cases (show x=.non from n);rfl
    |bl b=>cases (show x=.bl b from n);rfl
    |int b=>cases (show x=.int b from n);rfl
    |str b=>cases (show x=.str b from n);rfl
    |_=>(obtain⟨a,g,rfl,_⟩:=n;rfl)
  rw[this];exact k _ F H .refl rfl
 .cases q
end
noncomputable def qO:List lB->List P->Lc->Option Lc
 | [],[],L=>some L
 |g::s,v::x,L=>match g v L with
  |some h=>qO s x h
  |none=>none
 |_,_,_=>none
def wU(g:List lB):lB:=λv L=>match v with
 | .tup s=>qO g s L
 |_=>none
theorem wQ:∀{s:List lB}{x:List P}{L a:Lc},qO s x L=some a->x.length=s.length
 | [],[],_,_,_=>rfl
 | [],_::_,_,_,h=>by cases h
 |_::_,[],_,_,h=>by cases h
 |g::s,v::x,L,a,h=>by
  unfold qO at h;split at h
  .rw [aA,aA,wQ h]
  .cases h
inductive gTsI(K:FG)(gs:List lB)(xs:List V)(J:L2.St)(H:Hp)(Q:L2.St->Hp->Prop):Prop
 |mk (F:Aa) (m:List Addr) (L:Lc) (vs:List P) (L':Lc) (h0_:RL K F H m J L) (h1_:dZ K F H vs xs) (h2_:qO gs vs L=some L') (h3_:∀J',RL K F H m J' L'->Q J' H):gTsI K gs xs J H Q
noncomputable def T4(K:FG)(g:List lB):Mo:=λx J H Q=>gTsI K g x J H Q
inductive GsOk(X:Cx):Ab->List lB->Prop where
 |nil:GsOk X [] []
 |cons {x:Str}{p:Pos}{es:Ab}{g:lB}{gs:List lB}:PG X (.Name x p) (gT X.K g)->GsOk X es gs->GsOk X (.Name x p::es) (g::gs)
section
variable{X:Cx}{E:Pos}
theorem rT:assignEach (.Name x p::es) v=(false,assign (.Name x p) v)::assignEach es v:=rfl
theorem GsOk.len(h:GsOk X es r)(e:Env):(assignEach es e).length=r.length/\(assignEach es e).findIdx? (·.1)=none:=by
 induction h with
 |nil=>exact⟨rfl,rfl⟩
 |cons _ _ i=>rw[rT];refine⟨by rw[aA,aA,i.1],?_⟩;simp only[List.findIdx?_cons,i.2];rfl
theorem GsOk.pgs(h:GsOk X es gs):Pa X es (T4 X.K gs):=by
 induction h with
 |nil=>
  intro B s J H b u Q I e ⟨F,m,L,a,n,l,r,q,k⟩;cases a with
  |nil=>cases q;cases (show b=[] from r);exact Hm B s J H [] u Q I e ⟨rfl,k J l⟩
  |cons _ _=>cases q
 |cons g _ i=>
  intro B s J H b u Q I e ⟨F,m,L,a,n,l,r,q,k⟩;cases a with
  |nil=>cases q
  |cons v a=>
   unfold qO at q;split at q
   .rename_i f c;obtain⟨x,d,rfl,p,r⟩:=r;refine DH g i rfl B s J H _ u Q I e ⟨x,d,rfl,F,m,L,v,f,l,p,c,λw t=>?_⟩;exact⟨F,m,f,a,n,t,r,q,k⟩
   .cases q
theorem Ly(c:X.c=true)(h:GsOk X es r):PG X (.Tuple es n E) (gT X.K (wU r)):=
 PG.imp' (Kr c h.pgs (h.len _).1 (h.len _).2) λv J H Q z=>by
  obtain⟨F,m,L,d,x,l,p,q,k⟩:=z;cases d with
  |tup s=>obtain⟨a,b,rfl,t,e⟩:=p;have f:=wQ (show qO r s L=some x from q);exact⟨a,b,rfl,t.sq,by rw[<- e.length];exact f,F,m,L,s,x,l,e,q,k⟩
  |_=>cases q
def RZ(K:FG)(a:Addr):It:=
 ⟨λi H=>∃s x,j6 K H a s/\s[i]? = some x,λi H x h=>∃p y,x=.ref p/\H p=none/\h=upd H p (.tup [.int i,y])/\∀s,j6 K H a s->s[i]? = some y,λi H=>∃s,j6 K H a s/\s.length≤i⟩
end
open PySem.AutoSeq1 (wpAny_loadPart')
theorem Fg(n:Nat):(ka n=true)=(n≤1000000):=by unfold ka;simp
variable{q:Type}{s:Shared}
theorem Pw(h:c=false)(k:wpAny M A b Q r s):wpAny M A (if c=true then a else b) Q r s:=by rw[h,ai cb];exact k
theorem T1(h:c=true)(k:wpAny M A a Q r s):wpAny M A (if c=true then a else b) Q r s:=by rw[h,ae rfl];exact k
theorem wW(a:Array Value)(n:Nat):∀b:Array Value,((List.replicate n a).foldl (·++·) b).size=b.size+n * a.size:=by
 induction n with
 |zero=>intro b;simp
 |succ n i=>intro b;rw[dR,iK,i,zf,uk];lia
theorem GP(l:Addr)(i:Array Value)(n:Nat)(e:Option Addr)(k:Array (OV))(x:Int)(u:Tok)(b:-1000000 < x/\x < 1000000)(c:(i.isEmpty ||x == 1)=true) :
  Meets (Builtin.«tuple.__mul__» ⟨[.ref l,.int x u],[]⟩) (λ_ R s=>s.heap.get? l=some { cls:=.type "tuple",dict:=e,data:=.seq i n,slots:=k }/\R (.ok (.ret (Value.ref l))) s):=
 .of_wp λp w A R s h=>by
  obtain⟨m,g,d,t,os⟩:=s;obtain⟨a,h⟩:=h;have f:=yv;have f2:=yw
  wp_walk using nq a
  refine Pw (by rw[cT (by lia),cT (by lia)];rfl) ?_
  wp_walk using nq a
  exact⟨_,rfl,h⟩
theorem GO(l:Addr)(i:Array Value)(n:Nat)(c:Option Addr)(v:Array (OV))(x:Int)(u:Tok)(H:-1000000 < x/\x < 1000000)(f:¬(i.isEmpty ||x == 1)=true)(z:i.size * x.toNat≤1000000) :
  Meets (Builtin.«tuple.__mul__» ⟨[.ref l,.int x u],[]⟩) (fun _ R s=>s.heap.get? l=some { cls:=.type "tuple",dict:=c,data:=.seq i n,slots:=v } /\
   R (.ok (.ret (Value.ref s.heap.objs.size))) { s with heap:=s.heap.push { cls:=Value.type "tuple",data:=Data.seq ((List.replicate x.toNat i).foldl (·++·) #[]) } }):=
 .of_wp λp w A R s h=>by
  obtain⟨S,g,d,K,os⟩:=s;obtain⟨a,h⟩:=h;have o:=yv;have f2:=yw
  wp_walk using nq a
  refine Pw (by rw[cT (by lia),cT (by lia)];rfl) ?_
  wp_walk using nq a
  have k:i.isEmpty=false:=by
   cases e:i.isEmpty with
   |false=>rfl
   |true=>rw[e]at f;simp at f
  by_cases b:x≤0
  .refine T1 (by rw[gn b];rfl) ?_;have m:x.toNat=0:=by lia
   rw[m]at h
   wp_walk using nq a
   exact⟨_,rfl,h⟩
  .refine Pw (by rw[cT b,k];rfl) ?_;have q:(i.size:Int) * x≤1000000:=by
    have:((i.size * x.toNat:Nat):Int)≤1000000:=by lia
    rw[yx,yy (by lia)]at this;exact this
   have r:¬(i.size:Int) * x > (2 ^ 63-1) / 8:=by lia
   dsimp only;rw[ai r];have F:(1000000:Int)≤(sizeLine:Int):=by decide
   refine Pw (show FS _=false from cT (by lia)) ?_;have t:¬(o0 (λj y=>j++y) #[] (List.replicate x.toNat i)).size > sizeLine:=by
    have e:=wW i x.toNat #[];rw[e];have:x.toNat * i.size≤1000000:=by rw[pj];exact z
    have:(1000000:Nat)≤sizeLine:=by decide
    simp only[cc,eI];lia
   wp_walk using nq a
   exact⟨_,rfl,h⟩
theorem G'(a:Int)(t:Tok)(l:Addr)(i:Array Value)(n:Nat)(x:Option Addr)(e:Array (OV)) :
  Meets (Builtin.«int.__rmul__» ⟨[.int a t,.ref l],[]⟩) (λ_ R s=>s.heap.get? l=some { cls:=.type "tuple",dict:=x,data:=.seq i n,slots:=e }/\R (.ok (.ret Value.notImplemented)) s):=
 .of_wp λp w A R s h=>by
  obtain⟨f,g,d,b,os⟩:=s;obtain⟨k,h⟩:=h
  wp_walk
  exact⟨_,rfl,h⟩
theorem BE:fillsNumberSlot (.type "tuple") "mul"=pure false:=
 PySem.fillsNumberSlot_seq (id:="tuple.__mul__") (r:=some (.builtin "tuple.__rmul__")) oP.lookup (by decide +kernel) yO.lookup (by decide +kernel)
theorem Kg:seqRepeat? (.type "tuple")=pure (some (.builtin "tuple.__mul__")):=by unfold seqRepeat?;rw[z0 (T:="tuple") (name:="__mul__") (id:="tuple.__mul__") oP.lookup (by decide +kernel)];first|rfl|(rw[z0 (T:="tuple") (name:="__rmul__") (id:="tuple.__rmul__") yO.lookup (by decide +kernel)];rfl)
section
variable{X:Cx}
theorem yh(i:LV)(k:Nat):(List.replicate k i.toArray).foldl (·++·) #[]=(List.replicate k i).flatten.toArray:=by
 have:∀(m:Nat)(b:LV),(List.replicate m i.toArray).foldl (·++·) b.toArray=(b++(List.replicate m i).flatten).toArray:=by
  intro m;induction m with
  |zero=>intro b;simp
  |succ m x=>intro b;rw[dR,iK,List.append_toArray,x,dR,gC,c_]
 have h:=this k [];rw[dv]at h;exact h
theorem Ah(r:bB u v):∀k:Nat,bB (List.replicate k u).flatten (List.replicate k v).flatten
 |0=>.nil
 |k+1=>by rw[dR,dR,gC,gC];exact r.append (Ah r k)
theorem K9(x:List q)(k:Nat):(List.replicate k x).flatten.length=x.length * k:=by
 induction k with
 |zero=>rfl
 |succ k i=>rw[dR,gC,aI,i,Nat.mul_succ];lia
def kF:P->P->Option P
 | .tup s,.int n=>if (ka (s.length * n.toNat) && decide (n.natAbs < 1000000))=true then some (.tup (List.replicate n.toNat s).flatten) else none
 |x,y=>w8 x y
theorem KP:rV X (binaryOp .Mult) kF:=by
 intro B s J H x y v u Q I M N h;obtain⟨F,z,S,d,W,G,L,q,k⟩:=h;have f:w8 z S=some d->wx X (binaryOp .Mult v u) (EP X B J Q) X.xe s:=λq=>N7 B s J H x y v u Q I M N ⟨F,z,S,d,W,G,L,q,k⟩
 cases z with
 |tup j=>
  cases S with
  |int n=>
   simp only[kF]at q;split at q
   .rename_i g;rw[aE,Fg]at g;have h1:=bP g.2;cases q;obtain⟨a,D,rfl,R,C⟩:=G;cases (show y=.int n from L);cases M;obtain⟨t,rfl⟩:=N;have K:=C.length;obtain⟨i,r,⟨o,e,c,m,E⟩,hz⟩:=I.tuple R.sq;have l:=r.length;obtain⟨oc,A,ot,os⟩:=o;dsimp only at c E;subst c E;refine z6 (T:="tuple") (U:="int") (by decide) ⟨_,e,rfl⟩ (λZ=>mj Z n t) BE yC oO Kg yF.lookup
     (lC oO (mj s n t) yE (yG _ _) (G' n t a i.toArray m A os) ⟨e,rfl,⟨_,e,rfl⟩,?_⟩)
    by_cases p:(i.toArray.isEmpty ||n == 1)=true
    .refine lC oP ⟨_,e,rfl⟩ yM (yP _ _) (GP a i.toArray m A os n t (by lia) p) ⟨e,⟨.ref a,H,I,rfl,k _ F H .refl ?_⟩⟩;have V:(List.replicate n.toNat j).flatten=j:=by
      rw[fD]at p;rcases p with p|p
      .have:i=[]:=by simpa using p
       have:j=[]:=kY (by rw[K,l,this];rfl);subst this;simp
      .have:n=1:=by simpa using p
       subst this;simp
     rw[V];exact⟨a,D,rfl,R,C⟩
    .refine lC oP ⟨_,e,rfl⟩ yM (yP _ _) (GO a i.toArray m A os n t (by lia) p (by rw[cc,<- l,<- K];exact g.1)) ⟨e,?_⟩;rw[yh];have w:H s.heap.objs.size=none:=I.h.fresh (ar _);have P:(List.replicate n.toNat D).flatten.length≤sizeLine:=by
      rw[K9,<- K];exact ce g.1 (by decide)
     refine⟨.ref s.heap.objs.size,_,I.laid (t':=s.toks) (o:=.tup (List.replicate n.toNat D).flatten) (λb ob q=>cv _ q) (ar _) ⟨P,_,Ah r n.toNat,q_.new _ _⟩,rfl,k _ F _ (cG w) (.newTup w (C.rep n.toNat))⟩
   .cases q
  |_=>exact f q
 |_=>exact f q
variable{e:Expr}{es:Ab}{fs:jR}{p E:Pos}
end
section
variable{X:Cx}{o e:Expr}{G z:EE}{C:EV}{j l E:Pos}
noncomputable abbrev pK:=Lc->aV->Option (List D×aV)
noncomputable abbrev Nj:=Option (List D×aV)
inductive tDsI(K:FG)(f:pK)(J:L2.St)(H:Hp)(Q:List V->Hp->Prop):Prop
 |mk (F:Aa) (m:List Addr) (L:Lc) (S:aV) (ds:List D) (S':aV) (h0_:Rel K F H m S) (h1_:RL K F H m J L) (h2_:f L S=some (ds,S')) (h3_:∀xs F' m' H',Stp F m H F' m' H'->Rel K F' H' m' S'->fy K F' H' m' ds xs->Q xs H'):tDsI K f J H Q
noncomputable def vX(K:FG)(f:pK):TA:=λJ H Q=>tDsI K f J H Q
@[simp] def a'(_L:Lc)(S:aV):Nj:=some ([],S)
@[simp] def gX(a:EE)(r:pK)(L:Lc)(S:aV):Nj:=cY (a L S) λx h=>cY (r L h) λs e=>some (x::s,e)
variable{es:Ab}{fs:pK}
theorem OG:PA X [] (vX X.K a'):=jD.imp' λJ H Q h=>by obtain⟨F,m,L,S,d,x,r,l,q,k⟩:=h;cases q;exact k [] F m H .refl r rfl
theorem LO(u:PE X e (tE X.K z))(g:PA X es (vX X.K fs))(i:starEach (e::es) X.e=(false,eval e X.e)::starEach es X.e):PA X (e::es) (vX X.K (gX z fs)):=
 (fG u g i).imp' λJ H Q j=>by obtain⟨F,m,L,S,d,t,r,l,q,k⟩:=j;obtain⟨x,h,p,q⟩:=ao q;obtain⟨C,E,w,q⟩:=ao q;cases q;refine⟨F,m,L,S,x,h,r,l,p,λv f y D s A K=>?_⟩;refine⟨f,y,L,h,C,t,A,l.mono s,w,λn b o c a B P=>?_⟩;exact k (v::n) b o c (s.trans a) B ⟨v,n,rfl,RD.mono a K,P⟩
noncomputable abbrev GF:=List D->aV->Option (D×aV)
inductive spRI(K:FG)(g:GF)(vs:List V)(H:Hp)(Q:VK):Prop
 |mk (F:Aa) (m:List Addr) (ds:List D) (S:aV) (d:D) (S':aV) (h0_:Rel K F H m S) (h1_:fy K F H m ds vs) (h2_:g ds S=some (d,S')) (h3_:∀v F' m' H',Stp F m H F' m' H'->Rel K F' H' m' S'->RD K F' H' m' d v->Q v H'):spRI K g vs H Q
noncomputable def rz(K:FG)(g:GF):Sp:=λv H Q _=>spRI K g v H Q
@[simp] def ET(g:GF)(a:pK)(L:Lc)(S:aV):FK:=cY (a L S) λd h=>g d h
theorem JH(G:FnOk X.p X.w X.K X.g X.b re u f fd ps (rz X.K a0))(A:Room u X.A)(o:Gl X x)(P:X.g x=some (.ref f))(K:gO X.K (.ref f)=true)(y:Binds X.K fd ps [])
  (j:PA X (e::es) (vX X.K fs)) (h:(x == ("__debug__":Str))=false) (z:starEach (e::es) X.e=(false,eval e X.e)::starEach es X.e) (a:(backTo E (starEach es X.e)).any (·.1)=false) :
  PE X (.Call (.Name x p) (e::es) [] E) (tE X.K (ET a0 fs)):=
 (uS G A o P K y .nil sf j h z a).imp' λJ H Q B=>by obtain⟨F,m,L,S,d,g,r,l,q,u⟩:=B;obtain⟨k,n,i,q⟩:=ao q;refine⟨F,m,L,S,k,n,r,l,i,λT b C t s M p=>?_⟩;show rz X.K a0 (T++[]) t Q E0;rw[fj];exact⟨b,C,k,n,d,g,M,p,q,λv c D w R N I=>u v c D w (s.trans R) N I⟩
noncomputable def x_(n:Nat):D->Bool
 | .p _=>true
 | .ref i=>decide (i < n)
def K6(n:Nat):SO->Bool
 | .lst d=>d.all (x_ n)
 | .dct _ d=>d.all (x_ n)
 | .fz _=>true
 | .ins _ _ d=>d.all (x_ n)
 | .exc _ _=>true
 | .tpl d=>d.all (x_ n)
 | .dtt _ d=>d.all (x_ n)
def trunc(n:Nat)(S:aV):aV:=if (S.take n).all (K6 n)=true then S.take n else S
@[simp] def fZ(g:GF)(a:pK)(L:Lc)(S:aV):tyV:=cY (a L S) λs h=>cY (g s h) λd x=>cY (uH 9 d x) λv e=>some (v,trunc h.length e)
end
section
variable{K:FG}{F:Aa}{H:Hp}{m:List Addr}{S:aV}
theorem RD.low(h:RD K F H m r v)(l:x_ n r=true):RD K F H (m.take n) r v:=by
 cases r with
 |p w=>exact h
 |ref i=>obtain⟨a,e,x⟩:=h;exact⟨a,e,by rw[kX (bP l)];exact x⟩
theorem fy.low:∀{s:List D}{a:List V},fy K F H m s a->s.all (x_ n)=true->fy K F H (m.take n) s a
 | [],_,h,_=>h
 |d::s,_,h,l=>by obtain⟨x,r,e,k,f⟩:=h;rw[zk,aE]at l;exact⟨x,r,e,k.low l.1,fy.low f l.2⟩
theorem Rel.trunc(r:Rel K F H m S)(z:n≤m.length)(h:(S.take n).all (K6 n)=true):Rel K F H (m.take n) (S.take n) where
 len:=by rw[dQ,dQ,r.len]
 nd:=r.nd.sublist (zn _ _)
 obj:=λi a o t q=>by
  have u:i < n:=by have:=(bX.mp t).1;rw[dQ]at this;lia
  rw[kX u]at t;have lo:=cZ.mp h o (eL q);rw[kX u]at q;have p:=r.obj i a o t q;cases o with
  |lst d=>obtain⟨g,s,b⟩:=p;exact⟨g,s,b.low lo⟩
  |dct j d=>obtain⟨k,s,e,b⟩:=p;exact⟨k,s,e,b.low lo⟩
  |fz v=>exact p
  |ins c j d=>obtain⟨C,l,k,y,s,e,b⟩:=p;exact⟨C,l,k,y,s,e,b.low lo⟩
  |exc c x=>exact p
  |tpl d=>obtain⟨g,s,b⟩:=p;exact⟨g,s,b.low lo⟩
  |dtt j d=>obtain⟨k,s,e,b⟩:=p;exact⟨k,s,e,b.low lo⟩
 sep:=λi a o t q w f=>by
  have u:i < n:=by have:=(bX.mp t).1;rw[dQ]at this;lia
  rw[kX u]at t q;exact r.sep i a o t q w f
 trk:=λa h=>r.trk a (pf h)
 ft:=r.ft
theorem Stp.trunc(s:Stp F m H v r u):Stp F m H v (r.take m.length) u:=by
 obtain⟨n,e⟩:=s.pre;have x:r.take m.length=m:=by rw[e];simp
 rw[x];exact⟨⟨[],by simp⟩,s.oth,s.frz,s.frk,s.tup,s.trk,s.nf,λ_ h=>.inl h⟩
end
section
variable{X:Cx}{e:Expr}{es:Ab}{fs:pK}{E:Pos}
theorem Gy(G:FnOk X.p X.w X.K X.g X.b re u f fd ps (rz X.K a0))(hr:Room u X.A)(Z:Gl X x)(hm:X.g x=some (.ref f))(hk:gO X.K (.ref f)=true)(V:Binds X.K fd ps [])
  (T:PA X (e::es) (vX X.K fs)) (b:(x == ("__debug__":Str))=false) (W:starEach (e::es) X.e=(false,eval e X.e)::starEach es X.e) (w:(backTo E (starEach es X.e)).any (·.1)=false) :
  PE X (.Call (.Name x p) (e::es) [] E) (tV X.K (fZ a0 fs)):=
 (uS G hr Z hm hk V .nil sf T b W w).imp' λJ H Q hz=>by
  obtain⟨F,m,L,S,d,S',r,l,q,u⟩:=hz;obtain⟨z,h,M,q⟩:=ao q;obtain⟨I,D,N,q⟩:=ao q;obtain⟨v1,a,R,q⟩:=ao q;cases q;refine⟨F,m,L,S,z,h,r,l,M,λxs B g C A K p1=>?_⟩;show rz X.K a0 (xs++[]) C Q E0;rw[fj];refine⟨B,g,z,h,I,D,K,p1,N,λv F2 i y s2 r2 p2=>?_⟩;obtain⟨j,s3,P,l3,o⟩:=nB 9 R r2 p2;have st:=s2.trans s3;have s:=K.len;by_cases c:(a.take h.length).all (K6 h.length)=true
  .have t:Ev.trunc h.length a=a.take h.length:=ae c;rw[t]at u;have k:g.length≤i.length:=by
    obtain⟨nn,e⟩:=st.pre;rw[e,aI];lia
   have rt:=P.trunc (n:=h.length) (by rw[<- s];exact k) c;refine u v j (i.take g.length) y (A.trans st.trunc) ?_ o;rw[s];exact rt
  .have t:Ev.trunc h.length a=a:=ai c;rw[t]at u;exact u v j i y (A.trans st) P o
end
section
variable{X:Cx}{a b c e o i g:Expr}{C N d L I:EV}{G z:EE}{E t:Pos}
def FF (i:Expr):Prop:=∀(o:Expr) (E:Pos) (e:Env) (v:Value),assign (.Subscript o i E) e v=(do
 let h <- holding [v] (eval o e)
 let x <- holding [v,h] (eval i e)
 standAt E
 holding [v,h,x] (setItem h x v)
 release [v,h,x] [])
def xL:P->Option Bool
 | .non=>some false
 | .bl b=>some b
 | .int i=>some (i != 0)
 | .str x=>if ka x.length=true then some ((x.length:Int) != 0) else none
 | .tup s=>some (!s.isEmpty)
 | .lst s=>some (!s.isEmpty)
 | .ro s=>some (!s.isEmpty)
 | .dct k _=>some (!k.isEmpty)
def rk:D->aV->Option Bool
 | .p v,_=>xL v
 | .ref i,S=>match S[i]? with
  |some (.lst d)=>some (!d.isEmpty)
  |some (.dct k _)=>some (!k.isEmpty)
  |some (.fz v)=>xL v
  |_=>none
@[simp] def bT(f:EE)(L:Lc)(S:aV):Mu:=cY (f L S) λd h=>(rk d h).map λb=>(b,h)
theorem iR{x:List q}{y:List r}(h:x.length=y.length):x.isEmpty=y.isEmpty:=by cases x<;>cases y<;>first|rfl|simp at h
theorem Aj(p:RP X.K F H w v)(h:xL w=some r):Mn X.K v H r:=by
 cases w with
 |non=>cases (show v=.non from p);cases h;rfl
 |bl b=>cases (show v=.bl b from p);cases h;rfl
 |int b=>cases (show v=.int b from p);cases h;rfl
 |str x=>
  cases (show v=.str x from p);simp only[xL]at h;split at h
  .rename_i c;cases h;exact⟨h7 c,rfl⟩
  .cases h
 |tup d=>obtain⟨a,s,rfl,t,e⟩:=p;cases h;exact .inr (.inl ⟨s,t.sq,by rw[iR e.length]⟩)
 |lst d=>obtain⟨a,s,rfl,t,e⟩:=p;cases h;exact .inl ⟨s,t.sq,by rw[iR e.length]⟩
 |ro d=>obtain⟨a,s,rfl,t,e⟩:=p;cases h;exact .inl ⟨s,t.sq,by rw[iR e.length]⟩
 |dct m d=>obtain⟨a,k,rfl,_,f,n,e⟩:=p;cases h;exact .inr (.inr ⟨k,f,by rw[<- n];cases k<;>rfl⟩)
theorem yT(h:PE X e (tE X.K z))(D:∀o,isTrue e X.e o=(do let v <- o;standAt e.pos;holding [v] (truthy v))):PT X e (tQ X.K (bT z)):=
 (Dz h D).imp' λJ H Q E=>by
  obtain⟨F,m,L,S,d,N,r,l,q,k⟩:=E;obtain⟨x,P,B,q⟩:=ao q;cases s:rk x P with
  |none=>rw[s]at q;cases q
  |some t=>
   rw[s]at q;cases q;refine⟨F,m,L,S,x,_,r,l,B,λv y G K I b g=>⟨_,?_,k y G K I b⟩⟩;cases x with
   |p w=>exact Aj g s
   |ref j=>
    obtain⟨a,rfl,u⟩:=g;simp only[rk]at s;split at s
    .rename_i A n;cases s;obtain⟨M,c,i⟩:=b.obj j a _ u n;exact .inl ⟨M,j6.of c,by rw[iR i.length]⟩
    .rename_i R A n;cases s;obtain⟨f,c,C,i⟩:=b.obj j a _ u n;exact .inr (.inr ⟨f,c,by rw[<- C];cases f<;>rfl⟩)
    .rename_i w n;exact Aj (b.obj j a _ u n) s
    .cases s
@[simp] def G8(g:lB)(f:EV)(L:Lc)(S:aV):GL:=cY (f L S) λv x=>match g v L with
 |some h=>some (.nx,h,x)
 |none=>none
theorem P1(p:PE X e (tV X.K C))(d:PG X Q (gT X.K u))(w:swapsWithSole [Q] e E.line X.e=pure false)(i:swappedStores [Q] e X.e=pure none)(t:(assignEach [Q] X.e).map (·.2)=[assign Q X.e]) :
  PS X (.Assign [Q] e E) (jT X.K (G8 u C)):=(Ko p d w i t).imp' λD J H z=>by
 obtain⟨F,m,L,S,A,K,P,r,l,q,k⟩:=z;obtain⟨v,b,c,q⟩:=ao q;refine⟨F,m,L,S,v,b,r,l,c,λx h a n s o y=>?_⟩;cases g:u v L with
 |none=>rw[g]at q;cases q
 |some L2=>rw[g]at q;cases q;exact⟨h,a,L,v,_,l.mono s,y,g,λf j=>k f h a n s o j⟩
def bH:P->P->Option P
 | .tup [],.tup s=>some (.tup s)
 |x,y=>vr x y
theorem L4{M:Program}{w:World}{A:Around}{E:VP}{s:Shared}{t b:Addr}{a:LV}{Q:VP}(n:IsTup s.heap t #[])(e:IsTup s.heap b a.toArray)(h:Q (.ref b) s):wpAny (model M w) A (binaryOp .Add (.ref t) (.ref b)) Q E s:=by obtain⟨o,g,k,m,l⟩:=id n;obtain⟨p,x,f,r,c⟩:=id e;cases o;cases p;cases k;cases l;cases f;cases c;exact ut ⟨_,g,rfl⟩ ⟨_,x,rfl⟩ ux uu tG tH (tJ _ _) (tuple_addW0 t b #[] a.toArray m r _ _ _ _ rfl) ⟨g,x,h⟩
theorem KQ:rV X (binaryOp .Add) bH:=by
 intro B s J H x y v u Q I r m h;obtain⟨F,e,n,d,t,c,p,q,k⟩:=h;have o:vr e n=some d->wx X (binaryOp .Add v u) (EP X B J Q) X.xe s:=λq=>Od B s J H x y v u Q I r m ⟨F,e,n,d,t,c,p,q,k⟩
 cases e with
 |tup f=>
  cases n with
  |tup es=>
   cases f with
   |nil=>cases q;obtain⟨a,P,rfl,S,z⟩:=c;obtain⟨b,D,rfl,K,C⟩:=id p;cases (show P=[] from z);cases r;cases m;obtain⟨w,l,g,_⟩:=I.tuple S.sq;obtain⟨i,A,j,_⟩:=I.tuple K.sq;cases l;exact L4 g j ⟨.ref b,H,I,rfl,k _ F H .refl p⟩
   |cons _ _=>exact o q
  |_=>cases f<;>exact o q
 |_=>exact o q
def vK(K:FG)(k:SV)(x:Str)(v:P):Prop:=∃u w,k x=some u/\RelV w u/\∀F H,RP K F H v w
theorem M_(g:Gl X x)(h:vK X.K X.g x v)(d:(x == ("__debug__":Str))=false):PE X (.Name x E) (tV X.K (vC v)):=by obtain⟨u,w,m,r,p⟩:=h;exact xC (uR g m r d) p
end
section
variable{X:Cx}{a:Expr}{C:EE}{p E:Pos}
noncomputable def IU:P->String
 | .non=>"NoneType"
 | .bl _=>"bool"
 | .int _=>"int"
 | .str _=>"str"
 | .tup _=>"tuple"
 | .lst _=>"list"
 | .ro _=>"list"
 | .dct _ _=>"dict"
def gR(T:String)(v:P):Bool:=IU v == T ||(T == "int" && IU v == "bool")
theorem Fh(S:∀K:FG,∀v:P,bO K (.type (IU v)) (.type T)=some (gR T v)) :
  fg X (.builtin "isinstance") (λm H Q=>∃F d x,m=[x,.ty T]/\RP X.K F H d x/\Q (.bl (gR T d)) H):=by
 intro B s J H m G Q I r h;obtain⟨F,d,x,rfl,pd,q⟩:=h;obtain⟨u,D,rfl,k,w⟩:=vals2 r;cases (show D=Value.type T from w);have e:=S X.K d;have f:∀l,EP X B J Q (.bool (gR T d)) { s with toks:=l }:=λl=>⟨.bl (gR T d),H,I.tok _,rfl,q⟩
 cases d with
 |non=>cases (show x=.non from pd);exact ie I k (.non) e f
 |bl y=>cases (show x=.bl y from pd);exact ie I k (.bl y) e f
 |int y=>cases (show x=.int y from pd);exact ie I k (.int y) e f
 |str y=>cases (show x=.str y from pd);exact ie I k (.str y) e f
 |tup g=>obtain⟨a,m,rfl,t,j⟩:=pd;cases k;obtain⟨i,_,⟨o,b,c,_⟩,_⟩:=I.tuple t.sq;exact eR Cz I.kIn ⟨o,b,c⟩ e (λz=>nomatch z) f
 |lst g=>obtain⟨a,m,rfl,t,j⟩:=pd;cases k;obtain⟨i,_,p,_⟩:=I.list t.sq;obtain⟨o,n,b,c,_⟩:=p;exact eR pU I.kIn ⟨o,b,c⟩ e (λz=>nomatch z) f
 |ro g=>obtain⟨a,m,rfl,t,j⟩:=pd;cases k;obtain⟨i,_,p,_⟩:=I.list t.sq;obtain⟨o,n,b,c,_⟩:=p;exact eR pU I.kIn ⟨o,b,c⟩ e (λz=>nomatch z) f
 |dct E L=>obtain⟨a,C,rfl,_,A,_⟩:=pd;exact ie I k (.dK A) e f
theorem HL(K:FG)(v:P):bO K (.type (IU v)) (.type "int")=some (gR "int" v):=by cases v<;>rfl
theorem Ee(K:FG)(v:P):bO K (.type (IU v)) (.type "bool")=some (gR "bool" v):=by cases v<;>rfl
theorem kit_tuple(K:FG)(v:P):bO K (.type (IU v)) (.type "tuple")=some (gR "tuple" v):=by cases v<;>rfl
def En(T:String):D->aV->Option Bool
 | .p v,_=>some (gR T v)
 | .ref i,S=>match S[i]? with
  |some (.lst _)=>some (gR T (.lst []))
  |some (.dct _ _)=>some (gR T (.dct [] []))
  |some (.fz v)=>some (gR T v)
  |_=>none
@[simp] def xI(T:String)(f:EE)(L:Lc)(S:aV):tyV:=cY (f L S) λd h=>(En T d h).map λb=>(.bl b,h)
theorem B8(t:∀K:FG,∀v:P,bO K (.type (IU v)) (.type T)=some (gR T v)) :
  fg X (.builtin "isinstance") (λA H Q=>∃F m S d b x,A=[x,.ty T]/\Rel X.K F H m S/\RD X.K F H m d x/\En T d S=some b/\Q (.bl b) H):=by
 intro B s J H A Z Q I r h;obtain⟨F,m,S,d,b,x,rfl,l,pd,i,q⟩:=h;have plain:∀w:P,RP X.K F H w x->gR T w=b->wx X _ _ _ _:=λw M e=>Fh t B s J H [x,.ty T] Z Q I r ⟨F,w,x,rfl,M,by rw[e];exact q⟩
 cases d with
 |p w=>cases i;exact plain w pd rfl
 |ref j=>
  obtain⟨a,rfl,g⟩:=pd;simp only[En]at i;obtain⟨u,w',rfl,C,y⟩:=vals2 r;cases (show w'=Value.type T from y);have f:∀D,EP X B J Q (.bool b) { s with toks:=D }:=λD=>⟨.bl b,H,I.tok _,rfl,q⟩;split at i
  .rename_i E k;obtain⟨A,c,W⟩:=l.obj j a _ g k;have e:=t X.K (.lst []);rw[show gR T (.lst [])=b by cases i;rfl]at e;cases C;obtain⟨N,_,V,_⟩:=I.list (j6.of c);obtain⟨o,n,G,L,_⟩:=V;exact eR pU I.kIn ⟨o,G,L⟩ e (λz=>nomatch z) f
  .rename_i ks E k;obtain⟨R,c,ek,W⟩:=l.obj j a _ g k;have e:=t X.K (.dct [] []);rw[show gR T (.dct [] [])=b by cases i;rfl]at e;exact ie I C (.dK c) e f
  .rename_i w k;exact plain w (l.obj j a _ g k) (by cases i;rfl)
  .cases i
theorem Jz(y:∀K:FG,∀v:P,bO K (.type (IU v)) (.type T)=some (gR T v))(B:Gl X "isinstance")(D:X.g "isinstance"=none)(h:Gl X u)(n:X.g u=none)(o:bootBuiltins u=some (.type T))(z:PE X a (tE X.K C))
  (G:u≠"__name__") (A:(u == ("__debug__":Str))=false) (c:starEach [a,.Name u p2] X.e=[(false,eval a X.e),(false,eval (.Name u p2) X.e)]):PE X (.Call (.Name "isinstance" p) [a,.Name u p2] [] E) (tV X.K (xI T C)):=
 (ko (B8 y) B D tT (fG z (fG (Ay (v:=.ty T) h n o rfl G A) jD rfl) (by rw[c];rfl)) (by decide) (by decide) (by rw[c];rfl) rfl).imp' λJ H Q I=>by
  obtain⟨F,m,L,S,d,N,r,l,q,k⟩:=I;obtain⟨x,i,j,q⟩:=ao q;cases e:En T x i with
  |none=>rw[e]at q;cases q
  |some b=>rw[e]at q;cases q;exact⟨F,m,L,S,_,_,r,l,j,λv f t g s w M=>⟨f,t,_,x,b,v,rfl,w,M,e,k _ f t g s w rfl⟩⟩
end
noncomputable def fq(f:Str):LS->List D->Option D
 |k::h,d::s=>if k=f then some d else fq f h s
 |_,_=>none
noncomputable def putK(f:Str):LS->LS
 | []=>[f]
 |k::s=>if k=f then k::s else k::putK f s
noncomputable def rB(f:Str)(y:D):LS->List D->List D
 | [],_=>[y]
 |k::h,d::s=>if k=f then y::s else d::rB f y h s
 |_::_,[]=>[]
def gM(K:FG)(c:Str)(C:Addr):Prop:=bN K mainGlobals c=some (some (.ref C))
variable{K:FG}
theorem gM.inj(h:gM K c r)(x:gM K c v):r=v:=by have:=h.symm.trans x;cases this;rfl
def Pe(K:FG)(A:Str->Str->Bool):Prop:=∀c f,A c f=true->∃C,gM K c C/\Cls K C/\kN K C f
section
variable{K:FG}{F:Aa}{H:Hp}{m:List Addr}
theorem u0:∀{a:List (Str×V)}{s:List D}{d:D},fy K F H m s (a.map (·.2))->fq f (a.map (·.1)) s=some d->∃v,a.lookup f=some v/\RD K F H m d v
 | [],s,d,_,h=>by cases s<;>cases h
 |(k,x)::r,s,d,q,h=>by
  cases s with
  |nil=>cases h
  |cons w s=>
   obtain⟨y,u,e,t,p⟩:=q;simp only[aX,tt]at e;obtain⟨rfl,rfl⟩:=e;simp only[aX,fq]at h;split at h
   .rename_i n;cases h;subst n;exact⟨x,by simp[dP],t⟩
   .rename_i n;obtain⟨v,b,c⟩:=u0 p h;exact⟨v,by rw[md,show(f == k)=false by simpa using λz=>n z.symm];exact b,c⟩
theorem pE:∀{v:List (Str×V)},(v.map (·.1)).contains f=false->v.lookup f=none
 | [],_=>rfl
 |(k,x)::r,h=>by simp only[aX,ua,Bool.or_eq_false_iff]at h;rw[md,h.1];exact pE h.2
theorem xW(h:RD K F H m u v):∀{s:List (Str×V)}{d:List D},fy K F H m d (s.map (·.2))->(hX f v s).map (·.1)=putK f (s.map (·.1))/\fy K F H m (rB f u (s.map (·.1)) d) ((hX f v s).map (·.2))
 | [],d,n=>⟨rfl,v,[],rfl,h,rfl⟩
 |(k,x)::r,d,n=>by
  cases d with
  |nil=>cases (show _=([]:List V) from n)
  |cons p d=>
   obtain⟨z,q,e,c,a⟩:=n;simp only[aX,tt]at e;obtain⟨rfl,rfl⟩:=e;by_cases b:k=f
   .simp only[hX,b,fW,aX,putK,rB];first|exact⟨rfl,v,_,rfl,h,a⟩|exact⟨trivial,v,_,rfl,h,a⟩
   .obtain⟨i,t⟩:=xW h a;simp only[hX,b,ig,aX,putK,rB];exact⟨by rw[i],x,_,rfl,c,t⟩
end
section
variable{X:Cx}{o e g:Expr}{f:Str}{E t j:Pos}{G I:EE}{A:Str->Str->Bool}{es:Ab}{fs:pK}
@[simp] def aM(A:Str->Str->Bool)(o:EE)(f:Str)(L:Lc)(S:aV):FK:=cY (o L S) λd h=>match d with
 | .ref i=>match h[i]? with
  |some (.ins c k s)=>if A c f=true then (fq f k s).map λz=>(z,h) else none
  |_=>none
 |_=>none
theorem Qn(B:Pe X.K A)(V:PE X o (tE X.K G))(M:attributeBase o f X.e (eval o X.e)=eval o X.e):PE X (.Attribute o f E) (tE X.K (aM A G f)):=(Ky V M).imp' λJ H Q Z=>by
 obtain⟨F,m,L,S,d,S',r,l,q,k⟩:=Z;obtain⟨x,u,y,q⟩:=ao q;refine⟨F,m,L,S,x,u,r,l,y,λv b m1 t s1 n p1=>?_⟩;cases x with
 |p w=>cases q
 |ref i=>
  obtain⟨a,rfl,R⟩:=p1;dsimp only at q;split at q
  .rename_i c ks g W;split at q
   .rename_i I;cases h:fq f ks g with
    |none=>rw[h]at q;cases q
    |some z=>rw[h]at q;cases q;obtain⟨C,j,s,P,D,rfl,rs⟩:=n.obj i a _ R W;obtain⟨C',e,N,T⟩:=B c f I;cases gM.inj P e;obtain⟨v,K,p3⟩:=u0 rs h;exact⟨a,C,j,s,v,rfl,D,N,T,K,k v b m1 t s1 n p3⟩
   .cases q
  .cases q
@[simp] def km(A:Str->Str->Bool)(o:EE)(f:Str)(v:EE)(L:Lc)(S:aV):GL:=cY (v L S) λy x=>cY (o L x) λd h=>match d with
 | .ref i=>match h[i]? with
  |some (.ins c k s)=>if (A c f && decide (k.length < 900))=true then some (.nx,L,h.set i (.ins c (putK f k) (rB f y k s))) else none
  |_=>none
 |_=>none
theorem MQ(hA:Pe X.K A)(ho:PE X o (tE X.K G))(hv:PE X g (tE X.K I))(h:swapsWith g (some (.Attribute o f t)) E.line X.e=pure false):PS X (.Assign [.Attribute o f t] g E) (jT X.K (km A G f I)):=(Km ho hv h).imp' λD J H hz=>by
 obtain⟨F,m,L,S,fl,L',S',r,l,q,k⟩:=hz;obtain⟨y,Q,e1,q⟩:=ao q;obtain⟨d,S2,e2,q⟩:=ao q;refine⟨F,m,L,S,y,Q,r,l,e1,λv Z m1 H1 M r1 p1=>?_⟩;refine⟨Z,m1,L,Q,d,S2,r1,l.mono M,e2,λx e P n N B p2=>?_⟩;cases d with
 |p w=>cases q
 |ref i=>
  obtain⟨a,rfl,K⟩:=p2;dsimp only at q;split at q
  .rename_i c ks ds h;split at q
   .rename_i j;rw[aE]at j;cases q;obtain⟨C,b,s,R,T,rfl,rs⟩:=B.obj i a _ K h;obtain⟨C',u,hc,hn⟩:=hA c f j.1;cases gM.inj R u;have hl:s.length < 1000:=by have:=bP j.2;rw[eH]at this;lia
    have V:∀W,n a≠some (.tup W):=λW z=>by rw[T]at z;cases z
    have st:Stp e P n e P (upd n a (.ins C b (hX f v s))):=jB B K h trivial V;obtain⟨i1,i2⟩:=xW (f:=f) (RD.mono st (RD.mono N p1)) (fy.mono st rs);exact⟨a,C,b,s,rfl,T,hc,hn,hl,k J e P _ (M.trans (N.trans st)) (B.set K h trivial V ⟨C,b,_,R,bc,i1,i2⟩) ((l.mono M).mono (N.trans st))⟩
   .cases q
  .cases q
@[simp] def aH(M:Str->Str->Option GF)(o:EE)(y:Str)(a:pK)(L:Lc)(S:aV):FK:=cY (o L S) λd h=>match d with
 | .ref i=>match h[i]? with
  |some (.ins c k _)=>match M c y with
   |some g=>if k.contains y=true then none else cY (a L h) λv x=>g (.ref i::v) x
   |none=>none
  |_=>none
 |_=>none
def PY(X:Cx)(M:Str->Str->Option GF):Prop:=∀c y g,M c y=some g->∃C k f d p,gM X.K c C/\Cls X.K C/\Meth X.K C y f/\FnOk X.p X.w X.K X.g X.b re k f d p (rz X.K g)/\Room k X.A/\Binds X.K d p []
variable{M:Str->Str->Option GF}{y:Str}
theorem su(hM:PY X M){t:TE}{ta:TA}(n:∀C k f b ps g,Cls X.K C->Meth X.K C y f->FnOk X.p X.w X.K X.g X.b re k f b ps (rz X.K g)->Room k X.A->Binds X.K b ps []->PE X e (Dc C y (rz X.K g) [] E0 (tE X.K G) (vX X.K fs))):PE X e (tE X.K (aH M G y fs)):=by
 intro B s J H Q I h;obtain⟨F,m,L,S,d,S',r,l,q,k⟩:=h;obtain⟨x,o,e1,q⟩:=ao q;cases x with
 |p w=>cases q
 |ref i=>
  dsimp only at q;split at q
  .rename_i c ks ds hs;split at q
   .rename_i g hg;split at q
    .cases q
    .rename_i hk;obtain⟨N,K,e2,q⟩:=ao q;obtain⟨C,kk,f,b,ps,ec,hc,hm,hF,hr,hb⟩:=hM c y g hg;refine n C kk f b ps g hc hm hF hr hb B s J H Q I ⟨F,m,L,S,.ref i,o,r,l,e1,λv R m1 H1 D A P=>?_⟩;obtain⟨a,rfl,j⟩:=id P;obtain⟨C',dx,z,u,hH,rfl,rs⟩:=A.obj i a _ j hs;cases gM.inj ec u;refine⟨a,dx,z,rfl,hH,pE (by simpa using hk),R,m1,L,o,N,K,A,l.mono D,e2,λxs T m2 Z E r2 p2=>?_⟩;show rz X.K g (V.ref a::(xs++[])) Z Q E0;rw[fj];exact⟨T,m2,.ref i::N,K,d,S',r2,⟨_,_,rfl,RD.mono E P,p2⟩,q,λv W m3 H3 s3 r3 p3=>k v W m3 H3 (D.trans (E.trans s3)) r3 p3⟩
   .cases q
  .cases q
theorem M8(x:PY X M)(n:PE X o (tE X.K G))(a:PA X (e::es) (vX X.K fs))(s:starEach (e::es) X.e=(false,eval e X.e)::starEach es X.e)(h:(backTo E (starEach es X.e)).any (·.1)=false)
  (p:eval (.Call (.Attribute o y j) (e::es) [] E) X.e=(do
   let v <- eval o X.e
   standAt j.atName
   let (f,first) <- holding [v] (getMethod v y u)
   callWith E f first (backTo E (starEach (e::es) X.e)) (backToKw E (keywordEach [] X.e)))) :
  PE X (.Call (.Attribute o y j) (e::es) [] E) (tE X.K (aH M G y fs)):=
 su (t:=tE X.K G) (ta:=vX X.K fs) x λC k f d q g c m F r b=>Ho n c m F r b .nil sf a s h p
theorem JF(i:PY X M)(B:PE X o (tE X.K G))
  (I:eval (.Call (.Attribute o y j) [] [] E) X.e=(do
   let u <- eval o X.e
   standAt j.atName
   let (f,first) <- holding [u] (getMethod u y pl)
   callWith E f first (backTo E (starEach [] X.e)) (backToKw E (keywordEach [] X.e)))) :
  PE X (.Call (.Attribute o y j) [] [] E) (tE X.K (aH M G y a')):=
 su (t:=tE X.K G) (ta:=vX X.K a') i λC k f fd ps g K A p D z=>(DJ B K A p D z .nil sf I).imp' λJ H Q h=>by obtain⟨F,m,L,S,d,n,r,l,q,k⟩:=h;refine⟨F,m,L,S,d,n,r,l,q,λv e R x s' Z V=>?_⟩;obtain⟨a,c,fs,rfl,w,P,s,T,L2,S2,ds,b,r2,l2,W,N⟩:=k v e R x s' Z V;cases W;exact⟨a,c,fs,rfl,w,P,N [] s T x .refl r2 rfl⟩
@[simp] def wY(g:GF)(c:Str)(a:pK)(L:Lc)(S:aV):FK:=cY (a L S) λv h=>match g (.ref h.length::v) (h++[.ins c [] []]) with
 |some (.p .non,x)=>some (.ref h.length,x)
 |_=>none
theorem M9{C f:Addr}{o:FuncData}{ps:LS}{k:Nat}{x:Str}{p:Pos}{g:GF}(M:Mk X.K C f)(G:FnOk X.p X.w X.K X.g X.b re k f o ps (rz X.K g))(hr:Room (k+1) X.A)(hg:Gl X x)(hm:X.g x=some (.ref C))(W:gM X.K x C)(hb:Binds X.K o ps [])
  (Z:PA X (e::es) (vX X.K fs)) (i:(x == ("__debug__":Str))=false) (he:starEach (e::es) X.e=(false,eval e X.e)::starEach es X.e) (z:(backTo E (starEach es X.e)).any (·.1)=false) :
  PE X (.Call (.Name x p) (e::es) [] E) (tE X.K (wY g x fs)):=
 (Hq M G hr hg hm hb .nil sf Z i he z).imp' λJ H Q hz=>by
  obtain⟨F,m,L,S,d,S',r,l,q,k⟩:=hz;obtain⟨D,t,R,q⟩:=ao q;refine⟨F,m,L,S,D,t,r,l,R,λxs s a b s1 K p1=>λy h hy w j=>?_⟩;split at q
  .rename_i _ S2 T;cases q;have P:Stp s a b s a (upd b h (.own y)):=jC w;have r2:Rel X.K s (upd b h (.own y)) a t:=K.new w;have u:upd b h (.own y) y=none:=by rw[aR (cI j)];exact hy
   have A:Stp s a (upd b h (.own y)) s (a++[y]) (upd (upd b h (.own y)) y (.ins C h [])):=kZ u;have r3:Rel X.K s (upd (upd b h (.own y)) y (.ins C h [])) (a++[y]) (t++[.ins x [] []]):=r2.own u ⟨C,h,[],W,bc,rfl,rfl⟩;rw[fj];have c:(a++[y])[t.length]? = some y:=by rw[<- K.len,iM (ar _)];simp
   refine⟨s,a++[y],.ref t.length::D,_,.p .non,_,r3,⟨_,_,rfl,⟨y,rfl,c⟩,fy.mono A (fy.mono P p1)⟩,T,λv I m4 N B r4 p4=>⟨p4,?_⟩⟩;refine k (.ref y) I m4 N (s1.trans (P.trans (A.trans B))) r4 ⟨y,rfl,?_⟩;obtain⟨n,V⟩:=B.pre;rw[V,fF (bX.mp c).1];exact c
  .cases q
end
theorem D7(h:attributeBase o y v (eval o v)=eval o v)(e:methodCallForm (r.length+([]:List Keyword).length) (backTo E (starEach r v)) (backToKw E (keywordEach [] v))=true)(l:(j.endLine == E.line)=true) :
  eval (.Call (.Attribute o y j) r [] E) v=(do
   let u <- eval o v
   standAt j.atName
   let (f,first) <- holding [u] (getMethod u y (do return (<- importBound o v).getD true))
   callWith E f first (backTo E (starEach r v)) (backToKw E (keywordEach [] v))):=by
 have x:methodCallPos true o v j E=pure E:=by unfold methodCallPos;rw[l];rfl
 have a:∀u,methodCall o y j E v u (r.length+([]:List Keyword).length) (backTo E (starEach r v)) (backToKw E (keywordEach [] v))=(do
   let (f,first) <- holding [u] (getMethod u y (do return (<- importBound o v).getD true))
   callWith E f first (backTo E (starEach r v)) (backToKw E (keywordEach [] v))):=λu=>by
  unfold methodCall;rw[e,x];rfl
 have s:eval (.Call (.Attribute o y j) r [] E) v=(do
  let u <- attributeBase o y v (eval o v)
  standAt j.atName
  methodCall o y j E v u (r.length+([]:List Keyword).length) (backTo E (starEach r v)) (backToKw E (keywordEach [] v))):=by rfl
 rw[s,h];simp only[a]
section
variable{X:Cx}{o e g:Expr}{f:Str}{E t h:Pos}{G:EE}{I:EV}{A:Str->Str->Bool}
def Bs(i:Nat)(v:EV):ES:=λL S=>match L[i]? with
 |some (some (.p (.int a)))=>cY (v L S) λy h=>match y with
  | .int b=>some (.nx,L.set i (some (.p (.int (a+b)))),h)
  |_=>none
 |_=>none
theorem P6(i:Nat)(N:X.N.Nodup)(h:PE X e (tV X.K I))(g:X.N[i]? = some x)(j:L2.Loc X.e.scope x)(u:X.fn x=true\/X.e.scope.names.lookup x=some .local):PS X (.AugAssign (.Name x t) .Add e E) (jT X.K (Bs i I)):=
 (Kn N g j h Ls u).imp' λD J H z=>by
  obtain⟨F,m,L,S,M,B,C,r,l,q,k⟩:=z;unfold Bs at q;split at q
  .rename_i a w;obtain⟨y,G,p,q⟩:=ao q;cases y with
   |int b=>cases q;obtain⟨A,d,K⟩:=l.at' i _ w;cases (show A=.int a from K);refine⟨_,d,F,m,L,S,_,_,r,l,p,λv s f n c P o=>?_⟩;cases (show v=.int b from o);exact⟨a,b,rfl,rfl,k _ s f n c P ((l.mono c).set (show RD X.K s n f (.p (.int (a+b))) (.int (a+b)) from rfl) i)⟩
   |_=>cases q
  .cases q
def nR(A:Str->Str->Bool)(o:EE)(f:Str)(v:EV):ES:=λL S=>cY (o L S) λd h=>match d with
 | .ref i=>match h[i]? with
  | some (.ins c m n)=>if A c f=true then (match fq f m n with
   |some (.p (.int a))=>cY (v L h) λy x=>match y,x[i]? with
    | .int b,some (.ins e k s)=>if (decide (e=c) && decide (k.length < 900))=true then some (.nx,L,x.set i (.ins c (putK f k) (rB f (.p (.int (a+b))) k s))) else none
    |_,_=>none
   |_=>none) else none
  |_=>none
 |_=>none
theorem MU(hA:Pe X.K A)(ho:PE X o (tE X.K G))(hv:PE X g (tV X.K I)):PS X (.AugAssign (.Attribute o f h) .Add g E) (jT X.K (nR A G f I)):=(Bu ho hv Lv).imp' λD J H hz=>by
 obtain⟨F,m,L,S,fl,L',S',r,l,q,k⟩:=hz;obtain⟨d,S1,e1,q⟩:=ao q;refine⟨F,m,L,S,d,S1,r,l,e1,λx F1 m1 H1 s1 r1 p1=>?_⟩;cases d with
 |p w=>cases q
 |ref i=>
  obtain⟨a,rfl,hm⟩:=id p1;dsimp only at q;split at q
  .rename_i c ks ds hs;split at q
   .rename_i ha;split at q
    .rename_i K el;obtain⟨y,S2,e2,q⟩:=ao q;obtain⟨C,dx,W,R,hH,rfl,rs⟩:=r1.obj i a _ hm hs;obtain⟨C',T,hc,hn⟩:=hA c f ha;cases gM.inj R T;obtain⟨v,e3,p3⟩:=u0 rs el;cases (show v=.int K from p3);refine⟨a,C,dx,W,_,rfl,hH,hc,hn,e3,F1,m1,L,S1,y,S2,r1,l.mono s1,e2,λu B N M s2 Z p2=>?_⟩;split at q
     .rename_i b c' ks' ds' j;split at q
      .rename_i n;rw[aE]at n;have e5:=bP n.1;subst e5;cases q;cases (show u=.int b from p2);obtain⟨a2,Q,t⟩:=RD.mono s2 p1;cases Q;obtain⟨C2,e,s,V,P,rfl,rs2⟩:=Z.obj i a _ t j;cases gM.inj R V;have hl:s.length < 1000:=by have:=bP n.2;rw[eH]at this;lia
       have nt:∀zs,M a≠some (.tup zs):=λzs z=>by rw[P]at z;cases z
       have st:Stp B N M B N (upd M a (.ins C e (hX f (.int (K+b)) s))):=jB Z t j trivial nt;obtain⟨i1,i2⟩:=xW (f:=f) (show RD X.K B (upd M a (.ins C e (hX f (.int (K+b)) s))) N (.p (.int (K+b))) (.int (K+b)) from rfl) (fy.mono st rs2);exact⟨K,b,rfl,rfl,e,s,P,hl,k J B N _ (s1.trans (s2.trans st)) (Z.set t j trivial nt ⟨C,e,_,R,bc,i1,i2⟩) ((l.mono s1).mono (s2.trans st))⟩
      .cases q
     .cases q
    .cases q
   .cases q
  .cases q
end
section
variable{X:Cx}{e:Expr}{es:Ab}{fs:jR}{p E:Pos}
noncomputable def n3:List P->Option P
 | [.int i]=>if decide (i.natAbs.log2 < 1920)=true then some (.str (toString i)) else none
 |_=>none
theorem Iw:fg X (.type "str") (rC X.K n3):=by
 intro B s J H b u Q I r h;obtain⟨F,n,d,f,e,q,k⟩:=h;unfold n3 at q;split at q
 .split at q
  .rename_i i a;cases q;obtain⟨x,rfl,p⟩:=G_ e;exact vw B s J H _ u Q I r ⟨i,by rw[show x=_ from p],bP a,k _ F H .refl rfl⟩
  .cases q
 .cases q
theorem M3(g:Gl X "str")(m:X.g "str"=none)(a:PA X (e::es) (vN X.K fs))
  (x:starEach (e::es) X.e=(false,eval e X.e)::starEach es X.e) (h:(backTo E (starEach es X.e)).any (·.1)=false):PE X (.Call (.Name "str" p) (e::es) [] E) (tV X.K (cU n3 fs)):=CO Iw g m Gs a (by decide) (by decide) x h
end
variable{F:Aa}{H:Hp}
theorem vZ:∀h:LS,dZ K F H (h.map .str) (h.map V.str)
 | []=>rfl
 |s::r=>⟨_,_,rfl,rfl,vZ r⟩
variable{k:SV}{x:Str}
theorem nM(s:LS)(m:k x=some (.ref a))(h:K.lookup a=some ⟨.type "tuple",none,.seq r n,u⟩)(z:r.size≤sizeLine)(v:bB (s.map V.str) r.toList):vK K k x (.tup (s.map .str)):=
 ⟨.ref a,.ref a,m,rfl,λF H=>⟨a,s.map V.str,rfl,.inr (.inr ⟨_,r,n,h,rfl,rfl,rfl,z,v⟩),vZ s⟩⟩
open PySem.W (KasT kas_sort kas_ask kas_item kat_run kat_snds kat_lt kat_kind KatTups KatLex kat_nil kat_cons kat_yes kat_no kat_one)
def KV(h:Heap)(d:P)(v:Value):Prop:=∃x i a o n t u,d=.tup [.str x,.int i]/\v=.ref a/\h.get? a=some o/\o.cls=.type "tuple"/\o.data=.seq #[.str x t,.int i u] n
section
variable{X:Cx}
theorem DT{P:Program}{w:World}{H:Hp}{h:Heap}{a:Addr}{o:HO}(x:du P w H h a o):∃u,h.get? a=some u:=by
 cases o with
 |lst s=>obtain⟨_,_,_,_,e⟩:=x;exact⟨_,e⟩
 |tup s=>obtain⟨_,_,_,_,e,_⟩:=x;exact⟨_,e⟩
 |dK k=>obtain⟨_,_,_,_,_,_,_,e,_⟩:=x;exact⟨_,e⟩
 |dT k=>obtain⟨_,_,_,_,_,_,_,e,_⟩:=x;exact⟨_,e⟩
 |set S n=>obtain⟨_,_,_,_,e,_⟩:=x;exact⟨_,e⟩
 |ins C d fs=>obtain⟨_,_,_,e,_⟩:=x;exact⟨_,e⟩
 |own y=>exact x
 |xd fs=>obtain⟨_,⟨_,_,_,e,_⟩,_⟩:=x;exact⟨_,e⟩
 |rng lo i=>obtain⟨_,_,_,e⟩:=x;exact⟨_,e⟩
 |frz b u=>exact⟨_,x.1⟩
 |tbl p=>exact⟨_,(show h.get? a=some _ from x)⟩
 |met f y=>exact⟨_,(show h.get? a=some _ from x)⟩
 |ext c=>exact x.2.1
theorem Lu{B:PN}{J:L2.St}{H:Hp}{s:Shared}{D:Addr}(I:Inv X B J H s)(h:s.heap.get? D=none):H D=none:=by
 cases q:H D with
 |none=>rfl
 |some v=>obtain⟨u,e⟩:=DT (I.h D v q);rw[h]at e;cases e
end
noncomputable def TV(K:FG)(e:Bool)(a:Addr):It:=if e=true then RZ K a else P0 K a
inductive tIOI(K:FG)(en:Bool)(fe:EE)(J:L2.St)(H:Hp)(R:It->Hp->Prop):Prop
 |mk (F:Aa) (m:List Addr) (L:Lc) (S:aV) (j:Nat) (S':aV) (ds:List D) (h0_:Rel K F H m S) (h1_:RL K F H m J L) (h2_:fe L S=some (.ref j,S')) (h3_:S'[j]? = some (.lst ds)) (h4_:∀a F' m' H',Stp F m H F' m' H'->Rel K F' H' m' S'->m'[j]? = some a->R (TV K en a) H'):tIOI K en fe J H R
section
variable{X:Cx}{E:Pos}
end
section
variable{X:Cx}{E:Pos}
theorem Bl{p:Program}{w:World}{A:Around}{E:VP}{s:Shared}{t l:Addr}{i:Array Value}{v u:Value}{lo x:Option Int}{Q:VP}(h:IsTup s.heap t i)(a:s.heap.IsSliceOf l v u .none)(b:IsPart v lo)(c:IsPart u x)
  (k:HT.eQ i.size 0 lo=0) (f:HT.eQ i.size i.size x=i.size) (q:Q (.ref t) s):wpAny (model p w) A (getItem (.ref t) (.ref l)) Q E s:=by
 have T:s.TypeIs (.ref l) "slice":=by obtain⟨o,e,n,_⟩:=a;exact⟨o,e,n⟩
 unfold getItem;try with_reducible refine iZ ?_
 first|refine ak (aP ?_)|skip
 refine ak (zU h.typeIs (by decide) ?_);refine ak (z5 (name:=Str.ofString "__getitem__") h.typeIs ju (zM ju h.typeIs y' ?_ (y_ _ _)));show wpAny _ _ (yA (.ref t) >>= _) _ _ s;refine ak (y7 h (ak (pv T ?_)));rw[ae (by decide)];refine ak (HT.jk a b c ?_);rw[k,f];have y:((((0:Nat):Int) == 0 && (1:Int) == 1 && (i.size-0) == i.size)=true):=by simp
 show wpAny _ _ (if ((((0:Nat):Int) == 0 && (1:Int) == 1 && (i.size-0) == i.size)=true) then _ else _) _ _ s;rw[ae y];refine ak (ak (pv h.typeIs ?_));refine aP ?_;rw[ae (by rfl)];first
  |exact ak (aP (aP ⟨_,rfl,aP q⟩))
  |exact ak (wpAny_rule (aP ⟨_,rfl,aP q⟩))
  |exact aP ⟨_,rfl,aP q⟩
theorem v5:IL X (λx lo n H Q=>∃a e,x=.ref a/\sS X.K H a e/\HT.eQ e.length 0 lo=0/\HT.eQ e.length e.length n=e.length/\Q (.ref a) H):=by
 intro B s J H x v w g lo n d Q I m b p u h;obtain⟨a,e,rfl,c,k,f,q⟩:=h;cases m;obtain⟨i,r,t,_⟩:=I.tuple c;have l:i.toArray.size=e.length:=by rw[cc];exact r.length.symm
 exact⟨"tuple",_,ju.lookup,t.typeIs,Bl t b p u (by rw[l];exact k) (by rw[l];exact f) ⟨.ref a,H,I,rfl,q⟩⟩
theorem Dk:IL X (λx lo e H Q=>∃z,x=.str z/\z.length≤sizeLine/\Q (.str (Txt.slice z lo e)) H):=by
 intro B s J H x v F K lo e S Q I y w g p h;obtain⟨z,rfl,m,q⟩:=h;obtain⟨t,rfl⟩:=y;refine⟨"str",_,PySem.F.slot_str_getitem.lookup,uo _ _ _,?_⟩;have f:∀lo e:Option Int,Q (.str (Txt.slice z lo e)) H->∀a k,EP X B J Q (.str (Txt.slice z lo e) a) { s with toks:=k }:=λlo e q a k=>⟨.str _,H,I.tok _,⟨a,rfl⟩,q⟩
 obtain⟨o,n,b,c⟩:=w;cases g with
 |none=>
  cases p with
  |none=>exact sX (l:=none) (u:=none) (st:=none) ⟨o,n,b,c⟩ rfl (sT ⟨ce (oH z _ _) m,λa k=>f _ _ q a k⟩)
  |int j r=>exact sX (l:=none) (u:=some (j,r)) (st:=none) ⟨o,n,b,c⟩ rfl (sT ⟨ce (oH z _ _) m,λa k=>f _ _ q a k⟩)
 |int i d=>
  cases p with
  |none=>exact sX (l:=some (i,d)) (u:=none) (st:=none) ⟨o,n,b,c⟩ rfl (sT ⟨ce (oH z _ _) m,λa k=>f _ _ q a k⟩)
  |int j r=>exact sX (l:=some (i,d)) (u:=some (j,r)) (st:=none) ⟨o,n,b,c⟩ rfl (sT ⟨ce (oH z _ _) m,λa k=>f _ _ q a k⟩)
def fC:P->Option Int->Option Int->Option P
 | .str x,lo,h=>if ka x.length=true then some (.str (Txt.slice x lo h)) else none
 | .tup s,lo,h=>some (.tup (cut s lo h))
 |x,lo,h=>Ud x lo h
@[simp] def gQ(a:EV)(lo n:EO)(L:Lc)(S:aV):tyV:=cY (a L S) λx h=>cY (lo L h) λi e=>cY (n L e) λj s=>(fC x i j).map λv=>(v,s)
theorem Qe{e:Expr}{lo M:Option Expr}{C:EV}{I G:EO}{E p2:Pos}(he:PE X e (tV X.K C))(hl:PO X lo (tO X.K I))(hh:PO X M (tO X.K G)):PE X (.Subscript e (.Slice lo M none p2) E) (tV X.K (gQ C I G)):=
 (wj ((Ao.or (Di.or v5)).or Dk) he hl hh).imp' λJ H Q hz=>by
  obtain⟨F,m,L,S,d,S',r,l,q,k⟩:=hz;obtain⟨x,B,W,q⟩:=ao q;obtain⟨i,D,Z,q⟩:=ao q;obtain⟨j,V,e3,q⟩:=ao q;refine⟨F,m,L,S,x,B,r,l,W,λv R m1 H1 o r1 p1=>?_⟩;refine⟨R,m1,L,B,i,D,r1,l.mono o,Z,λT m2 H2 K r2=>?_⟩;refine⟨T,m2,L,D,j,V,r2,(l.mono o).mono K,e3,λP f A N b=>?_⟩;have g:=RP.mono N (RP.mono K p1);have c:=o.trans (K.trans N);cases x with
  |lst u=>cases q;obtain⟨a,s,rfl,t,n⟩:=g;exact .inl (.inl ⟨a,s,rfl,t.sq,λp h=>k _ _ f _ (c.trans (cX h).stp) (b.grow (cX h)) (.newLst h (n.cut i j))⟩)
  |ro u=>cases q;obtain⟨a,s,rfl,t,n⟩:=g;exact .inl (.inl ⟨a,s,rfl,t.sq,λp h=>k _ _ f _ (c.trans (cX h).stp) (b.grow (cX h)) (.newLst h (n.cut i j))⟩)
  |tup u=>
   obtain⟨a,s,rfl,t,n⟩:=g;cases q;by_cases w:HT.eQ s.length 0 i=0/\HT.eQ s.length s.length j=s.length
   .have y:cut u i j=u:=by
     unfold cut;rw[n.length,w.1,w.2,ma,zH,<- n.length,t_]
    rw[y]at k;exact .inl (.inr (.inr ⟨a,s,rfl,t.sq,w.1,w.2,k _ P f A c b ⟨a,s,rfl,t,n⟩⟩))
   .exact .inl (.inr (.inl ⟨a,s,rfl,t.sq,w,λp h=>k _ _ f _ (c.trans (cG h).stp) (b.grow (cG h)) (.newTup h (n.cut i j))⟩))
  |str z=>
   cases (show v=.str z from g);simp only[fC]at q;split at q
   .rename_i y;cases q;exact .inr ⟨z,rfl,h7 y,k _ P f A c b rfl⟩
   .cases q
  |_=>cases q
def fK:List P->Option P
 | [.str x]=>if x.length≤640 then (nr x).map .int else none
 |s=>A7 s
theorem Fk:fg X (.type "int") (rC X.K fK):=by
 intro B s J H v b Q I r h;obtain⟨F,a,d,c,f,q,k⟩:=h;have o:A7 a=some d->wx X (call (.type "int") b) (EP X B J Q) X.xe s:=λq=>Iz B s J H v b Q I r ⟨F,a,d,c,f,q,k⟩
 unfold fK at q;split at q
 .rename_i x;split at q
  .rename_i l;cases e:nr x with
   |none=>rw[e]at q;cases q
   |some n=>rw[e]at q;cases q;obtain⟨y,rfl,p⟩:=G_ f;cases (show y=.str x from p);obtain⟨u,rfl,m⟩:=vals1 r;obtain⟨t,rfl⟩:=m;exact PySem.W.KIN.call_text e l ⟨.int n,H,I.tok _,⟨_,rfl⟩,k _ F H .refl rfl⟩
  .cases q
 .exact o q
variable{e:Expr}{es:Ab}{fs:jR}{p:Pos}
theorem JD(g:Gl X "int")(m:X.g "int"=none)(a:PA X (e::es) (vN X.K fs))(x:starEach (e::es) X.e=(false,eval e X.e)::starEach es X.e)(h:(backTo E (starEach es X.e)).any (·.1)=false) :
  PE X (.Call (.Name "int" p) (e::es) [] E) (tV X.K (cU fK fs)):=CO Fk g m zc a (by decide) (by decide) x h
inductive PEs(X:Cx):Ab->List EV->Prop
 |nil:PEs X [] []
 |cons {e es f fs}:PE X e (tV X.K f)->PEs X es fs->PEs X (e::es) (f::fs)
@[simp] def CZ(a b c:EV)(L:Lc)(S:aV):tyV:=cY (a L S) λd h=>cY (b L h) λy x=>cY (c L x) λz e=>match d with
 | .dct s v=>match ku y with
  |some k=>some ((gL k s v).getD z,e)
  |none=>none
 |_=>none
theorem r9:∀{k:List (fR×V)}{d:List P},dZ K F H d (k.map (·.2))->gL u (k.map (·.1)) d=none->jy k u=none
 | [],d,r,h=>rfl
 |(s,v)::k,[],r,h=>by have:=r.length;simp at this
 |(s,v)::k,b::d,r,h=>by
  obtain⟨x,m,e,p,n⟩:=r;rw[aX]at e;injection e with c f;simp only[aX,gL]at h;by_cases a:s=u
  .rw [ae a]at h;cases h
  .rw [ai a]at h;rw[<- f]at n;rw[ik (p:=(s,v)) a];exact r9 n h
theorem JE(hu:X.A.units+1 < cLine)(ho:PE X o (tV X.K G))(ha:PE X a (tV X.K C))(hb:PE X b (tV X.K N))(m:M2 X o "get" ap a b cp):PE X (.Call (.Attribute o "get" ap) [a,b] [] cp) (tV X.K (CZ G C N)):=
 (DO hu ho ha hb m).imp' λJ H Q hz=>by
  obtain⟨F,m,L,S,d,S',r,l,q,k⟩:=hz;obtain⟨x,P,W,q⟩:=ao q;obtain⟨y,A,Z,q⟩:=ao q;obtain⟨z,T,e3,q⟩:=ao q;refine⟨F,m,L,S,x,P,r,l,W,λv M m1 H1 j r1 p1=>?_⟩;cases x with
  |dct ks V=>
   obtain⟨a,s,rfl,g,B,ek,ra⟩:=id p1;refine⟨a,rfl,.inl ⟨s,.inl B⟩,?_⟩;refine⟨M,m1,L,P,y,A,r1,l.mono j,Z,λvy R m2 H2 f r2 p2=>?_⟩;refine⟨R,m2,L,A,z,T,r2,(l.mono j).mono f,e3,λvz K D t c E p3=>?_⟩;have h:t a=some (.dK s):=(f.trans c).frk _ _ g B;have e:=dZ.mono c (dZ.mono f ra);have py:=RP.mono c p2;dsimp only at q;split at q
   .rename_i i p;cases q;have u:=kt p py;subst u ek;have I:=j.trans (f.trans c);cases n:gL i (s.map (·.1)) V with
    |none=>have hm:=r9 e n;refine⟨none,by rw[<- hm];exact nk.k h,?_⟩;rw[n]at k;exact k vz K D t I E p3
    |some w=>obtain⟨v,h1,h2⟩:=nz e n;refine⟨some v,by rw[<- h1];exact nk.k h,?_⟩;rw[n]at k;exact k v K D t I E h2
   .cases q
  |_=>cases q
def Mr(w:World):List DictEntry->List (Str×P)->Prop
 | [],[]=>True
 |e::es,(k,p)::r=>(∃t,e.key=.str k t)/\e.hash=hashStr w k/\(∃v,RelV v e.val/\∀K F H,RP K F H p v)/\Mr w es r
 |_,_=>False
def IM(w:World)(K:FG)(k:SV)(x:Str)(v:List (Str×P)):Prop:=
 ∃a o es e,k x=some (.ref a)/\K.lookup a=some o/\o.ExactDict/\o.data=.dict es e/\Mr w es.toList v/\(v.map (·.1)).Nodup
theorem qQ:∀{es:List DictEntry}{s:List (Str×P)},Mr w es s->∃x:List (fR×Value),Pairs (cm Q w) es x/\x.map (·.1)=s.map (λp=>Sum.inr p.1) /\
  (∀k p,s.lookup k=some p->∃v u,valueAt x (Sum.inr k)=some u/\RelV v u/\∀K F H,RP K F H p v)/\∀e ∈ es,∃k,(cm Q w).is k e.key=true/\e.hash=(cm Q w).hash k
 | [],[],_=>⟨[],.nil,rfl,λk p z=>(by simp at z),λe z=>(by cases z)⟩
 | [],_::_,h=>h.elim
 |_::_,[],h=>h.elim
 |e::es,(k,p)::r,h=>by
  obtain⟨⟨t,m⟩,c,⟨v,A,y⟩,h⟩:=h;obtain⟨x,d,g,i,j⟩:=qQ (Q:=Q) h;have f:(cm Q w).is (.inr k) e.key=true:=by rw[m];exact kq Q w k t
  refine⟨(.inr k,e.val)::x,.cons f rfl d,by simp[g],λa l z=>?_,λb z=>?_⟩
  .by_cases n:a=k
   .subst n;rw[List.lookup_cons_self]at z;cases z;exact⟨v,e.val,by simp[valueAt],A,y⟩
   .rw [md,show(a == k)=false by simpa using n]at z;obtain⟨C,B,q,o,S⟩:=i a l z;refine⟨C,B,?_,o,S⟩;unfold valueAt at q ⊢;rw[jw];have:¬(Sum.inr k:fR)=Sum.inr a:=λz=>n (by cases z;rfl)
    simp only[this,decide_false];exact q
  .rcases ay.mp z with rfl|z
   .exact⟨.inr k,f,c⟩
   .exact j b z
theorem sh:∀{s:LS},s.Nodup->(s.map (Sum.inr:Str->fR)).Nodup
 | [],_=>by simp
 |x::s,h=>by rw[g8]at h;rw[aX,g8];refine⟨λz=>?_,sh h.2⟩;obtain⟨y,a,e⟩:=iJ.mp z;cases e;exact h.1 a
def n7(s:List (Str×P))(b:EV):EV:=λL S=>cY (b L S) λy h=>match y with
 | .str k=>(s.lookup k).map λv=>(v,h)
 |_=>none
theorem M0(hg:Gl X x)(ht:IM X.w X.K X.g x kvs)(hd:(x == ("__debug__":Str))=false)(hb:PE X b (tV X.K N))(c:nh b):PE X (.Subscript (.Name x p) b E) (tV X.K (n7 kvs N)):=by
 obtain⟨a,o,es,R,hm,hk,j,M,ge,nd⟩:=ht;obtain⟨vs,T,V,W,Z⟩:=qQ (Q:=X.p) ge;have ix:FH X (λx y H Q=>∃k p,x=.ref a/\y=.str k/\kvs.lookup k=some p/\∀v,(∀K F H,RP K F H p v)->Q v H):=by
  intro g i B s J H x y v u Q I rx ry h c;obtain⟨k,p,rfl,rfl,hl,q⟩:=h;cases rx;obtain⟨t,rfl⟩:=ry;obtain⟨v,u,n,rv,w⟩:=W k p hl;have P:=I.kIn a o hk;have G:s.heap.DictOf (cm X.p X.w) a vs:=by refine⟨o,es,R,P,j,M,λe he=>Z e (by simpa using he),T,?_⟩;rw[V,show(kvs.map λp=>(Sum.inr p.1:fR))=(kvs.map (·.1)).map Sum.inr by rw[t6];rfl];exact sh nd
  exact oY ⟨o,P,j.1⟩ zQ.lookup (zO (knd:=cm X.p X.w) (kq X.p X.w k t) G.mapOf n ⟨v,H,I.tok _,rv,q v w⟩) c
 exact(DM ix (uR (v:=.ref a) hg hm rfl hd) hb c).imp' λJ H Q hz=>by
  obtain⟨F,m,L,S,d,S',r,l,q,k⟩:=hz;obtain⟨y,D,n,q⟩:=ao q;refine⟨F,m,L,S,y,D,r,l,n,λv A m1 C s1 r1 p1=>?_⟩;cases y with
  |str z=>
   dsimp only at q;cases f:kvs.lookup z with
   |none=>rw[f]at q;cases q
   |some pp=>rw[f]at q;cases q;exact⟨z,_,rfl,p1,f,λv w=>k v A m1 C s1 r1 (w _ _ _)⟩
  |_=>cases q
end
noncomputable def GW:List fR->List P->Option (List (Str×P))
 | [],[]=>some []
 | .inr k::s,v::h=>(GW s h).map λr=>(k,v)::r
 |_,_=>none
noncomputable def Er:P->Bool
 | .dct _ _=>true
 |_=>false
def iY(w:World)(K:FG)(k:SV)(x:Str)(v:P):Prop:=(Er v=false->vK K k x v)/\∀h a,v=.dct h a->∃s,GW h a=some s/\IM w K k x s
variable{w:World}
theorem iY.plain(h:vK K k x v)(a:Er v=false):iY w K k x v:=⟨λ_=>h,λs n e=>by subst e;cases a⟩
theorem iY.tab(e:GW r u=some v)(h:IM w K k x v):iY w K k x (.dct r u):=⟨(λz=>nomatch z),λs a z=>by cases z;exact⟨v,e,h⟩⟩
section
variable{X:Cx}
variable{e:Expr}{es:Ab}{fs:jR}{p E:Pos}
end
end Ev
namespace Ev
open PySem PySem.Spec PyProof.Rows L2
section
variable{X:Cx}{a k:Pos}{o x:Expr}{b:Ab}{n:EE}{c:jR}{m:EV}
end
section
variable{X:Cx}{o e f:Expr}{r t:Pos}{n p:EE}{q:EV}
end
end Ev
namespace PySem
open PySem PyProof.Rows
section
variable{prog:Program}{w:World}{A:Around}{E:VP}{s:Shared}
end
section
variable{prog:Program}{w:World}{A:Around}{E:VP}{s:Shared}
structure ZAp(d z TI TO i1 i2 l1 l2:Addr):Prop where
 nd:[d,z,TI,TO,i1,i2].Nodup
 l1n:l1 ∉ [d,z,TI,TO,i1,i2]
 l2n:l2 ∉ [d,z,TI,TO,i1,i2]
end
section
variable{prog:Program}{w:World}{K:Type}[DecidableEq K]{h:KeyKind prog w K}{A:Around}{E:VP}{R:Result->Shared->Prop}
inductive ZipsAt(knd:KeyKind prog w K):LV->LV->List (K×Value)->Prop
 |nil {vs:LV}:ZipsAt knd [] vs []
 |cons {key v:Value}{k:K}{us vs:LV}{kvs:List (K×Value)}:knd.is k key=true->ZipsAt knd us vs kvs->ZipsAt knd (key::us) (v::vs) ((k,v)::kvs)
end
end PySem
namespace Ev
open PySem PySem.Spec PyProof.Rows L2
end Ev
namespace Kd
open PySem
open Sem (wp)
structure Fix(o' o:Obj):Prop where
 dict:o'.dict=o.dict
 cls:o'.cls=o.cls
 live:o.isFreed=false->o'.isFreed=false
 two:∀vs,o.data=.fields vs->∃vs',o'.data=.fields vs'/\vs'[2]? = vs[2]?
 sl:(∀vs,o.data≠.fields vs)->∃sl,o'={ o with slots:=sl }
variable{o:Obj}
theorem Fix.refl:Fix o o:=⟨rfl,rfl,id,λvs e=>⟨vs,e,rfl⟩,λ_=>⟨o.slots,rfl⟩⟩
theorem Fix.trans (y:Fix b k) (x:Fix k o):Fix b o:=⟨y.dict.trans x.dict,y.cls.trans x.cls,fun h=>y.live (x.live h),fun vs e=>by
 obtain⟨v1,a,q⟩:=x.two vs e;obtain⟨v2,s,f⟩:=y.two v1 a;exact⟨v2,s,f.trans q⟩,λn=>by
 obtain⟨m,a⟩:=x.sl n;obtain⟨c,s⟩:=y.sl (by rw[a];exact n);exact⟨c,by rw[s,a]⟩⟩
inductive Kp{α:Type}:Sem α->Prop
 |pure (a:α):Kp (.pure a)
 |raise (e:Value):Kp (.raise e)
 |unsupported (w:String):Kp (.unsupported w)
 |finish (e:Ending):Kp (.finish e)
 |rule {t k}:(∀x,Kp (k x))->Kp (.rule t k)
 |at {p k}:(∀x,Kp (k x))->Kp (.at p k)
 |load {a p k}:(∀x,Kp (k x))->Kp (.load a p k)
 |update {a p f k}:(∀o,Fix (f o) o)->(∀x,Kp (k x))->Kp (.update a p f k)
 |alloc {o k}:(∀x,Kp (k x))->Kp (.alloc o k)
 |loadIfAlive {a k}:(∀x,Kp (k x))->Kp (.loadIfAlive a k)
 |point {l k}:(∀x,Kp (k x))->Kp (.point l k)
 |fresh {k}:(∀x,Kp (k x))->Kp (.fresh k)
 |ask {k}:(∀x,Kp (k x))->Kp (.ask k)
 |handled {o k}:(∀x,Kp (k x))->Kp (.handled o k)
 |stack {k}:(∀x,Kp (k x))->Kp (.stack k)
 |thread {k}:(∀x,Kp (k x))->Kp (.thread k)
variable{α:Type}{t:Sem α}
theorem Kp.bind(h:Kp t)(g:∀a,Kp (f a)):Kp (t >>= f):=by
 show Kp (Sem.bind t f);induction h with
 |pure a=>exact g a
 |raise e=>exact .raise e
 |unsupported w=>exact .unsupported w
 |finish e=>exact .finish e
 |rule _ i=>exact .rule i
 | «at» _ i=>exact .at i
 |load _ i=>exact .load i
 |update q _ i=>exact .update q i
 |alloc _ i=>exact .alloc i
 |loadIfAlive _ i=>exact .loadIfAlive i
 |point _ i=>exact .point i
 |fresh _ i=>exact .fresh i
 |ask _ i=>exact .ask i
 |handled _ i=>exact .handled i
 |stack _ i=>exact .stack i
 |thread _ i=>exact .thread i
def DK(h a:Heap):Prop:=∀b o,h.get? b=some o->∃x,a.get? b=some x/\Fix x o
variable{h:Heap}
theorem DK.refl:DK h h:=λb o e=>⟨o,e,.refl⟩
theorem DK.trans(x:DK h k)(y:DK k c):DK h c:=λb o e=>by obtain⟨n,a,f⟩:=x b o e;obtain⟨m,s,f2⟩:=y b n a;exact⟨m,s,f2.trans f⟩
theorem DK.push:DK h (h.push o):=λb u e=>⟨u,cv _ e,.refl⟩
theorem DK.up(x:DK h k):h.UpToSlots k:=λb o e n=>by obtain⟨c,a,f⟩:=x b o e;obtain⟨s,q⟩:=f.sl n;exact⟨s,by rw[a,q]⟩
theorem alive(e:h.get? a=some o):o.isFreed=false:=(CH.mp e).2
theorem DK.upd(q:∀o,Fix (f o) o):DK h (h.update a f):=λb o e=>by
 by_cases x:b=a
 .subst x;exact⟨f o,CI _ e ((q o).live (alive e)),q o⟩
 .exact⟨o,by rw[uf _ _ (cI x)];exact e,.refl⟩
theorem Kp.wp(h:Kp t):∀{Q:α->Pos->Shared->Prop}{E:Value->Pos->Shared->Prop}{p:Pos}{s:Shared},Sem.wp M b t Q E p s->Sem.wp M b t (λa k n=>Q a k n/\DK s.heap n.heap) (λe k n=>E e k n/\DK s.heap n.heap) p s:=by
 induction h with
 |pure a=>intro Q E p s x;exact⟨x,.refl⟩
 |raise e=>intro Q E p s x;exact⟨x,.refl⟩
 |unsupported w=>intro Q E p s x;exact x
 |finish e=>intro Q E p s x;exact x
 |rule _ i=>intro Q E p s x;exact i _ x
 | «at» _ i=>intro Q E p s x;exact i _ x
 |load _ i=>intro Q E p s x;obtain⟨o,e,x⟩:=x;exact⟨o,e,i _ x⟩
 |update q _ i=>intro Q E p s x;obtain⟨e,x⟩:=x;refine⟨e,?_⟩;refine Sem.wp_mono _ _ _ (λa k n z=>⟨z.1,(DK.upd q).trans z.2⟩) (λa k n z=>⟨z.1,(DK.upd q).trans z.2⟩) _ _ (i () x)
 |alloc _ i=>intro Q E p s x;exact Sem.wp_mono _ _ _ (λa k n z=>⟨z.1,DK.push.trans z.2⟩) (λa k n z=>⟨z.1,DK.push.trans z.2⟩) _ _ (i _ x)
 |loadIfAlive _ i=>intro Q E p s x;exact i _ x
 |point _ i=>intro Q E p s x;exact i _ x
 |fresh _ i=>intro Q E p s x;exact i _ x
 |ask _ i=>intro Q E p s x;exact i _ x
 |handled _ i=>intro Q E p s x;exact i _ x
 |stack _ i=>intro Q E p s x;exact i _ x
 |thread _ i=>intro Q E p s x;exact i _ x
theorem Kp.wpAny(h:Kp t)(x:zS M A t k E s):zS M A t (λa n=>k a n/\DK s.heap n.heap) (λe n=>E e n/\DK s.heap n.heap) s:=λf p g=>h.wp (x f p g)
theorem mf(h:k≠2)(x:Value)(o:Obj):Fix (Obj.mapFields (·.setIfInBounds k x) o) o:=by
 unfold Obj.mapFields;split
 .exact⟨rfl,rfl,λ_=>rfl,λvs e=>by cases e;exact⟨_,rfl,by rw[Array.getElem?_setIfInBounds_ne h]⟩,λn=>absurd rfl (n _)⟩
 .exact .refl
theorem ya(a:Addr):Kp (PySem.load a):=.load λx=>.pure x
theorem yb(v:Value):Kp (fieldsOf v):=by
 unfold fieldsOf;split
 .refine .bind (ya _) λo=>?_;split
  .exact .pure _
  .exact .unsupported _
 .exact .unsupported _
theorem pG(v:Value)(i:Nat):Kp (field v i):=by
 unfold field;refine .bind (yb v) λvs=>?_
 split
 .exact .pure _
 .exact .unsupported _
theorem lO(v:Value)(h:k≠2)(x:Value):Kp (setField v k x):=by
 unfold setField;split
 .unfold updateField;refine .bind (ya _) λo=>?_
  split
  .split
   .exact .update (mf h _) λx=>.pure x
   .exact .unsupported _
  .exact .unsupported _
 .exact .unsupported _
theorem kv(e:Value)(f:Option Addr):Kp (setFlight e f):=by
 unfold setFlight;refine .bind (pG _ _) λt=>?_
 split
 .exact lO _ (by decide) _
 .exact .pure _
theorem AK:∀l:List Env,Kp (readyFrames l)
 | []=>.pure ()
 |n::u=>by
  unfold readyFrames;split
  .refine .bind (ya _) λo=>?_;split
   .exact .pure _
   .refine .bind ?_ λb=>.bind ?_ λc=>?_
    .unfold behindIsImport;split
     .exact .pure _
     .split
      .exact .pure _
      .exact .bind (pG _ _) λx=>.pure _
    .unfold keptBack;split
     .split
      .exact .pure _
      .exact .bind (.bind (.stack λx=>.pure x) λ_=>.pure _) λ_=>.pure _
     .exact .pure _
    .exact .bind (.update (λo=>⟨rfl,rfl,λh=>by obtain⟨c,d,t,s⟩:=o;cases t<;>first|exact h|rfl,λvs e=>⟨vs,e,rfl⟩,λ_=>⟨_,rfl⟩⟩) λx=>.pure x) λ_=>AK u
  .exact .unsupported _
theorem BI(e:Env):Kp (frameOf e):=by
 unfold frameOf;refine .bind (.bind (.stack λx=>.pure x) λ_=>.pure _) λl=>.bind ?_ λz=>?_
 .unfold frameObject;split
  .exact .pure _
  .exact .bind (AK _) λ_=>.pure _
 .split
  .exact .pure _
  .exact .unsupported _
theorem nV(e:Value)(n:Env):Kp (noteFrame e n):=by
 unfold noteFrame;have t:∀(h:Value)(f:Addr),Kp (do setField e 1 (<- EntryCells.newEntry h (<- frameOf n) .none (rawInt f) .none (<- entryPlaceOf f (h != .none)))):=λh f=>by
  refine .bind (BI n) λr=>.bind ?_ λp=>.bind ?_ λs=>lO _ (by decide) _
  .unfold entryPlaceOf;refine .bind (.stack λx=>.pure x) λa=>?_
   split<;>exact .pure _
  .unfold EntryCells.newEntry newFields;generalize List.toArray _=vs;unfold newObj;dsimp only;have w:∀d,Kp (newObjAsIs (.type "traceback") d):=λd=>.bind (.alloc λx=>.pure x) λ_=>.pure _
   split
   .exact .bind (.unsupported _) λ_=>w _
   .exact w _
 split
 .refine .bind (pG _ _) λh=>?_;split
  .refine .bind (pG _ _) λz=>?_;split
   .exact .pure _
   .exact .bind (lO _ (by decide) _) λ_=>t _ _
  .exact t _ _
 .exact .unsupported _
theorem sC(n:Env)(e:Value):Kp (leaving n e):=.bind (nV e n) λ_=>kv e none
end Kd
set_option tactic.hygienic false
namespace Kx
open PySem PySem.W PySem.Builtin PySem.Builtin.ObjectAttr
noncomputable def uV:LV->Bool
 | .ref _::r=>uV r
 |l=>l == [.type "ValueError",.type "Exception",.type "BaseException",.type "object"]
theorem wq(s:Value):∀{l:LV},uV l=true->refuseLoop s "__setattr__" l=pure ()/\l.contains (.type "object")=true/\l.isEmpty=false:=by
 intro l e;induction l with
 |nil=>cases e
 |cons c r i=>
  by_cases q:∃a,c=.ref a
  .obtain⟨a,rfl⟩:=q;obtain⟨x,n,_⟩:=i e;exact⟨by rw[refuseLoop_ref];exact x,by rw[ua,n,tM],rfl⟩
  .have h:(c::r)=[.type "ValueError",.type "Exception",.type "BaseException",.type "object"]:=by
    cases c with
    |ref a=>exact absurd ⟨a,rfl⟩ q
    |_=>exact eq_of_beq e
   rw[h];exact⟨PySem.F.store_ValueError.passes s,by decide +kernel,rfl⟩
section
variable{Pg:Program}{w:World}{A:Around}{Ex:VP}{u:Shared}{K:Frag}{x C:Addr}{R:Result->Shared->Prop}{m:Str}{v:Value}{tk:Tok}
theorem Bq(X:K.In u.heap)(i:u.heap.get? x=some N)(l:N.cls=.ref C)(Q:notCls N=true)(M:N.dict=none)(B:clsIn K C=some cd)(g:cd.hasDict=true)(ho:uV cd.mro=true)
  (hs:findIn K (.ref C) "__setattr__"=some (some (.builtin "object.__setattr__"))) (ha:findIn K (.ref C) m=some none)
  (h:∀H I,H.get? x=some { N with dict:=some u.heap.objs.size }->H.Ns1 u.heap.objs.size (λy=>if y=m then some v else none)->(∀b o,b≠x->u.heap.get? b=some o->H.get? b=some o)->k () { u with heap:=H,toks:=I }) :
  wpAny (model Pg w) A (setAttr (.ref x) m v) k Ex u:=by
 obtain⟨c0,d0,p,E⟩:=N;dsimp only at l M;subst l M;have O3:InstAt u.heap x ⟨.ref C,none,p,E⟩ C none:=⟨i,rfl,Q,trivial⟩;have G:=PySem.F.store_object;obtain⟨p1,p2,p3⟩:=wq (.ref x) ho;have mo:Looks (model Pg w) u.heap (mroOf (.ref C)) cd.mro:=(xl X B).andThen .now;refine Ck X O3 hs (sW G.slot.plain G.entry (@check_slot (model Pg w) _ _ { u with toks:=u.toks+1 } "object.__setattr__" "object" "__setattr__" (.ref x) [.str m u.toks,v] [] _ G.kind G.split
  (O3.type.andThen (sZ X (by unfold mroIn;rw[B,gA,ai (by rw[p3];decide),p2]))) (G.args (.ref x) (.str m u.toks) v) ?_))
 rw [osa_eq,refuse_eq];refine ak (ak (O3.type.here (s:={ u with toks:=u.toks+1 }) (ak (oQ (s:={ u with toks:=u.toks+1 }) mo ?_))));rw [p1];refine aP (ak (O3.type.here (s:={ u with toks:=u.toks+1 }) (ak (oQ (s:={ u with toks:=u.toks+1 }) (lF X ha) (ak (aP ?_))))));have R:(u.heap.push { cls:=.type "dict",data:=.dict #[] }).get? x=some ⟨.ref C,none,p,E⟩:=cv _ i;have T:x≠u.heap.objs.size:=cx (bC i);refine ak (aP (ak (ak (zJ i (ak (oQ (s:={ u with toks:=u.toks+1 }) (xl X B) ?_))))));rw [g];have j:=(CH.mp i).2;have z:wpAny (model Pg w) A.in1 (do
   let d <- alloc { cls:=Value.type "dict",data:=Data.dict #[] }
   update x λo=>{ cls:=o.cls,dict:=some d,data:=o.data,slots:=o.slots }
   dictMade (Value.ref C) x d) (fun a n=>wpAny (model Pg w) A.in1 (match a with
     |some d=>storeInDict d (Value.str m u.toks) m v
     |none=>noDictFor (Value.ref x) (Value.ref C) m false) (λF n=>match F with
      |Fin.done f=>match (Except.ok f:Result) with
       |Except.ok (Flow.ret v)=>k () n
       |Except.ok a=>False
       |Except.error e=>Ex e n
      | Fin.again L=>L.quiet=true/\codeAny (model Pg w) A L (fun r n=>match r with
        |Except.ok (Flow.ret v)=>k () n
        |Except.ok a=>False
        |Except.error e=>Ex e n) n) (λe n=>Ex e n) n) (λe n=>Ex e n) { u with toks:=u.toks+1 }:=by
  refine ak (wpAny_alloc' (ak (wpAny_update' R (ak (aP (aP ?_))))));generalize D:(u.heap.push { cls:=Value.type "dict",data:=Data.dict #[] }).update x (λo=>{ cls:=o.cls,dict:=some u.heap.objs.size,data:=o.data,slots:=o.slots })=q;have V:q.get? u.heap.objs.size=some { cls:=.type "dict",data:=.dict #[] }:=by rw[<- D,uf _ _ T];exact gy _ rfl
  have W:q.get? x=some ⟨.ref C,some u.heap.objs.size,p,E⟩:=by rw[<- D];exact CI _ R (by cases p<;>first|rfl|exact j)
  have Z:∀b o,b≠x->u.heap.get? b=some o->q.get? b=some o:=λb o P e=>by rw[<- D,uf _ _ (cI P)];exact cv _ e
  have S:q.Ns u.heap.objs.size (λ_=>none):=⟨_,#[],_,V,rfl,λe he=>absurd he (by simp),λ_=>rfl⟩;show wpAny _ _ (storeInDict u.heap.objs.size (.str m u.toks) m v) _ _ { u with heap:=q,toks:=u.toks+1 }
  delta storeInDict newKeyGuard
  refine ak (aP (ak (wpAny_nsSet1 (Heap.Ns1.of_empty S) λh3 t same=>?_)));obtain⟨oD,esD,epD,q1,q2,q3⟩:=t.count (Within.cons m v Within.nil);refine ak (zP q1 (by rw[q2];exact zK (ce q3 (by rw[aA,eI,ml];lia))) ?_);exact aP (h h3 _ ((same.2 x T).trans W) t λb o P e=>(same.2 b (cx (bC e))).trans (Z b o P e))
 cases p with
 |cls c=>cases Q
 |_=>exact z
theorem BR(s:findIn K (.ref C) "__getattribute__"=some (some (.builtin "BaseException.__getattribute__")))(h:findIn K (.ref C) "__getattr__"=some none)(a:mroIn K C (.type "BaseException")=some true)
  (i:K.In u.heap) (I:InstAt u.heap x N C (some od)) (H:findObj K C (some od) m=some (.value v)) (S:handedIn v=true) (z:k v { u with toks:=u.toks+1 }):wpAny (model Pg w) A (getAttr (.ref x) m c) k Ex u:=by
 have T:Looks (model Pg w) u.heap (typeOf (.ref x)) (.ref C):=I.type;have f:=sZ (M:=model Pg w) i a;have b:=lF (M:=model Pg w) i s;have n:=lF (M:=model Pg w) i h;have j:=looks_find (M:=model Pg w) i I H;have q:∀B:Around,∀tk:Tok,∀y:Shared,y.heap=u.heap->codeAny (model Pg w) B (.call (.builtin "BaseException.__getattribute__") ⟨[.ref x,.str m tk],[]⟩) (λr G=>r=.ok (.ret v)/\G=y) y:=λB tk y F=>by
  obtain⟨p,g,d,t,os⟩:=y;cases (show p=u.heap from F);have P:builtinKind "BaseException.__getattribute__"=some .slot:=by decide +kernel
  have E:splitId "BaseException.__getattribute__"=some ("BaseException","__getattribute__"):=by decide +kernel
  refine sW (by decide +kernel) yJ ?_;have l:=yI (.ref x) (.str m tk);simp only[checkBuiltinCall,P,E,isInstance];refine ak (ak (T.at (f.at ?_)));simp only[y0,g7,ig];refine wpAny_of_eq l ?_;refine ak (aP (ak (aP (ak (T.at (ak (j.at ?_)))))));exact aP ⟨rfl,rfl⟩
 obtain⟨p,g,d,t,os⟩:=u;simp only[getAttr,getAttrBy];refine ak (wpAny_mkText (iZ (ak (T.at (ak (b.at ?_))))));have o:(onTheHeap (Value.ref C) && Value.builtin "BaseException.__getattribute__" == Value.builtin "object.__getattribute__")=false:=by rw[show(Value.builtin "BaseException.__getattribute__" == Value.builtin "object.__getattribute__")=false by decide +kernel];rfl
 simp only[o,getAttrByItsOwn,hookBefore,g7,ig];refine ak (wpAny_ite ?_);rw[ae (show onTheHeap (Value.ref C)=true from rfl)];refine n.at (ak (uv (iZ ?_)));have bound:=yR.ga.bind (.ref x);have D:(c && onTheHeap (Value.builtin "BaseException.__getattribute__"))=false:=by cases c<;>rfl
 simp only[callGetattribute,boundAndCalled,D,g7,ig,bound];refine ak (aP (jr (js (q A t ⟨p,g,d,t+1,os⟩ rfl) λr y e=>?_)));obtain⟨rfl,rfl⟩:=e;exact Cj S z
end
open PySem PySem.W
noncomputable abbrev HD:LV:=[.type "ValueError",.type "Exception",.type "BaseException",.type "object"]
def XO(o:Obj)(C N:Addr)(t:LV):Prop:=∃m q bs h f sub a c d k x e s n,o=excClassObj m q C N bs t h f sub a c d k x e s n "ValueError.__new__"
structure XH(h:Heap)(C N fI:Addr)(tl:LV)(mp:SV)(o oI:Obj):Prop where
 shape:XO o C N tl
 lies:h.get? C=some o
 under:OwnTail h HD tl
 names:h.Ns N mp
 init:mp "__init__"=some (.ref fI)
 code:h.get? fI=some oI
 fn:oI.cls=.type "function"
theorem BF(q:XH u.heap C N fI tl mp o oI)(hz:vs.length≤sizeLine)
  (go:∀h' e,xz u.heap h' e (.ref C) vs->wpAny (model Pg w) A (call (.ref fI) (.ref e::vs)) (λr u'=>r=.none/\R (.done (.ret (.ref e))) u') Ex { u with heap:=h' }) :
  wpAny (model Pg w) A (Builtin.«type.__call__» ⟨.ref C::vs,[]⟩) R Ex u:=by
 obtain⟨h,gs,dr,tk,os⟩:=u;obtain⟨⟨nm,qn,bs,hd,sn,sub,ab,col,dd,k0,k1,k2,k3,k5,rfl⟩,lies,under,names,init,code,fn⟩:=q;have F:=yQ;repeat (first|with_reducible refine pM lies ?_|with_reducible refine wpAny_madeBy_exc lies ?_|wp_step)
 refine codeAny_call_builtin_code (tL _ F.quiet) (wpAny_check_new_subT F under lies (codeAny_exc_new_subT F under lies ?_ hz));show wpAny _ _ _ _ _ _;generalize hg:(h.push { cls:=.type "tuple",data:=.seq vs.toArray }).push { cls:=.ref C,data:=.fields #[.ref h.objs.size,.none,.none,.none,.bool false,.none] }=h2;have kp:∀b x,h.get? b=some x->h2.get? b=some x:=λb x e=>by rw[<- hg];exact cv _ (cv _ e)
 have new:h2.get? (h.objs.size+1)=some { cls:=.ref C,data:=.fields #[.ref h.objs.size,.none,.none,.none,.bool false,.none] }:=by rw[<- hg];heap_get
 have tup:h2.get? h.objs.size=some { cls:=.type "tuple",data:=.seq vs.toArray }:=by rw[<- hg];exact cv _ (Heap.get?_push_at rfl rfl)
 have l2:=kp _ _ lies;have self:(Value.ref C::tl).contains (.ref C)=true:=by simp
 unfold isInstance;repeat (first|with_reducible refine pM new ?_|(with_reducible refine zW l2 ?_;rw[self])|wp_step)
 show wpAny _ _ (typeLookup _ _) _ _ _;refine wpAny_typeLookup_tail l2 (names.keeps kp) (under.keeps kp) F.mroIs F.init.lookup ?_;rw[init];refine iZ (ak ?_);unfold bindSpecial;refine ak (pv (T:="function") ⟨_,kp _ _ code,fn⟩ ?_);rw[ae (by decide)];refine aP (ak (bK (go h2 (h.objs.size+1) ⟨kp,xB (uh _),h.objs.size,new,xB (ar _),tup⟩) (λr u' hr=>?_) λ_ _ x=>x));obtain⟨rfl,hQ⟩:=hr
 wp_walk
 exact hQ
end Kx
namespace PySem
end PySem
set_option tactic.hygienic true
namespace Kx
open PySem PySem.W
theorem BS(plain:(backTo c (starEach k b)).any (·.1)=false)
  (h:wpAny (model Pg w) A (eval (.Name x np) b) (fun f p=>f=.ref C/\wpAny (model Pg w) A (evalArgs (.ref C) true (backTo c (starEach k b)) []) (fun a s=>a.kw=[]/\a.pos.length≤sizeLine/\XH s.heap C N fI tl mp o oI /\
   ∀n e,xz s.heap n e (.ref C) a.pos->wpAny (model Pg w) (A.under (.builtin "type.__call__" ⟨.ref C::a.pos,[]⟩)) (call (.ref fI) (.ref e::a.pos)) (λr t=>r=.none/\R (.ref e) t) Ex { s with heap:=n }) Ex p) Ex u) :
  wpAny (model Pg w) A (eval (.Call (.Name x np) k [] c) b) R Ex u:=by
 refine wpAny_Call_ofName (bK h (λf p z=>?_) λ_ _ x=>x);obtain⟨rfl,z⟩:=z;unfold callWith;refine ak (iZ (bK z (λa s F=>ak (pL ?_)) λ_ _ x=>x));obtain⟨vs,H⟩:=a;obtain⟨rfl,y,q,g⟩:=(show H=[]/\_ from F);have S:=q;obtain⟨⟨Q,V,bs,D,W,sub,K,v,P,E,G,I,L,M,rfl⟩,l,_⟩:=q;obtain⟨j,i,d,tk,os⟩:=s;simp only[plain];refine ak (wpAny_keeperOf_exc l (ak ?_));have B:=tc_lookup;have f2:=tc_bind (.ref C);have T:(⟨j,i,d,tk,os⟩:Shared).TypeIs (.ref C) "type":=⟨_,l,rfl⟩;refine jr (codeAny_of_tree ?_);show wpAny _ _ (callAny (.ref C) ⟨[]++vs,[]⟩) _ _ _;repeat (any_goals (first|assumption|with_reducible refine pM l ?_|wp_step))
 refine⟨rfl,codeAny_call_builtin_at (tL _ (by decide +kernel)) entry_typeCall (wpAny_check_type_call_sub l (BF S y λn e m=>bK (g n e m) (λr t z=>⟨z.1,?_⟩) λ_ _ z=>z))⟩;exact ak (iZ (wpAny_point (aP z.2)))
end Kx
namespace PySem
end PySem
namespace Kx
open PySem PySem.W
theorem xQ(o:XO q C N k)(a:k.contains (.type "BaseException")=true)(f:A.handled=none)
  (h:wpAny (model Pg w) A x (fun v u=>∃b t d s,v=.ref b/\u.heap.get? C=some q /\
   u.heap.get? b=some { cls:=.ref C,dict:=d,data:=.fields #[.ref t,.none,.none,.none,.bool false,.none],slots:=s }/\Ex (.ref b) u) Ex u) :
  wpAny (model Pg w) A (raiseStmt r (some x) none) R Ex u:=by
 obtain⟨E,G,bs,H,I,sub,p,c,i,F,K,P,B,D,rfl⟩:=o;have under:(Value.ref C::k).contains (.type "BaseException")=true:=by rw[ua,a,tM]
 unfold raiseStmt;refine ak (bK h (λv m z=>?_) λ_ _ x=>x);obtain⟨b,t,d,s,rfl,e,n,g⟩:=z;obtain⟨S,y,j,tk,os⟩:=m;refine ak (aP ?_);have l:({ cls:=.ref C,dict:=d,data:=.fields #[.ref t,.none,.none,.none,.bool false,.none],slots:=s }:Obj).isFreed=false:=rfl;repeat (first|with_reducible refine pM n ?_|with_reducible refine pM e ?_|(with_reducible refine zW e ?_;rw[under])|wp_step)
 exact wpAny_raiseNew_none f g
end Kx
namespace Ev
open PySem PySem.Spec PyProof.Rows L2
def Mp(a:Addr)(od:Option Addr)(h:Heap):Prop:=∃o vs,h.get? a=some o/\o.dict=od/\o.data=.fields vs/\(od=none->vs[2]? = some .none)
theorem Mp.dk(x:Mp a od h)(k:Kd.DK h b):Mp a od b:=by obtain⟨o,vs,e,d,t,c⟩:=x;obtain⟨n,s,f⟩:=k a o e;obtain⟨v,m,q⟩:=f.two vs t;exact⟨n,v,s,f.dict.trans d,m,λz=>q.trans (c z)⟩
def xk(Pg:Program)(w:World):Ce:=λt H s E e h=>∃(a:Addr)(cls n:Value)(x:Hp)(B:Heap)(od:Option Addr),e=.ref a/\h.os=s.os/\AllBare h.gens/\Un (ke t) [] H x s.heap h.heap/\j7 Pg w x h.heap/\x a=none /\
 (∀b o,s.heap.get? b=some o->b ∉ ke t->∃k,B.get? b=some k)/\(∀b o,s.heap.get? b=some o->H b=none->b ∉ ke t->B.get? b=some o)/\(∀b u o,x b=some u->h.heap.get? b=some o->B.get? b=some o) /\
 pW B t a cls n h.heap/\Mp a od h.heap/\E cls od x
section
variable{X:Cx}{j:PN}{J:L2.St}{H:Hp}{s:Shared}
structure Leaves(X:Cx)(E:XK):Prop where
 ex:X.ex=[]
 stk:X.k=X.e::X.o
 frm:X.e.frame=some X.e.locals
 xe:X.xe=λe s'=>wx X (leaving X.e e) (λ_ s''=>xk X.p X.w X.o X.y X.z E e s'') (λe' s''=>xk X.p X.w X.o X.y X.z E e' s'') s'
theorem Leaves.mem(l:Leaves X E)(b:Addr):b ∈ ke X.k↔b=X.e.locals\/b ∈ X.fs:=by rw[l.stk];unfold ke;rw[pe,l.frm];exact ay
theorem Leaves.old(l:Leaves X E)(I:Inv X j J H s)(e:X.z.heap.get? b=some o)(n:b ∉ X.fs):b ∉ ke X.k:=λz=>by
 rcases(l.mem b).mp z with rfl|z
 .exact absurd (bC e) (ug.mpr I.o.above)
 .exact n z
theorem C0{B:Heap}(I:Inv X j J H s)(l:Leaves X E)(u:Un (ke X.k) [] H N s.heap h1)(w:X.z.heap.get? x=none)(F:∀b o,b≠x->s.heap.get? b=some o->b ∉ ke X.k->∃i,B.get? b=some i)(K:∀b o,b≠x->s.heap.get? b=some o->H b=none->b ∉ ke X.k->B.get? b=some o)
  (G:B.StaysIn r) (t:h1.UpToSlots r):Un (ke X.o) [] X.y N X.z.heap r:=by
 have a:Un X.fs [] X.y H X.z.heap s.heap:=by have:=I.base;rw[l.ex]at this;exact this
 have g:∀b o,X.z.heap.get? b=some o->X.y b=none->b ∈ X.fs->∃t,r.get? b=some { o with slots:=t }:=λb o e n h=>by
  obtain⟨p,k⟩:=a.slot b o e n h (by simp);have D:=a.free b o e n (by simp);obtain⟨Q,f⟩:=u.slot b _ k D ((l.mem b).mpr (.inr h)) (by simp);have L:∀vs,o.data≠.fields vs:=λvs z=>by obtain⟨_,i,c,d⟩:=I.o.funs.mem h;rw[e]at c;cases c;exact d vs z
  obtain⟨q,P⟩:=t b _ f L;exact⟨q,P⟩
 refine⟨λb o e n h _=>?_,λb o e n h _=>g b o e n h,λb o e n R=>?_,λb o e _=>?_,λb S e=>u.tups b S (a.tups b S e),λb o v e=>u.frzs b o v (a.frzs b o v e),λb M e=>?_⟩
 .exact G b o (K b o (λz=>by rw[z,w]at e;cases e) (a.keep b o e n h (by simp)) (a.free b o e n (by simp)) (l.old I e h))
 .obtain⟨m,k⟩:=a.there b o e (by simp);exact u.free b m k (a.free b o e n (by simp)) (by simp)
 .by_cases h:b ∈ X.fs
  .obtain⟨p,k⟩:=g b o e (I.o.frf b h) h;exact⟨_,k⟩
  .obtain⟨m,k⟩:=a.there b o e (by simp);obtain⟨y,f⟩:=F b m (λz=>by rw[z,w]at e;cases e) k (l.old I e h);exact⟨y,G b y f⟩
 .obtain⟨A,k⟩:=a.tbls b M e;obtain⟨C,f⟩:=u.tbls b _ k;exact⟨A++C,by rw[f,zg]⟩
theorem wO{B:Heap}(a:j7 X.p X.w k r)(x:∀b u o,k b=some u->r.get? b=some o->B.get? b=some o)(G:B.StaysIn l):j7 X.p X.w k l:=λb u e=>
 (a b u e).stay (fun c v h q=>G c v (by
  rcases h with rfl|h
  .exact x _ u v e q
  .exact x c _ v h q)) (λ_ q=>q) λ_ _ q=>q
theorem Ov{E:XK}{h:Hp}{B K c P:Heap}{p:Shared}{a x:Addr}{cls g:Value}{od:Option Addr}(l:Leaves X E)(I:Inv X j J H s)(u:Un (ke X.k) [] H h s.heap K)(r:X.z.heap.get? x=none)(i:∀b o,b≠x->s.heap.get? b=some o->b ∉ ke X.k->∃D,B.get? b=some D)(y:∀b o,b≠x->s.heap.get? b=some o->H b=none->b ∉ ke X.k->B.get? b=some o)
  (k:j7 X.p X.w h P) (S:∀b u o,h b=some u->P.get? b=some o->B.get? b=some o) (C:h a=none) (G:K.UpToSlots c) (f:pW B X.o a cls g c) (L:Mp a od c) (os:p.os=s.os) (A:AllBare p.gens) (q:E cls od h):xk X.p X.w X.o X.y X.z E (.ref a) { p with heap:=c }:=by
 have d:Un X.fs [] X.y H X.z.heap s.heap:=by have:=I.base;rw[l.ex]at this;exact this
 refine⟨a,cls,g,h,B,od,rfl,os.trans I.os,A,C0 I l u r i y f.1 G,wO k S f.1,C,λb o z n=>?_,λb o z e n=>?_,λb v o z e=>?_,f,L,q⟩
 .obtain⟨m,t⟩:=d.there b o z (by simp);exact i b m (λw=>by rw[w,r]at z;cases z) t (l.old I z n)
 .exact y b o (λw=>by rw[w,r]at z;cases z) (d.keep b o z e n (by simp)) (d.free b o z e (by simp)) (l.old I z n)
 .obtain⟨m,t⟩:=DT (k b v z);have F:=S b v m z t;rw[f.1 b m F]at e;cases e;exact F
theorem HC(h:Heap):h.get? h.objs.size=none:=by
 cases e:h.get? h.objs.size with
 |none=>rfl
 |some o=>exact absurd (bC e) (iN _)
theorem D_(l:Leaves X E)(I:Inv X j J H s)(y:xk X.p X.w X.k H s N e c)(q:∀cls od x,N cls od x->E cls od x):X.xe e c:=by
 rw[l.xe];obtain⟨a,cls,v,x,B,od,rfl,os,r,un,k,i,d,w,u,t,F,S⟩:=y;have n:X.A.frames=some (X.e::X.o):=by rw[<- l.stk];exact I.o.frames
 rw[l.stk]at t;refine bK ((Kd.sC X.e (.ref a)).wpAny (wpAny_leaves_onW (Q:=λ_ p=>∃h,pW B X.o a cls v h/\c.heap.UpToSlots h/\p={ c with heap:=h }) n l.frm t λh f m=>⟨h,f,m,rfl⟩)) (λ_ p z=>?_) λ_ _ z=>z.1;obtain⟨⟨h,f,m,rfl⟩,g⟩:=z;exact Ov l I un (HC _) (λb o _=>d b o) (λb o _=>w b o) k u i m f (F.dk g) os r (q cls od x S)
end
noncomputable abbrev kl(X:Cx)(e:Value):Cx:={ X with A:=X.A.mark (some e),c:=false,xe:=λ_ _=>False }
section
variable{X:Cx}{j:PN}{J:L2.St}{H:Hp}{s:Shared}
theorem r_(I:Inv X j J H s)(e:Value):Inv (kl X e) j J H s:=
 ⟨⟨I.o.mod,I.o.kind,I.o.glob,I.o.blt,I.o.above,I.o.inj,I.o.has,I.o.cab,(λz=>nomatch z),I.o.frames,I.o.stk,I.o.exf,I.o.bs,I.o.bsz,I.o.noex,I.o.exfs,I.o.funs,I.o.frf⟩,I.os,I.bare,I.base,I.loc,I.cell,I.free,I.freeC,I.pin,I.h,I.len⟩
theorem xO(ok:X.Ok)(I:Inv (kl X e) j J H s):Inv X j J H s:=⟨ok,I.os,I.bare,I.base,I.loc,I.cell,I.free,I.freeC,I.pin,I.h,I.len⟩
theorem GK{B:Heap}(u:Un I [] H r k l)(q:∀b ∈ I,H b=none/\∃o,k.get? b=some o/\∀vs,o.data≠.fields vs)(t:∀b o,k.get? b=some o->b ∉ I->∃d,B.get? b=some d)(p:∀b o,k.get? b=some o->H b=none->b ∉ I->B.get? b=some o)
  (G:B.StaysIn c) (s:l.UpToSlots c):Un I [] H r k c:=by
 have f:∀b o,k.get? b=some o->b ∈ I->∃s,c.get? b=some { o with slots:=s }:=λb o e h=>by obtain⟨n,i,x,v⟩:=q b h;rw[e]at x;cases x;obtain⟨w,x⟩:=u.slot b o e n h (by simp);obtain⟨g,a⟩:=s b _ x v;exact⟨g,a⟩
 refine⟨λb o e n h _=>G b o (p b o e n h),λb o e n h _=>f b o e h,u.free,λb o e _=>?_,u.tups,u.frzs,u.tbls⟩;by_cases h:b ∈ I
 .obtain⟨w,x⟩:=f b o e h;exact⟨_,x⟩
 .obtain⟨m,a⟩:=t b o e h;exact⟨m,G b m a⟩
theorem nK(I:Inv X j J H s)(i:X.z.heap.get? a=none)(l:H a=none)(L:a≠X.e.locals)(C:∀x c,X.e.cells.lookup x=some c->c≠a)(y:∀p ∈ X.pn++j,p.1≠a)(w:du X.p X.w (upd H a u) s.heap a u):Inv X j J (upd H a u) s:=by
 have h:∀b v,H b=some v->b≠a:=λb v e z=>by rw[z,l]at e;cases e
 refine⟨I.o,I.os,I.bare,⟨I.base.keep,I.base.slot,λb o e n S=>?_,I.base.there,λb d e=>?_,λb o v e=>?_,λb F e=>?_⟩,I.loc,I.cell,?_,λx c e=>?_,λp t=>?_,λb v e=>?_,I.len⟩
 .rw [aR (λz=>by rw[z,i]at e;cases e)];exact I.base.free b o e n S
 .have:=I.base.tups b d e;rw[aR (h _ _ this)];exact this
 .have:=I.base.frzs b o v e;rw[aR (h _ _ this)];exact this
 .obtain⟨m,k⟩:=I.base.tbls b F e;exact⟨m,by rw[aR (h _ _ k)];exact k⟩
 .rw [aR (cI L)];exact I.free
 .rw [aR (C x c e)];exact I.freeC x c e
 .obtain⟨k,g,r⟩:=I.pin p t;exact⟨k,by rw[aR (y p t)];exact g,r⟩
 .by_cases f:b=a
  .subst f;rw[bc]at e;cases e;exact w
  .rw [aR f]at e;exact(I.h b v e).stay (λ_ _ _ q=>q) (λc q=>by rw[aR (h _ _ q)];exact q) λc d q=>by rw[aR (h _ _ q)];exact q
theorem Es{R:Nat}(I:Inv X j J H s)(C:X.N.Nodup)(A:X.N[l]? = some n)(D:∀(h:Nat) (x:Str) (w:V),X.N[h]? = some x->J[h]? = some (some w)->FO X.e.scope x->∃u,RelV w u/\Look X.e s.heap N x u)
  (P:h'.Ns X.e.locals (λx=>if x=n then v else N x)) (a:kg X.e.locals s.heap h'):Inv X j (J.set l none) H { s with heap:=h',toks:=R }:=by
 have L:∀b o,X.z.heap.get? b=some o->b≠X.e.locals:=λb o e=>cx (cg (bC e) I.o.above);have F:l < J.length:=by rw[I.len];exact(bX.mp A).1
 refine⟨I.o,I.os,I.bare,⟨λb o e n S m=>(a.2 b (L b o e)).trans (I.base.keep b o e n S m),λb o e n S m=>?_,I.base.free,λb o e m=>?_,I.base.tups,I.base.frzs,I.base.tbls⟩,⟨_,P,λh y w f t B=>?_⟩,λy c e=>?_,I.free,I.freeC,λp E=>?_,λb w e=>?_,by simpa using I.len⟩
 .obtain⟨Q,f⟩:=I.base.slot b o e n S m;exact⟨Q,(a.2 b (L b o e)).trans f⟩
 .obtain⟨M,f⟩:=I.base.there b o e m;exact⟨M,(a.2 b (L b o e)).trans f⟩
 .by_cases K:h=l
  .subst K;rw[eM F]at t;cases t
  .rw [dC (cI K)]at t;obtain⟨u,r,q⟩:=D h y w f t B;refine⟨u,r,?_⟩;rcases q with ⟨k,e⟩|⟨k,c,e,z⟩
   .exact .inl ⟨k,by have i:¬y=n:=λz=>K (qG C f (by rw[z];exact A));show(if y=n then v else N y)=some u;rw[ai i];exact e⟩
   .exact .inr ⟨k,c,e,z.sameBut a (I.cne y c e)⟩
 .obtain⟨T,z⟩:=I.cell y c e;exact⟨T,z.sameBut a (I.cne y c e)⟩
 .obtain⟨e,n,i,G,d⟩:=I.pin p E;exact⟨(a.2 p.1 i).trans e,n,i,G,d⟩
 .refine (I.h b w e).stay (λc z g q=>(a.2 c ?_).trans q) (λ_ q=>q) λ_ _ q=>q;rintro rfl;rcases g with rfl|g
  .rw [I.free]at e;cases e
  .rw [I.free]at g;cases g
theorem Ed{n:Hp}{B x:Heap}{h:Shared}(I:Inv X j J H s)(os:h.os=s.os)(a:AllBare h.gens)(un:Un (ke X.k) [] H n s.heap h.heap)(k:j7 X.p X.w n h.heap)(c:∀b o,s.heap.get? b=some o->b ∉ ke X.k->∃t,B.get? b=some t)(f:∀b o,s.heap.get? b=some o->H b=none->b ∉ ke X.k->B.get? b=some o)
  (m:∀b u o,n b=some u->h.heap.get? b=some o->B.get? b=some o) (G:B.StaysIn x) (l:h.heap.UpToSlots x):Inv X j J n { h with heap:=x }:=by
 have r:∀b ∈ ke X.k,H b=none/\∃o,s.heap.get? b=some o/\∀vs,o.data≠.fields vs:=λb e=>⟨I.stkFree b e,(I.stack.mem e).2⟩;exact I.call' (s':={ h with heap:=x }) (i:=[]) os (GK un r c f G l) (wO k m G) a λ_ z=>nomatch z
theorem yo{E':XK}{e:Value}{N:Shared}{c:Str}{nm:Option Str}{C2:Addr}{Q:List Stmt}{np w:Pos}{y:List ExceptHandler}{h:Flow->Shared->Prop}(S:X.k=X.e::X.o)(Z:X.e.frame=some X.e.locals)(ex:X.ex=[])(I:Inv X j J H s)(hx:xk X.p X.w X.k H s E' e N)
  (gl:Gl X c) (mgc:X.g c=some (.ref C2)) (hdb:(c == ("__debug__":Str))=false)
  (k:∀(a:Addr) (cls:Value) (od:Option Addr) (V:Hp),e=.ref a->E' cls od V->V a=none->∃C,cls=.ref C/\nv X.K cls (.ref C2)=some true/\∀s5:Shared,(∀{R:Shared->Prop}{Ex:VP},(∀s7,Inv X j J (upd V a (.ext (ir a C od))) s7->R s7)->wpAny (model X.p X.w) (X.A.mark (some e)) (setFlight e none) (fun _ s7=>R s7) Ex s5) ->
   codeAny (model X.p X.w) (X.A.mark (some e)) (.handlers e [.ExceptHandler none nm Q w] X.e) (fun r b=>match r with
    | .ok f=>(match nm with|none=>h f b|some n=>wx X (do bindName X.e n .none;unbindBehindTheSuite X.e n w) (λ_ s3=>h f s3) X.xe b)
    | .error x=>cameBackBy (model X.p X.w) X.A X.e X.xe x b) s5) :
  wx X (noteFrame e X.e) (λ_ b=>wx X (setFlight e none) (λ_ s3=>wx X (handleBy e X.e (.ExceptHandler (some (.Name c np)) nm Q w::y)) h X.xe s3) X.xe b) X.xe N:=by
 obtain⟨a,cls,a0,V,B,od,rfl,os,W,un,hok,hn,c0,c1,c2,fl,sx,qe⟩:=hx;obtain⟨C,rfl,exm,go⟩:=k a cls od V rfl qe hn;have J9:=λh1 G sl=>Ed (x:=h1) I os W un hok c0 c1 c2 G sl;have hfr:X.A.frames=some (X.e::X.o):=by rw[<- S];exact I.o.frames
 rw[S]at fl;refine bK ((Kd.nV (.ref a) X.e).wpAny (wpAny_looks_onW (Q:=λ_ b=>∃P,Heap.HeldW B (X.e::X.o) a (.ref C) a0 X.e.locals P/\N.heap.UpToSlots P/\b={ N with heap:=P }) hfr Z fl λP l D=>⟨P,l,D,rfl⟩)) (λ_ b z=>?_) λ_ _ z=>z.1;obtain⟨⟨P,l,D,rfl⟩,dk4⟩:=z;refine bK ((Kd.kv (.ref a) none).wpAny (wpAny_landsW (Q:=λ_ b=>∃g,pW B (X.e::X.o) a (.ref C) a0 g/\P.UpToSlots g/\b={ N with heap:=g }) l λg d t=>⟨g,d,t,rfl⟩)) (λ_ b z=>?_) λ_ _ z=>z.1;obtain⟨⟨g,d,t,rfl⟩,dk5⟩:=z;have sx5:=(sx.dk dk4).dk dk5;have t:=D.trans t;have I5:=J9 g d.1 t;refine wpAny_handleBy_cons (codeAny_handlers_test (lc (r_ I5 (.ref a)) gl mgc ?_ hdb)) (by intro z;cases z);obtain⟨ob,hob,hobc⟩:=d.there;have LT:Co (model X.p X.w) g (typeOf (.ref a)) (.ref C):=by rw[<- hobc];exact(yX hob).andThen .now
 refine(PySem.W.exm_one (M:=model X.p X.w) I5.kIn LT exm).here ?_;rw[ae rfl];refine go _ λk7=>bK ((Kd.kv (.ref a) none).wpAny (lands_againW (Q:=λ_ b=>∃A,pW B (X.e::X.o) a (.ref C) a0 A/\g.UpToSlots A/\b={ N with heap:=A }) d λA m E=>⟨A,m,E,rfl⟩)) (λ_ b z=>?_) λ_ _ z=>z.1;obtain⟨⟨A,m,E,rfl⟩,dk6⟩:=z;obtain⟨ox,vx,i,hdx,htx,hcx⟩:=sx5.dk dk6;have I6:=J9 A m.1 (t.trans E);obtain⟨oe,vs,T,oT,tvs,L,⟨hcls,_⟩,hd,_⟩:=m.2.2.2;have F:a ∉ ke X.k:=λz=>by rw[S]at z;obtain⟨_,o,ho,nf⟩:=m.2.2.1.mem z;rw[L]at ho;cases ho;exact nf vs hd
 have K:s.heap.get? a=none:=by
  cases q:s.heap.get? a with
  |none=>rfl
  |some o=>obtain⟨o',z⟩:=c0 a o q F;rw[m.2.1]at z;cases z
 have not0:X.z.heap.get? a=none:=by
  cases q:X.z.heap.get? a with
  |none=>rfl
  |some o=>obtain⟨o',z⟩:=I.base.there a o q (by rw[ex];simp);rw[K]at z;cases z
 have I7:=nK (u:=.ext (ir a C od)) I6 not0 hn (fun z=>F (by rw [S,z];exact pb.mpr ⟨X.e,.head _,Z⟩)) (fun x c' q z=>by
   obtain⟨v,o,ho,hv⟩:=I6.cell x c' q;rw[z,L]at ho;cases ho;rw[hd]at hv;cases hv) (λp hp z=>by
   have:=(I.pin p hp).1;rw[z,K]at this;cases this) ⟨⟨oe,L,hcls,by rw[L]at i;cases i;exact hdx,by rw[L]at i;cases i;exact⟨vx,htx,hcx⟩⟩,⟨oe,L⟩,λh1 h2 ⟨o,q1,q2⟩ G=>⟨o,G o q1,q2⟩⟩
 exact k7 _ I7
theorem Ff{N:XK}{e:Value}{W:Shared}{c n:Str}{M:Addr}{i:Nat}{Q:Stmt}{d:List Stmt}{np o:Pos}{y:List ExceptHandler}{D:Ends}{ts:Value->TS}(L:X.k=X.e::X.o)(P:X.e.frame=some X.e.locals)(ex:X.ex=[])(R:X.N.Nodup)(I:Inv X j J H s)(hx:xk X.p X.w X.k H s N e W)
  (gl:Gl X c) (G:X.g c=some (.ref M)) (A:(c == ("__debug__":Str))=false) (V:X.N[i]? = some n) (B:X.e.scope.names.lookup n=some .local) (hb:∀e,iF (kl X e) (Q::d) (ts e))
  (k:∀(a:Addr) (cls:Value) (od:Option Addr) (S:Hp),e=.ref a->N cls od S->S a=none->∃C,cls=.ref C/\nv X.K cls (.ref M)=some true /\
   ts e { nx:=λp b=>D.nx (p.set i none) b,rt:=D.rt,bk:=λp b=>D.bk (p.set i none) b,ct:=λp b=>D.ct (p.set i none) b } (J.set i (some (.ref a))) (upd S a (.ext (ir a C od)))) :
  wx X (noteFrame e X.e) (λ_ s2=>wx X (setFlight e none) (λ_ s3=>wx X (handleBy e X.e (.ExceptHandler (some (.Name c np)) (some n) (Q::d) o::y)) (SP X j D) X.xe s3) X.xe s2) X.xe W:=by
 refine yo L P ex I hx gl G A λa cls od S T qe hn=>?_;obtain⟨C,hc,K,go⟩:=k a cls od S T qe hn;subst T;refine⟨C,hc,K,λs5 g=>codeAny_handlers_suite_as (g λs7 I7=>?_)⟩;refine nC I7 R V (.inl B) (v:=.ref a) (u:=.ref a) rfl (λs8 I8 _=>?_) (.inr B);refine bK (hb (.ref a) j s8 _ _ _ (r_ I8 (.ref a)) go) (λf Z F=>?_) λ_ _ z=>z.elim;have hp:(X.e.scope.kind == .class ||(X.e.scope.kind == .module && X.e.locals != X.e.globals))=false:=by rw[I.o.kind];rfl
 have w:∀{p:L2.St}{b:Hp},Inv (kl X (.ref a)) j p b Z->(∀h,Inv X j (p.set i none) b h->SP X j D f h)->wx X (do bindName X.e n .none;unbindBehindTheSuite X.e n o) (λ_ h=>SP X j D f h) X.xe Z:=λt k9=>by have t:=xO I.o t;obtain⟨m,hm,l⟩:=id t.loc;exact wpAny_nameGoes_keeps B hm hp λh' v E hs=>k9 _ (Es t R V l E hs)
 cases f with
 |next=>obtain⟨p,b,t,q⟩:=F;exact w t λh x=>⟨_,_,x,q⟩
 |brk=>obtain⟨p,b,t,q⟩:=F;exact w t λh x=>⟨_,_,x,q⟩
 |cont=>obtain⟨p,b,t,q⟩:=F;exact w t λh x=>⟨_,_,x,q⟩
 |ret u=>obtain⟨v,p,b,t,r,q⟩:=F;exact w t λh x=>⟨v,_,_,x,r,q⟩
end
def DX(e C:Addr):Heap->Prop:=λh=>∃t,h.get? e=some { cls:=.ref C,data:=.fields #[.ref t,.none,.none,.none,.bool false,.none] }
def u_(e C d:Addr):Heap->Prop:=λh=>∃t,h.get? e=some { cls:=.ref C,dict:=some d,data:=.fields #[.ref t,.none,.none,.none,.bool false,.none] }
structure ExcSt(K:FG)(C:Addr)(f:Str):Prop where
 cd:∃cd,sY K C=some cd/\cd.hasDict=true/\Kx.uV cd.mro=true
 set:d_ K (.ref C) "__setattr__"=some (some (.builtin "object.__setattr__"))
 no:d_ K (.ref C) f=some none
section
variable{X:Cx}{j:PN}{J:L2.St}{H:Hp}{s:Shared}
theorem Bp(I:Inv X j J H s)(T:X.ex=[])(K:H e=some (.ext (DX e C)))(g:ExcSt X.K C f)(ry:RelV r u)
  (h:∀d L,H d=none->d≠e->Inv X j J (upd (upd H e (.ext (u_ e C d))) d (.xd [(f,r)])) L->l () L):wpAny (model X.p X.w) A (setAttr (.ref e) f u) l E s:=by
 obtain⟨⟨t,P⟩,_,_⟩:=(show du X.p X.w H s.heap e (.ext (DX e C)) from I.h e _ K);obtain⟨⟨cd,S,hd,ho⟩,hs,a⟩:=g;refine Kx.Bq I.kIn P rfl rfl rfl S hd ho hs a λW F w Q R=>?_;have B:H s.heap.objs.size=none:=I.h.fresh (ar _);have D:s.heap.objs.size≠e:=cI (cx (bC P));have v:s.heap.get? s.heap.objs.size=none:=by
  cases q:s.heap.get? s.heap.objs.size with
  |none=>rfl
  |some o=>exact absurd (bC q) (iN _)
 have G:∀i y:Heap,u_ e C s.heap.objs.size i->(∀o,i.get? e=some o->y.get? e=some o)->u_ e C s.heap.objs.size y:=λi y ⟨t,q⟩ k=>⟨t,k _ q⟩;have M:Inv X j J (upd H e (.ext (u_ e C s.heap.objs.size))) { s with heap:=W,toks:=F }:=I.write (x:=e) (e:=e) (by rw[K];exact True.intro) (.inl rfl) (λb q Z z=>R b q Z z) ⟨_,w⟩ ⟨⟨t,w⟩,⟨_,w⟩,G⟩;have N:X.z.heap.get? s.heap.objs.size=none:=by
  cases q:X.z.heap.get? s.heap.objs.size with
  |none=>rfl
  |some o=>obtain⟨o',z⟩:=I.base.there _ o q (by rw[T];simp);rw[v]at z;cases z
 refine h _ _ B D (nK M N ?_ ?_ ?_ ?_ ?_)
 .rw [aR D];exact B
 .intro z;obtain⟨m,⟨o,_,_,q,_⟩,_⟩:=I.loc;rw[<- z,v]at q;cases q
 .intro x c S z;obtain⟨w',q⟩:=I.cell x c S;obtain⟨o,q,_⟩:=q;rw[z,v]at q;cases q
 .intro p hp z;obtain⟨q,_⟩:=I.pin p hp;rw[z,v]at q;cases q
 .refine⟨_,Q,λn=>?_⟩;by_cases a:n=f
  .subst a;rw[ae rfl];simp only[dP,beq_self_eq_true];exact ry
  .rw [ai a];have:([(f,r)]:List (Str×V)).lookup n=none:=by simp[dP,nQ.mpr a]
   rw[this];exact True.intro
end
section
variable{X:Cx}{o value:Expr}{f:Str}{B pos':Pos}{ta tv:TE}
def Ti(K:FG)(ta tv:TE)(f:Str):TS:=λD J H=>tv J H λy a=>ta J a λx h=>∃e C,x=.ref e/\h e=some (.ext (DX e C))/\ExcSt K C f/\∀d,h d=none->d≠e->D.nx J (upd (upd h e (.ext (u_ e C d))) d (.xd [(f,y)]))
theorem Hh(c:X.ex=[])(r:PE X o ta)(v:PE X value tv)(t:swapsWith value (some (.Attribute o f pos')) B.line X.e=pure false):PS X (.Assign [.Attribute o f pos'] value B) (Ti X.K ta tv f):=by intro j s J H D I h;refine z8 (ez (v j s J H _ I h) λu K ⟨y,a,n,F,q⟩=>ez (r j K J a _ n q) λi A z=>?_) t;obtain⟨x,P,k,S,e,C,dN,m,g,l⟩:=z;subst dN;obtain rfl:i=Value.ref e:=S;exact Bp k c m g F λd E p w b=>⟨J,_,b,l d p w⟩
end
section
variable{Pg:Program}{w:World}{K:FG}{mg:SV}{d:Heap}
def QJ(K:FG)(f:Str):Sp:=λvs H Q _=>∃e C v,vs=[.ref e,v]/\H e=some (.ext (DX e C))/\ExcSt K C f/\∀d,H d=none->d≠e->Q .non (upd (upd H e (.ext (u_ e C d))) d (.xd [(f,v)]))
end
section
variable{Pg:Program}{w:World}{K:FG}{mg:SV}{d:Heap}
abbrev Sj(P:Program)(w:World)(K:FG)(mg:SV)(d:Heap)(N:LS)(q:Str)(p:Scope)(f:Addr)(h:Value)(A:Around)(o:List Env)(s:Shared)(H:Hp):Cx:=
 { oz re P w K mg d N q p f h A o s H E0 with c:=false,xe:=λ_ _=>False }
structure FnU(P:Program)(w:World)(K:FG)(mg:SV)(base:Heap)(f:Addr)(fd:FuncData)(ps:LS)(sp:Sp):Prop where
 len:∀vs H Q E,sp vs H Q E->vs.length=ps.length
 run:∀(A:Around)(outer:List Env)(s:Shared)(H:Hp)(args:Args)(us:LV)(vs:List V)(Q:VK),A.depth+4 < recursionLimit->Env0 P w K mg base A outer s H->BindsTo s fd args (ps.zip us)->bB vs us->sp vs H Q E0 ->
  codeAny (model P w) A (.call (.ref f) args) (CR re outer P w H s Q E0) s
theorem LD{x l:Str}{G:Stmt}{f:Addr}{W:FuncData}{N ps:LS}{R:Sp}(F:Fun K x l G f W)(S:FnScope N ps (af G))(len:∀vs H Q E,R vs H Q E->vs.length=ps.length)
  (m:∀(L:Value)(A:Around)(r:List Env)(s:Shared)(H:Hp)(vs:List V)(Q:VK),R vs H Q E0->∃t,iF (Sj Pg w K mg d N l (af G) f L A r s H) (aD G) t/\t { nx:=λ_ Z=>Q .non Z,rt:=Q } (start N vs) H):FnU Pg w K mg d f W ps R:=by
 obtain⟨_,_,_,_,_,_,code,_,_,rfl,B,D⟩:=F.ex;refine⟨len,λA r s H T us vs Q C a bind M p=>?_⟩;have k:d.StaysIn s.heap:=λb o e=>(a.bs b o e).1;have g:=a.mod.kin.keeps k;refine zZ (mh (by lia) C) (g _ _ B) rfl S.co S.gen rfl (Cy g D) (bind _ _ _ _ (z7 S.kind (λy hy=>(S.par y.1 (o9 hy).1).imp id λz=>⟨z,xy _ _ _ (.inl z)⟩) λen same X n=>?_));subst same;obtain⟨t,i,P⟩:=m code A r s H vs Q p;refine⟨(a.mod.nolimit.keeps k).keeps n.toInCall.keep,codeAny_func ?_⟩;have h:=sG (CX:=re) (E:=E0) (D:=code) (f:=f) (l:=l) (A:={ A with handled:=none }) S rfl ⟨a.frames,a.mod,a.bs,a.bsz,a.funs,a.frf,a.h,a.bare⟩ (len _ _ _ _ p) M n;have J2:Inv (Sj Pg w K mg d N l (af G) f code A r s H) [] (start N vs) H X:=
  ⟨⟨h.o.mod,h.o.kind,h.o.glob,h.o.blt,h.o.above,h.o.inj,h.o.has,h.o.cab,(λz=>nomatch z),h.o.frames,h.o.stk,h.o.exf,h.o.bs,h.o.bsz,h.o.noex,h.o.exfs,h.o.funs,h.o.frf⟩,h.os,h.bare,h.base,h.loc,h.cell,h.free,h.freeC,h.pin,h.h,h.len⟩
 refine bK (i [] X _ H _ J2 P) (λj s2 z=>?_) λ_ _ z=>z.elim;cases j with
 |ret u=>obtain⟨v,_,I,c,rv,q⟩:=z;exact⟨v,I,c.os,c.bare,c.base,c.h,rv,q⟩
 |next=>obtain⟨_,I,c,q⟩:=z;exact⟨.non,I,c.os,c.bare,c.base,c.h,rfl,q⟩
 |brk=>exact(let ⟨_,_,_,q⟩:=z;q.elim)
 |cont=>exact(let ⟨_,_,_,q⟩:=z;q.elim)
theorem BL{a b:Str}{u:Str}{G:Stmt}{fa:Addr}{x:FuncData}{f:Str}{p k m r:Pos}(F:Fun K "__init__" u G fa x)(S:FnScope [a,b] [a,b] (af G))(l:aD G=[.Assign [.Attribute (.Name a p) f k] (.Name b m) r])
  (M:∀e:Env,e.scope=af G->FO e.scope a/\FO e.scope b) (B:(a == ("__debug__":Str))=false) (D:(b == ("__debug__":Str))=false) (I:(a == ("__classdict__":Str))=false) (L:(b == ("__classdict__":Str))=false)
  (y:∀n:Env,swapsWith (.Name b m) (some (.Attribute (.Name a p) f k)) r.line n=pure false):FnU Pg w K mg d fa x [a,b] (QJ K f):=by
 refine LD F S (λvs H Q E h=>?_) λc A o s H vs Q h=>?_
 .obtain⟨e,C,v,rfl,_⟩:=h;rfl
 .obtain⟨e,C,v,rfl,j,g,q⟩:=h;rw[l];obtain⟨v1,v2⟩:=M (envOfC u (af G) s.heap.objs.size fa c) rfl;refine⟨_,pC (Hh rfl (xY (i:=0) rfl v1 B I) (xY (i:=1) rfl v2 D L) (y _)),?_⟩;exact⟨v,rfl,.ref e,rfl,e,C,rfl,j,g,λt z P=>q t z P⟩
end
section
variable{X:Cx}{j:PN}{J:L2.St}{H:Hp}{s:Shared}
theorem Bt(I:Inv X j J H s)(M:X.ex=[])(w:A.frames=X.A.frames)(V:A.depth+4 < recursionLimit)(a:xz s.heap l e (.ref C) [u])(F:FnU X.p X.w X.K X.g X.b N fd ps (QJ X.K f))(y:∀n:Shared,X.K.In n.heap->BindsTo n fd ⟨[.ref e,u],[]⟩ (ps.zip [.ref e,u]))(g:ExcSt X.K C f)(ru:RelV v u) :
  wpAny (model X.p X.w) A (call (.ref N) [.ref e,u]) (λr n=>r=.none/\∃d,H e=none/\H d=none/\d≠e/\Inv X j J (upd (upd H e (.ext (u_ e C d))) d (.xd [(f,v)])) n) (λ_ _=>False) { s with heap:=l }:=by
 obtain⟨t,S,_,_⟩:=a.there;have K:H e=none:=Lu I a.new;have D:Inv X j J H { s with heap:=l }:=I.kept (t':=s.toks) a.keeps;have G:X.z.heap.get? e=none:=by
  cases q:X.z.heap.get? e with
  |none=>rfl
  |some o=>obtain⟨o',z⟩:=I.base.there _ o q (by rw[M];simp);rw[a.new]at z;cases z
 have b:Inv X j J (upd H e (.ext (DX e C))) { s with heap:=l }:=by
  refine nK D G K (λz=>?_) (λx c R z=>?_) (λp T z=>?_) ⟨⟨t,S⟩,⟨_,S⟩,λha y ⟨t,q⟩ k=>⟨t,k _ q⟩⟩
  .obtain⟨m,⟨o,_,_,q,_⟩,_⟩:=I.loc;rw[<- z,a.new]at q;cases q
  .obtain⟨w',o,q,_⟩:=I.cell x c R;rw[z,a.new]at q;cases q
  .obtain⟨q,_⟩:=I.pin p T;rw[z,a.new]at q;cases q
 have h:=b.env0;refine jr (js (F.run A X.k _ _ ⟨[.ref e,u],[]⟩ [.ref e,u] [.ref e,v] (λr i=>r=.non/\∃d,H d=none/\d≠e/\i=upd (upd H e (.ext (u_ e C d))) d (.xd [(f,v)])) V ⟨w.trans h.frames,h.mod,h.bs,h.bsz,h.funs,h.frf,h.h,h.bare⟩ (y _ b.kIn) (.cons rfl (.cons ru .nil)) ?_) λr n q=>?_)
 .refine⟨e,C,v,rfl,bc,g,λd P B=>⟨rfl,d,?_,B,?_⟩⟩
  .rw [aR B]at P;exact P
  .rw [GJ]
 .cases r with
  |error x=>exact q.elim
  |ok Q=>
   cases Q with
   |ret u2=>obtain⟨v2,i,E,rv,L,d,W,Z,rfl⟩:=b.after q;subst L;exact⟨rv,d,K,W,Z,E⟩
   |next=>exact q.elim
   |brk=>exact q.elim
   |cont=>exact q.elim
end
def Ug(K:FG)(C f:Addr):Prop:=∃t N o I,K.lookup C=some o/\Kx.XO o C N t/\xq K Kx.HD t=true/\xn K N=true/\(∀h:Heap,K.In h->h.nsMap N "__init__"=some (.ref f))/\K.lookup f=some I/\I.cls=.type "function"
noncomputable abbrev XV:=Str×Option (Str×P)
noncomputable abbrev EX:=Lc->aV->Option (XV×Lc×aV)
noncomputable abbrev Mt:=Option (XV×Lc×aV)
noncomputable abbrev GX:=List D->aV->Option (XV×aV)
def nj(X:Cx)(c:Str)(od:Option Addr)(J:L2.St)(H:Hp):Prop:=∀C,bN X.K mainGlobals c=some (some (.ref C)) ->
 ∀(j:PN)(h:Hp)(s:Shared)(E:XK)(e:Value)(a:Shared),Inv X j J h s->xk X.p X.w X.k h s E e a->(∀cls o x,E cls o x->cls=.ref C/\o=od/\x=H)->X.xe e a
def Pd(X:Cx)(E:XK)(c:Str)(od:Option Addr)(H:Hp):Prop:=∀C,bN X.K mainGlobals c=some (some (.ref C))->E (.ref C) od H
inductive tXI(X:Cx)(E:XK)(f:EX)(J:L2.St)(H:Hp):Prop
 |mk (F:Aa) (m:List Addr) (L:Lc) (S:aV) (x:XV) (L':Lc) (S':aV) (h0_:Rel X.K F H m S) (h1_:RL X.K F H m J L) (h2_:f L S=some (x,L',S')) (h3_:∀J' F' m' H' od,Stp F m H F' m' H'->Rel X.K F' H' m' S'->RL X.K F' H' m' J' L'->XD X.K F' H' x.2 od->Pd X E x.1 od H'):tXI X E f J H
noncomputable def tX(X:Cx)(E:XK)(f:EX):TS:=λ_ J H=>tXI X E f J H
inductive tXEI(X:Cx)(f:EX)(J:L2.St)(H:Hp):Prop
 |mk (F:Aa) (m:List Addr) (L:Lc) (S:aV) (x:XV) (L':Lc) (S':aV) (h0_:Rel X.K F H m S) (h1_:RL X.K F H m J L) (h2_:f L S=some (x,L',S')) (h3_:∀J' F' m' H' od,Stp F m H F' m' H'->Rel X.K F' H' m' S'->RL X.K F' H' m' J' L'->XD X.K F' H' x.2 od->nj X x.1 od J' H'):tXEI X f J H
noncomputable def GY(X:Cx)(f:EX):TE:=λJ H _=>tXEI X f J H
def Np(X:Cx)(f:EX):TS:=λ_ J H=>GY X f J H λ_ _=>True
@[simp] def j9(_L:Lc)(_S:aV):Mt:=none
@[simp] def dM(f0:ES)(f g:EX)(L:Lc)(S:aV):Mt:=match f0 L S with
 |some (.nx,h,x)=>g h x
 |some _=>none
 |none=>f L S
@[simp] def pY(g:GX)(a:pK)(L:Lc)(S:aV):Mt:=cY (a L S) λd h=>(g d h).map λz=>(z.1,L,z.2)
section
variable{X:Cx}{G:Stmt}{y bs cs:List Stmt}{e:Expr}{es:Ab}{B:Pos}{f0:ES}{f g:EX}{E:XK}
theorem Qa:iF X y (tX X E j9):=λ_ _ _ _ _ _ ⟨_,_,_,_,_,_,_,_,_,q,_⟩=>nomatch q
theorem JI:PS X G (tX X E j9):=λ_ _ _ _ _ _ ⟨_,_,_,_,_,_,_,_,_,q,_⟩=>nomatch q
theorem JA(d:PS X G (jT X.K f0))(w:PS X G (tX X E f))(u:iF X y (tX X E g)):iF X (G::y) (tX X E (dM f0 f g)):=λj s J H D I z=>by
 obtain⟨F,m,L,S,c,h,a,r,l,q,k⟩:=z;unfold dM at q;split at q
 .rename_i x e v;exact mw d u j s J H D I ⟨F,m,L,S,.nx,x,e,r,l,v,λR n K Q C A i=>⟨n,K,x,e,c,h,a,A,i,q,λp b P t od M B o N=>k p b P t od (C.trans M) B o N⟩⟩
 .cases q
 .exact mw w (nD (X:=X)) j s J H D I ⟨F,m,L,S,c,h,a,r,l,q,k⟩
theorem MZ(h:PS X G (tX X E f)):iF X [G] (tX X E f):=pC h
theorem Kk(x:iF X y t)(a:iF X y u):iF X y (λD J H=>t D J H\/u D J H):=λj s J H D I h=>h.elim (x j s J H D I) (a j s J H D I)
def Ue(K:FG)(C:Addr):Prop:=∃t N o,K.lookup C=some o/\Kx.XO o C N t/\xq K Kx.HD t=true/\xn K N=true/\bN K N "__init__"=some none
inductive spEI(K:FG)(gx:GX)(vs:List V)(H:Hp)(E:XK):Prop
 |mk (F:Aa) (m:List Addr) (ds:List D) (S:aV) (x:XV) (S':aV) (h0_:Rel K F H m S) (h1_:fy K F H m ds vs) (h2_:gx ds S=some (x,S')) (h3_:∀F' m' H' od,Stp F m H F' m' H'->Rel K F' H' m' S'->XD K F' H' x.2 od->∃C,bN K mainGlobals x.1=some (some (.ref C))/\E (.ref C) od H'):spEI K gx vs H E
noncomputable def Dg(K:FG)(g:GX):Sp:=λvs H _ E=>spEI K g vs H E
def B3(K:FG)(g:GX):Prop:=∀d S x h,g d S=some (x,h)->∃C,bN K mainGlobals x.1=some (some (.ref C))
theorem JC(G:FnOk X.p X.w X.K X.g X.b (xk X.p X.w) k fa fd ps (Dg X.K N))(cl:B3 X.K N)(hr:Room k X.A)(hg:Gl X x)(hm:X.g x=some (.ref fa))(hk:gO X.K (.ref fa)=true)(hb:Binds X.K fd ps [])
  (ha:PA X (e::es) (vX X.K I)) (D:(x == ("__debug__":Str))=false) (he:starEach (e::es) X.e=(false,eval e X.e)::starEach es X.e) (M:(backTo B (starEach es X.e)).any (·.1)=false) :
  PE X (.Call (.Name x p) (e::es) [] B) (GY X (pY N I)):=λj s J H Q h R=>by
 obtain⟨F,m,L,S,c,L',S',r,l,q,kk⟩:=R;obtain⟨P,i,e1,q⟩:=ao q;obtain⟨⟨y,W⟩,Z,q⟩:=fV.mp q;cases q;obtain⟨C,ns⟩:=cl P i y W Z;refine pP (lc h hg hm ?_ D);refine pV (h₀:=X.b) h.o.mod.kin hk (ez (ha B j s J H (λvs d=>Dg X.K N vs d Q (λcls od f=>cls=.ref C/\nj X y.1 od J f)) h ⟨F,m,L,S,P,i,r,l,e1,λxs F' m' g s' r' p'=>⟨F',m',P,i,y,W,r',p',Z,λF2 m2 f od w T xd=>⟨C,ns,rfl,kk J F2 m2 f od (s'.trans w) T (l.mono (s'.trans w)) xd⟩⟩⟩) λus V R=>?_) he M;obtain⟨vs,d,b,rv,q1⟩:=R;refine⟨b.kIn,?_⟩;have hl:us.length=ps.length:=by rw[<- rv.length];exact G.len _ _ _ _ q1
 refine jr (js (G.run X.A X.k V d ⟨us,[]⟩ us vs Q _ hr b.env0 (by have:=hb V us b.kIn (by simpa using hl);simpa using this) rv q1) λT w v=>?_);cases T with
 |error ev=>obtain⟨a,cls,a0,g,n,od,rfl,os,t,un,E,hn,c0,K,c2,A,sx,rfl,qe⟩:=v;exact qe C ns j d V (λcls o f=>cls=.ref C/\o=od/\f=g) _ w b ⟨a,.ref C,a0,g,n,od,rfl,os,t,un,E,hn,c0,K,c2,A,sx,rfl,rfl,rfl⟩ λcls o f z=>z
 |ok A=>
  cases A with
  |ret u=>exact b.after v
  |next=>exact False.elim v
  |brk=>exact False.elim v
  |cont=>exact False.elim v
theorem Nq{D:Ends}{J:L2.St}{H:Hp}(d:Leaves X E)(h:tX X E f D J H):Np X f D J H:=by obtain⟨F,m,L,S,c,b,t,r,l,q,k⟩:=h;refine⟨F,m,L,S,c,b,t,r,l,q,λn x w y od s r l g C u j K P i e A I v p=>D_ d I v λcls o a z=>?_⟩;obtain⟨rfl,rfl,rfl⟩:=p cls o a z;exact k n x w _ _ s r l g C u
theorem JJ(h:PE X e (GY X f))(s:swapsWith e none B.line X.e=pure false):PS X (.Expr e B) (Np X f):=(Aw h s).imp' λ_ _ _ z=>z
theorem Ng(h:PE X e (GY X f)):PS X (.Return (some e) B) (Np X f):=(DB h).imp' λ_ _ _ z=>z
theorem Nf(i:Nat)(N:X.N.Nodup)(h:PE X e (GY X f))(s:X.N[i]? = some x)(k:Loc X.e.scope x)(n:swapsWith e (some (.Name x pos')) B.line X.e=pure false)(a:X.fn x=true\/X.e.scope.names.lookup x=some .local):PS X (.Assign [.Name x pos'] e B) (Np X f):=
 (DA N s k h n a).imp' λ_ _ _ z=>z
end
noncomputable def fnX(p n:Nat)(b:EX):GX:=λd S=>if d.length=p then (b (d.map some++List.replicate (n-d.length) none) S).map λz=>(z.1,z.2.2) else none
theorem LB{Pg:Program}{w:World}{K:FG}{mg:SV}{d:Heap}{x u:Str}{G:Stmt}{f:Addr}{t:FuncData}{N ps:LS}{k:Nat}{b:EX}(F:Fun K x u G f t)(S:FnScope N ps (af G))(rd:∀{F:Aa}{H:Hp}{m:List Addr}{a:List D}{vs:List V},fy K F H m a vs->RL K F H m (L2.start N vs) (a.map some++List.replicate (N.length-a.length) none))
  (M:∀(v:Value) (A:Around) (o:List Env) (s:Shared) (H:Hp) (E:XK),Room k (A.deeper (envOfC u (af G) s.heap.objs.size f v)) ->
   iF (oz (xk Pg w) Pg w K mg d N u (af G) f v A o s H E) (aD G) (tX (oz (xk Pg w) Pg w K mg d N u (af G) f v A o s H E) E b)):FnOk Pg w K mg d (xk Pg w) (k+1) f t ps (Dg K (fnX ps.length N.length b)):=by
 obtain⟨oc,od,kV,B,pm,an,v,ct,X,rfl,lk,e⟩:=F.ex;refine Jn lk e S (λvs H Q E h=>?_) λA o s H vs Q E R h=>⟨_,M v A o s H E R,?_⟩
 .obtain⟨F,m,a,S,c,y,l,r,q,p⟩:=h;rw[<- r.length];unfold fnX at q;split at q
  .assumption
  .cases q
 .obtain⟨F,m,a,S,c,y,l,r,q,p⟩:=h;unfold fnX at q;split at q
  .obtain⟨⟨P,L,z⟩,I,q⟩:=fV.mp q;cases q;refine⟨F,m,_,S,P,L,z,l,rd r,I,λJ' i T j od s' r' l' xd C W=>?_⟩;obtain⟨g,n,Z⟩:=p i T j od s' r' xd;cases (show some (some (Value.ref C))=some (some (Value.ref g)) from W.symm.trans n);exact Z
  .cases q
noncomputable def xT(f0:ES)(fx:EX)(sub:Str->Bool)(i:Nat)(g:ES):ES:=λL S=>match f0 L S with
 |some z=>some z
 |none=>match fx L S with
  | some (c,x,h)=>if sub c.1=true then (match g (x.set i (some (.ref h.length))) (h++[.exc c.1 c.2]) with
   |some (f,L2,a)=>some (f,L2.set i none,a)
   |none=>none) else none
  |none=>none
section
variable{X:Cx}
theorem RL.clr {K:FG}{F:Aa}{H:Hp}{m:List Addr}{J:L2.St}{L:Lc} (h:RL K F H m J L) (i:Nat):RL K F H m (J.set i none) (L.set i none):=⟨by rw [fk,fk];exact h.len,fun j d q=>by
 by_cases x:i=j
 .subst x;by_cases a:i < L.length
  .rw [eM a]at q;cases q
  .rw [ud (by rw[fk];lia)]at q;cases q
 .rw [dC x]at q;rw[dC x];exact h.at' j d q⟩
noncomputable abbrev lq(X:Cx)(E:VP)(p:PN):Cx:={ X with xe:=E,pn:=p }
theorem MP{Q:List Stmt}{c n:Str}{C2:Addr}{i:Nat}{b0:Stmt}{v:List Stmt}{np M B:Pos}{f0 g:ES}{fx:EX}{sub:Str->Bool}(stk:X.k=X.e::X.o)(frm:X.e.frame=some X.e.locals)(ex:X.ex=[])(hN:X.N.Nodup)
  (gl:Gl X c) (mgc:X.g c=some (.ref C2)) (hdb:(c == ("__debug__":Str))=false) (hi:X.N[i]? = some n) (hl:X.e.scope.names.lookup n=some .local)
  (h0:∀E T,iF (lq X E T) Q (jT X.K f0)) (hx:∀E T,iF (lq X E T) Q (Np (lq X E T) fx)) (hg:∀e,iF (kl X e) (b0::v) (jT X.K g))
  (hs:∀x C,sub x=true->bN X.K mainGlobals x=some (some (.ref C))->nv X.K (.ref C) (.ref C2)=some true) :
  PS X (.Try Q [.ExceptHandler (some (.Name c np)) (some n) (b0::v) M] [] [] B) (jT X.K (xT f0 fx sub i g)):=λj s J H D I hz=>by
 obtain⟨F,m,L,S,Z,L',S',r,l,q,k⟩:=hz;unfold xT at q;split at q
 .rename_i z e0;cases q;refine zL (bK (h0 (λ_ _=>False) X.pn j s J H D (I.wish _) ⟨F,m,L,S,Z,L',S',r,l,e0,k⟩) (λf V b=>?_) λ_ _ z=>z.elim);have b:=SP.unwish (X:=X) (E:=λ_ _=>False) b;cases f with
  |next=>exact aP b
  |_=>exact b
 .split at q
  .rename_i x R A e1;split at q
   .rename_i N;split at q
    .rename_i fl2 Lg Sg eg;cases q;have IX:∀{E:VP}{t:PN}{J2:L2.St}{W:Hp}{s2:Shared},Inv (lq X E (X.pn++j)) t J2 W s2->Inv X j J2 W s2:=λh=>
      ⟨⟨h.o.mod,h.o.kind,h.o.glob,h.o.blt,h.o.above,h.o.inj,h.o.has,h.o.cab,h.o.hd,h.o.frames,h.o.stk,h.o.exf,h.o.bs,h.o.bsz,h.o.noex,h.o.exfs,h.o.funs,h.o.frf⟩,h.os,h.bare,h.base,h.loc,h.cell,h.free,h.freeC,λp hp=>h.pin p (g_ _ hp),h.h,h.len⟩
     have XI:∀E:VP,Inv (lq X E (X.pn++j)) [] J H s:=λE=>
      ⟨⟨I.o.mod,I.o.kind,I.o.glob,I.o.blt,I.o.above,I.o.inj,I.o.has,I.o.cab,I.o.hd,I.o.frames,I.o.stk,I.o.exf,I.o.bs,I.o.bsz,I.o.noex,I.o.exfs,I.o.funs,I.o.frf⟩,I.os,I.bare,I.base,I.loc,I.cell,I.free,I.freeC,λp hp=>I.pin p ((kQ.mp hp).elim id λz=>nomatch z),I.h,I.len⟩
     refine zL (bK (hx _ (X.pn++j) [] s J H ⟨λ_ _=>False,λ_ _=>False,λ_ _=>False,λ_ _=>False⟩ (XI _) ⟨F,m,L,S,x,R,A,r,l,e1,λJ1 y G H1 od V r1 l1 xd C ns t W s2 E e s3 h hc hE=>?_⟩) (λf V b=>?_) λe V b=>b)
     .refine Ff (D:=D) (ts:=λ_=>jT X.K g) stk frm ex hN (IX h) hc gl mgc hdb hi hl hg λa cls o P he qe hn=>?_;obtain⟨rfl,rfl,rfl⟩:=hE cls o P qe;have s5:Stp y G P y (G++[a]) (upd P a (.ext (ir a C o))):=kZ hn;have r5:Rel X.K y (upd P a (.ext (ir a C o))) (G++[a]) (A++[.exc x.1 x.2]):=Rel.own (K:=X.K) (so:=.exc x.1 x.2) r1 hn ⟨C,o,ns,bc,xd.kp s5.kp⟩;have l5:RL X.K y (upd P a (.ext (ir a C o))) (G++[a]) (J1.set i (some (.ref a))) (R.set i (some (.ref A.length))):=RL.set (RL.mono s5 (show RL X.K y P G J1 R from l1)) (d:=.ref A.length) ⟨a,rfl,by rw[<- r1.len];simp⟩ i;refine⟨C,rfl,hs x.1 C N ns,y,G++[a],R.set i (some (.ref A.length)),A++[.exc x.1 x.2],Z,Lg,S',r5,l5,eg,λJ4 F4 m4 H4 s4 r4 l4=>?_⟩;have w:=k (J4.set i none) F4 m4 H4 (V.trans (s5.trans s4)) r4 (l4.clr i);cases Z with
      |nx=>exact w
      |bk=>exact w
      |ct=>exact w
      |rt d=>exact w
     .cases f with
      |next=>obtain⟨_,_,_,z⟩:=b;exact z.elim
      |brk=>obtain⟨_,_,_,z⟩:=b;exact z.elim
      |cont=>obtain⟨_,_,_,z⟩:=b;exact z.elim
      |ret u=>obtain⟨_,_,_,_,_,z⟩:=b;exact z.elim
    .cases q
   .cases q
  .cases q
end
open PySem.W (Looks)
open PySem.Builtin PySem.Builtin.ObjectAttr PySem.Builtin.Getset_descriptor
section
variable{i:Program}{w:World}{A:Around}{E:VP}{s:Shared}{K:FG}{a C:Addr}
theorem wc(T:Looks (model i w) s.heap (typeOf (.ref a)) (.ref C))(sub:Looks (model i w) s.heap (isSubtype (.ref C) (.type "object")) true)(h:R (.ok (.ret (.ref C))) s) :
  codeAny (model i w) A (.call (.builtin "getset_descriptor.__get__") ⟨[.builtin "object.__class__",.ref a,b],[]⟩) R s:=by
 have o:∀B:Around,wpAny (model i w) B (Builtin.«object.__class__» ⟨[.ref a],[]⟩) (λf u=>f=.done (.ret (.ref C))/\u=s) (λ_ _=>False) s:=λB=>by
  obtain⟨p,g,d,t,os⟩:=s;simp only[Builtin.«object.__class__»,shownTypeOf];repeat lk
  exact⟨rfl,rfl⟩
 have k:∀B:Around,wpAny (model i w) B (descrCheckInstance (.builtin "object.__class__") (.ref a)) (λ_ u=>u=s) (λ_ _=>False) s:=λB=>by obtain⟨p,g,d,t,os⟩:=s;simp only[descrCheckInstance,descrNameAndClass,isInstance,PySem.W.KF.owner_class];repeat lk
 obtain⟨q,x⟩:=And.intro PySem.W.KF.slot_gs PySem.W.KF.entry_gs;refine sW q.plain x (q.check _ _ _ _ _ _ _ _ PySem.W.KF.type_class (PySem.W.KF.args_gs _ _ _) ?_);simp only[Builtin.«getset_descriptor.__get__»,descrGet,PySem.W.dga_obj,descrGetter];refine ak (aP (ak (bK (k _) (λ_ u e=>?_) λ_ _ z=>z.elim)));subst e;refine aP ⟨tL (id:="object.__class__") _ (by decide +kernel),codeAny_builtin PySem.W.KF.entry_class (bK (o _) (λf u e=>?_) λ_ _ z=>z.elim)⟩;obtain⟨rfl,rfl⟩:=e;exact h
structure ExcCl(K:FG)(C:Addr):Prop where
 get:d_ K (.ref C) "__getattribute__"=some (some (.builtin "BaseException.__getattribute__"))
 hook:d_ K (.ref C) "__getattr__"=some none
 cls:d_ K (.ref C) "__class__"=some (some (.builtin "object.__class__"))
 by':tm K (.builtin "object.__class__") "__get__"=some (some (.builtin "getset_descriptor.__get__"))
 dat:xt K (.builtin "object.__class__")=some true
 obj:pR K C (.type "object")=some true
 bas:pR K C (.type "BaseException")=some true
 isC:(sY K C).isSome=true
theorem EM(F:ExcCl K C)(n:K.In s.heap)(T:Looks (model i w) s.heap (typeOf (.ref a)) (.ref C))(q:k (some (.ref C)) { s with toks:=s.toks+1 }):wpAny (model i w) A (getAttr? (.ref a) "__class__") k E s:=by
 have sub:=sZ (M:=model i w) n F.obj;have x:=sZ (M:=model i w) n F.bas;have b:=lF (M:=model i w) n F.get;have o:=lF (M:=model i w) n F.hook;have m:Looks (model i w) s.heap (find (.ref a) (.ref C) "__class__") (.bind (.builtin "getset_descriptor.__get__") (.builtin "object.__class__")):=
  (lF n F.cls).andThen ((show Looks (model i w) s.heap (getOf (some (.builtin "object.__class__"))) (some (.builtin "getset_descriptor.__get__")) from PySem.W.looks_specialIn n F.by').andThen
   ((show Looks (model i w) s.heap (dataDescriptor? (some (.builtin "object.__class__")) (some (.builtin "getset_descriptor.__get__"))) (some (.builtin "getset_descriptor.__get__",.builtin "object.__class__")) from(PySem.W.looks_takesIn n F.dat).andThen .now).andThen (Looks.tag .now)))
 have f:∀B:Around,∀tk:Tok,∀u:Shared,u.heap=s.heap->codeAny (model i w) B (.call (.builtin "BaseException.__getattribute__") ⟨[.ref a,.str "__class__" tk],[]⟩) (λr y=>r=.ok (.ret (.ref C))/\y=u) u:=λB tk u v=>by
  obtain⟨p,g,d,t,os⟩:=u;cases (show p=s.heap from v);have j:builtinKind "BaseException.__getattribute__"=some .slot:=by decide +kernel
  have l:splitId "BaseException.__getattribute__"=some ("BaseException","__getattribute__"):=by decide +kernel
  refine sW (by decide +kernel) yJ ?_;have c:=yI (.ref a) (.str "__class__" tk);simp only[checkBuiltinCall,j,l,isInstance];refine ak (ak (T.at (x.at ?_)));simp only[y0,g7,ig];refine wpAny_of_eq c ?_;refine ak (aP (ak (aP (ak (T.at (ak (m.at ?_)))))));show wpAny _ _ (bindTo (.builtin "getset_descriptor.__get__") (.builtin "object.__class__") (.ref a) (.ref C)) _ _ _;exact ak (iZ (jr (wc (s:=⟨s.heap,g,d,t,os⟩) T sub (aP ⟨rfl,rfl⟩))))
 obtain⟨p,g,d,t,os⟩:=s;simp only[getAttr?,getAttrBy?,getAttrBy];refine ak (wpAny_mkText (ak (uv (iZ (ak (T.at (ak (b.at ?_))))))));have h:(onTheHeap (Value.ref C) && Value.builtin "BaseException.__getattribute__" == Value.builtin "object.__getattribute__")=false:=by rw[show(Value.builtin "BaseException.__getattribute__" == Value.builtin "object.__getattribute__")=false by decide +kernel];rfl
 simp only[h,getAttrByItsOwn,hookBefore,g7,ig];refine ak (wpAny_ite ?_);rw[ae (show onTheHeap (Value.ref C)=true from rfl)];refine o.at (ak (uv (iZ ?_)));have bound:=yR.ga.bind (.ref a);simp only[callGetattribute,boundAndCalled,oV,g7,ig,bound];refine ak (aP (jr (js (f A t ⟨p,g,d,t+1,os⟩ rfl) λr u e=>?_)));obtain⟨rfl,rfl⟩:=e;exact Cj rfl (aP q)
end
section
variable{K:FG}{a C:Addr}{od:Option Addr}
theorem EL(p:ir a C od h):Co M h (typeOf (.ref a)) (.ref C):=by obtain⟨o,x,c,_⟩:=p;rw[<- c];exact(yX x).andThen .now
theorem wG(F:ExcCl K C)(e:pS K (.ref C) (.ref C)=some true):PySem.W.KitX K (.ref a) (.ref C) (ir a C od) where
 ty:=λ_ _ _ p=>EL p
 it:=λ_ _ k _=>(PySem.W.kit_cls k e).2.1
 ne:=λh x d i n f k t=>by
  rcases q:(Value.ref C == Value.ref x) with _|_
  .rfl
  .have same:C=x:=by simpa using q
   subst same;have s:=F.isC;unfold sY at s;split at s
   .next l=>exact nomatch (k _ _ l).symm.trans t
   .exact nomatch s
 ca:=λk p g=>EM F k (EL p) g
end
noncomputable def BJ(z:Str->Option Bool):D->aV->Option Bool
 | .p .non,_=>some false
 | .ref i,S=>match S[i]? with
  |some (.exc c _)=>z c
  |_=>none
 |_,_=>none
@[simp] def mm(z:Str->Option Bool)(f:EE)(L:Lc)(S:aV):tyV:=cY (f L S) λd h=>(BJ z d h).map λb=>(.bl b,h)
noncomputable def OP:Value->Option V
 | .ref C=>some (.ref C)
 | .type T=>some (.ty T)
 |_=>none
variable{v:V}{u:Value}
theorem Fd(h:OP u=some v)(r:RelV v w):w=u:=by cases u<;>cases h<;>exact r
structure AnsOk(K:FG)(ans:Str->Option Bool)(u:Value):Prop where
 non:bO K (.type "NoneType") u=some false
 exc:∀c b C,ans c=some b->bN K mainGlobals c=some (some (.ref C))->ExcCl K C/\pS K (.ref C) (.ref C)=some true/\bO K (.ref C) u=some b
section
variable{X:Cx}{a:Expr}{fa:EE}{p B:Pos}{z:Str->Option Bool}
theorem B6(l:OP u=some v)(K:AnsOk X.K z u) :
  fg X (.builtin "isinstance") (λt H Q=>∃F m S d b x,t=[x,v]/\Rel X.K F H m S/\RD X.K F H m d x/\BJ z d S=some b/\Q (.bl b) H):=by
 intro j s J H t us Q I r h;obtain⟨F,m,S,d,b,x,rfl,A,pd,i,q⟩:=h;obtain⟨k,D,rfl,n,B⟩:=vals2 r;cases Fd l B;have f:∀tk,EP X j J Q (.bool b) { s with toks:=tk }:=λtk=>⟨.bl b,H,I.tok _,rfl,q⟩
 unfold BJ at i;split at i
 .cases i;cases (show x=.non from pd);cases (show k=Value.none from n);exact eR xu I.kIn trivial K.non (λa=>nomatch a) f
 .split at i
  .next e c _ o=>obtain⟨ad,rfl,g⟩:=pd;cases (show k=Value.ref ad from n);obtain⟨C,od,y,w,_⟩:=A.obj _ ad _ g o;obtain⟨p,f2,f3⟩:=K.exc c b C i y;have P:=I.h ad _ w;exact eR (wG p f2) I.kIn P.1 f3 (λa=>nomatch a) f
  .cases i
 .cases i
theorem MV(C:OP u=some v)(K:AnsOk X.K z u)(P:Gl X "isinstance")(A:X.g "isinstance"=none)(j:PE X a (tE X.K fa))(o:PE X c (tC v))(n:starEach [a,c] X.e=[(false,eval a X.e),(false,eval c X.e)])(h:starEach [c] X.e=[(false,eval c X.e)]) :
  PE X (.Call (.Name "isinstance" p) [a,c] [] B) (tV X.K (mm z fa)):=
 (ko (B6 C K) P A tT (fG j (fG o jD (by rw[h];rfl)) (by rw[n,h])) (by decide) (by decide) (by rw[n,h]) (by rw[h];rfl)).imp' λJ H Q D=>by obtain⟨F,m,L,S,d,G,r,l,q,k⟩:=D;obtain⟨x,I,g,q⟩:=ao q;obtain⟨b,i,q⟩:=fV.mp q;cases q;exact⟨F,m,L,S,_,_,r,l,g,λy e f w s t E=>⟨e,f,_,x,b,y,rfl,t,E,i,k _ e f w s t rfl⟩⟩
end
@[simp] def PB(Z:List (Str×Str))(r:EE)(f:Str)(L:Lc)(S:aV):FK:=cY (r L S) λd h=>match d with
 | .ref i=>match h[i]? with
  |some (.exc c (some z))=>if (z.1=f/\Z.lookup c=some f) then some (.p z.2,h) else none
  |_=>none
 |_=>none
section
variable{X:Cx}{o:Expr}{f:Str}{B:Pos}{fo:EE}{Z:List (Str×Str)}{ta:TE}
noncomputable def S_(K:FG)(ta:TE)(f:Str):TE:=λJ H Q=>ta J H λx h=>∃a C d v,x=.ref a/\h a=some (.ext (ir a C (some d)))/\h d=some (.xd [(f,v)])/\ExcCl K C/\ExcSt K C f/\Q v h
theorem NQ(E:PE X o ta)(P:attributeBase o f X.e (eval o X.e)=eval o X.e):PE X (.Attribute o f B) (S_ X.K ta f):=by intro j s J H Q I h;refine A_ P (ez (E j s J H _ I h) λu z L=>?_);obtain⟨x,k,n,Z,a,C,d,v,K,S,F,c,g,q⟩:=L;subst K;obtain rfl:u=Value.ref a:=Z;obtain⟨⟨W,A,p,i,vs,y,_⟩,_,_⟩:=(show du X.p X.w k z.heap a (.ext (ir a C (some d))) from n.h a _ S);obtain⟨M,R,r⟩:=(show du X.p X.w k z.heap d (.xd [(f,v)]) from n.h d _ F);obtain⟨od,t,D⟩:=sv R;obtain⟨w,G,e⟩:=jQ.some_of (v:=v) (o:=M f) (by have:=r f;simpa[dP] using this);obtain⟨⟨cd,b,m,_⟩,_,N⟩:=g;obtain⟨oc,V,T,l⟩:=W;dsimp only at p i y;subst p i y;exact Kx.BR c.get c.hook c.bas n.kIn (N:=⟨.ref C,some d,.fields vs,l⟩) (od:=od) ⟨A,rfl,rfl,t⟩ (CD (by unfold tj;rw[b];exact m) N rfl (by rw[D,G])) (sH e) ⟨v,k,n.tok _,e,q⟩
theorem SG(K:∀c C,Z.lookup c=some f->bN X.K mainGlobals c=some (some (.ref C))->ExcCl X.K C/\ExcSt X.K C f)(E:PE X o (tE X.K fo))(P:attributeBase o f X.e (eval o X.e)=eval o X.e):PE X (.Attribute o f B) (tE X.K (PB Z fo f)):=
 (NQ E P).imp' λJ H Q I=>by
  obtain⟨F,m,L,S,d,V,r,l,q,k⟩:=I;obtain⟨x,b,u,q⟩:=ao q;refine⟨F,m,L,S,x,b,r,l,u,λv s M n T e R=>?_⟩;cases x with
  |p w=>cases q
  |ref i=>
   obtain⟨a,rfl,D⟩:=R;dsimp only at q;split at q
   .rename_i c z G;split at q
    .rename_i h;cases q;obtain⟨C,od,N,y,t,v,rfl,W,A,p⟩:=e.obj i a _ D G;obtain⟨g,j⟩:=K c C h.2 N;exact⟨a,C,t,v,rfl,y,by rw[A,h.1],g,j,k v s M n T e p⟩
    .cases q
   .cases q
end
theorem K5{K:FG}{h:Heap}{N:Addr}{x:Str}{u:Value}(k:K.In h)(q:bN K N x=some (some u)):h.nsMap N x=some u:=by
 cases lk:dP N K with
 |none=>simp[bN,lk]at q
 |some o=>
  obtain⟨c,d,a,s⟩:=o;cases a with
  |dict es n=>
   cases f:es.toList.find? (·.key.isStr x) with
   |none=>simp[bN,lk,f]at q
   |some e=>simp only[bN,lk,f]at q;simp only[Heap.nsMap,k _ _ lk,nsFind,findBy,<- zh,f];simpa using q
  |_=>simp[bN,lk]at q
def vJ(K:FG)(C:Addr)(f:Str):Prop:=ExcSt K C f/\∃I h p,Ug K C I/\(∀Pg w mg d,FnU Pg w K mg d I h p (QJ K f))/\∀(s:Shared)(e:Addr)(u:Value),K.In s.heap->BindsTo s h ⟨[.ref e,u],[]⟩ (p.zip [.ref e,u])
@[simp] def fB(c:EB)(f g:EX)(L:Lc)(S:aV):Mt:=cY (c L S) λk h=>if k=true then f L h else g L h
def dW(c:EB)(b:ES)(x:EX):Nat->Lc->aV->Option (XV×Lc×aV)
 |0,_,_=>none
 | n+1,L,S=>cY (c L S) fun k a=>if k=true then (match b L a with
  |some (.nx,L2,h)=>dW c b x n L2 h
  |some (.ct,L2,h)=>dW c b x n L2 h
  |some _=>none
  |none=>x L a) else none
def xD(n:Nat)(c:EB)(b:ES)(x:EX):EX:=dW c b x n
@[simp] def bp(M:Str->Str->Option GX)(o:EE)(L:Str)(s:pK)(h:Lc)(S:aV):Mt:=cY (o h S) λd x=>match d with
 | .ref i=>match x[i]? with
  |some (.ins c k _)=>match M c L with
   |some g=>if k.contains L=true then none else cY (s h x) λvs a=>(g (.ref i::vs) a).map λz=>(z.1,h,z.2)
   |none=>none
  |_=>none
 |_=>none
section
variable{X:Cx}{y bs cs Q:List Stmt}{e o:Expr}{es:Ab}{B apos:Pos}{f0 fb:ES}{f g fx:EX}{E:XK}{qa:EB}{n:Nat}{fo:EE}{I:pK}{L:Str}{M:Str->Str->Option GX}
theorem Qq(P:PT X c (tQ X.K qa))(o:iF X bs (tX X E f))(K:iF X cs (tX X E g)):PS X (.If c bs cs B) (tX X E (fB qa f g)):=(I_ P o K).imp' λD J H A=>by
 obtain⟨F,m,L,S,x,u,i,r,l,q,k⟩:=A;obtain⟨c,n,z,q⟩:=ao q;refine⟨F,m,L,S,c,n,r,l,z,λw j C s y=>?_⟩;cases c with
 |true=>exact⟨w,j,L,n,x,u,i,y,l.mono s,q,λe h t a od v p b d=>k e h t a od (s.trans v) p b d⟩
 |false=>exact⟨w,j,L,n,x,u,i,y,l.mono s,q,λe h t a od v p b d=>k e h t a od (s.trans v) p b d⟩
theorem GA(hp:PassesOwn (model X.p X.w) X.A X.e X.xe)(hc:PT X c (tQ X.K qa))(hb:iF X Q (jT X.K fb))(hx:iF X Q (tX X E fx)):PS X (.While c Q [] B) (tX X E (xD n qa fb fx)):=
 (wg hp hc (Kk hb hx)).imp' λD J H hz=>by
  obtain⟨F,m,L,S,x,o,P,r,l,q,k⟩:=hz;refine⟨λn N v=>∃h a L2 s,Stp F m H h a v/\Rel X.K h v a s/\RL X.K h v a N L2/\dW qa fb fx n L2 s=some (x,o,P),⟨n,F,m,L,S,.refl,r,l,q⟩,?_⟩;rintro n N v ⟨h,a,L2,s,I,r2,G,V⟩;cases n with
  |zero=>cases V
  |succ n=>
   obtain⟨c,u,Z,e⟩:=ao (show cY (qa L2 s) _=_ from V);refine⟨h,a,L2,s,c,u,r2,G,Z,λM T H3 t W=>?_⟩;cases c with
   |false=>cases e
   |true=>
    rw[ae rfl]at e ⊢;refine⟨λw f=>∃R,R < n+1/\∃h a L2 s,Stp F m H h a f/\Rel X.K h f a s/\RL X.K h f a w L2/\dW qa fb fx R L2 s=some (x,o,P),λ_ _ z=>z,?_⟩;cases C:fb L2 u with
    |none=>rw[C]at e;exact .inr ⟨M,T,L2,u,x,o,P,W,G.mono t,e,λw p i f od y j g xd=>k w p i f od (I.trans (t.trans y)) j g xd⟩
    |some z=>
     obtain⟨b,K,A⟩:=z;rw[C]at e;refine .inl ⟨M,T,L2,u,b,K,A,W,G.mono t,C,λw p i f y j g=>?_⟩;cases b with
     |nx=>exact⟨n,jx _,p,i,K,A,I.trans (t.trans y),j,g,e⟩
     |ct=>exact⟨n,jx _,p,i,K,A,I.trans (t.trans y),j,g,e⟩
     |bk=>cases e
     |rt d=>cases e
theorem As(G:FnOk X.p X.w X.K X.g X.b (xk X.p X.w) k fa N ps (Dg X.K gx))(i:Room k X.A)(d:Binds X.K N ps [])(y:bN X.K mainGlobals l=some (some (.ref C)))
  (I:Inv X j J H s) (v:bB vs us) (q:Dg X.K gx vs H b (λcls od x=>cls=.ref C/\nj X l od J x)):wx X (call (.ref fa) us) (EP X j J b) X.xe s:=by
 have w:us.length=ps.length:=by rw[<- v.length];exact G.len _ _ _ _ q
 refine jr (js (G.run X.A X.k s H ⟨us,[]⟩ us vs b _ i I.env0 (by have:=d s us I.kIn (by simpa using w);simpa using this) v q) λF K h=>?_);cases F with
 |error A=>obtain⟨a,cls,m,n,B,od,rfl,os,r,un,e,g,t,c,p,f,P,rfl,S⟩:=h;exact S C y j H s (λcls o x=>cls=.ref C/\o=od/\x=n) _ K I ⟨a,.ref C,m,n,B,od,rfl,os,r,un,e,g,t,c,p,f,P,rfl,rfl,rfl⟩ λcls o x z=>z
 |ok f=>
  cases f with
  |ret u=>exact I.after h
  |next=>exact False.elim h
  |brk=>exact False.elim h
  |cont=>exact False.elim h
def Mq(X:Cx)(M:Str->Str->Option GX):Prop:=∀c L g,M c L=some g->∃C k f d p,gM X.K c C/\Cls X.K C/\Meth X.K C L f/\FnOk X.p X.w X.K X.g X.b (xk X.p X.w) k f d p (Dg X.K g)/\B3 X.K g/\Room k X.A/\Binds X.K d p []
theorem wC(q:bp M fo L I k S=some (x,b,r)):∃i h c s e g vs a,fo k S=some (.ref i,h)/\h[i]? = some (.ins c s e)/\M c L=some g/\¬s.contains L=true/\I k h=some (vs,a)/\g (.ref i::vs) a=some (x,r)/\b=k:=by
 obtain⟨d,h,n,q⟩:=ao q;cases d with
 |p w=>cases q
 |ref i=>
  dsimp only at q;split at q
  .rename_i c s e u;split at q
   .rename_i g t;split at q
    .cases q
    .rename_i v;obtain⟨vs,a,f,q⟩:=ao q;obtain⟨⟨l,j⟩,m,q⟩:=fV.mp q;cases q;exact⟨i,h,c,s,e,g,vs,a,n,u,t,v,f,m,rfl⟩
   .cases q
  .cases q
theorem JB(hM:Mq X M)(ho:PE X o (tE X.K fo))(ha:PA X (e::es) (vX X.K I))(D:starEach (e::es) X.e=(false,eval e X.e)::starEach es X.e)(A:(backTo B (starEach es X.e)).any (·.1)=false)
  (ht:eval (.Call (.Attribute o L apos) (e::es) [] B) X.e=(do
   let ov <- eval o X.e
   standAt apos.atName
   let (f,first) <- holding [ov] (getMethod ov L pl)
   callWith B f first (backTo B (starEach (e::es) X.e)) (backToKw B (keywordEach [] X.e)))) :
  PE X (.Call (.Attribute o L apos) (e::es) [] B) (GY X (bp M fo L I)):=λj s J H Q h E=>by
 obtain⟨F,m,n,S,x,V,S',r,l,q,kk⟩:=E;obtain⟨i,W,c,ks,ds,gx,vs,Z,e1,hs,hg,hk,e2,eg,rfl⟩:=wC q;obtain⟨Cc,k,f,fd,ps,ec,hc,hm,G,cl,hr,hb⟩:=hM c L gx hg;obtain⟨C,ns⟩:=cl _ _ _ _ eg;refine tq (pl:=pl) (ez (ho j s J H (λy t=>∃a d b,y=.ref a/\t a=some (.ins Cc d b)/\b.lookup L=none/\vX X.K I J t λN g=>Dg X.K gx (y::N) g Q (λcls od z=>cls=.ref C/\nj X x.1 od J z)) h ⟨F,m,V,S,.ref i,W,r,l,e1,λv F1 m1 t p r1 p1=>?_⟩) λu p ⟨y,t,R,rx,a,d,b,ex,ea,lo,q1⟩=>?_) ht
 .obtain⟨a,rfl,P⟩:=id p1;obtain⟨C',d,b,K,hH,rfl,rs⟩:=r1.obj i a _ P hs;cases gM.inj ec K;refine⟨a,d,b,rfl,hH,pE (by simpa using hk),F1,m1,V,W,vs,Z,r1,l.mono p,e2,λxs F2 m2 g w r2 p2=>?_⟩;exact⟨F2,m2,.ref i::vs,Z,x,S',r2,⟨_,_,rfl,RD.mono w p1,p2⟩,eg,λF3 m3 z od s3 r3 xd=>⟨C,ns,rfl,kk J F3 m3 z od (p.trans (w.trans s3)) r3 (l.mono (p.trans (w.trans s3))) xd⟩⟩
 subst ex;obtain rfl:u=Value.ref a:=rx;refine jI R ea hc hm lo ?_;refine pV (first:=[.ref a]) (h₀:=X.b) h.o.mod.kin hm.kp (ez (ha B j p J t _ R q1) λus w E=>?_) D A;obtain⟨N,g,T,rv,q2⟩:=E;refine⟨T.kIn,?_⟩;exact As (us:=.ref a::us) (vs:=.ref a::N) G hr hb ns T (.cons rfl rv) q2
theorem Gx(hM:Mq X M)(ho:PE X o (tE X.K fo))
  (ht:eval (.Call (.Attribute o L apos) [] [] B) X.e=(do
   let N <- eval o X.e
   standAt apos.atName
   let (f,first) <- holding [N] (getMethod N L pl)
   callWith B f first (backTo B (starEach [] X.e)) (backToKw B (keywordEach [] X.e)))) :
  PE X (.Call (.Attribute o L apos) [] [] B) (GY X (bp M fo L a')):=λj s J H Q I hz=>by
 obtain⟨F,m,h,S,x,L',S',r,l,q,kk⟩:=hz;obtain⟨i,z,c,ks,ds,P,vs,S2,e1,hs,hg,hk,e2,K,rfl⟩:=wC q;cases e2;obtain⟨V,k,f,fd,ps,ec,hc,A,G,cl,hr,hb⟩:=hM c L P hg;obtain⟨C,D⟩:=cl _ _ _ _ K;refine tq (pl:=pl) (ez (ho j s J H (λy n=>∃a d e,y=.ref a/\n a=some (.ins V d e)/\e.lookup L=none/\Dg X.K P [y] n Q (λcls od b=>cls=.ref C/\nj X x.1 od J b)) I ⟨F,m,L',S,.ref i,z,r,l,e1,λv W m1 n g R E=>?_⟩) λu g ⟨y,n,t,rx,a,d,e,ex,ea,lo,q1⟩=>?_) ht
 .obtain⟨a,rfl,w⟩:=id E;obtain⟨C',d,e,p,hH,rfl,rs⟩:=R.obj i a _ w hs;cases gM.inj ec p;exact⟨a,d,e,rfl,hH,pE (by simpa using hk),W,m1,[.ref i],z,x,S',R,⟨_,_,rfl,E,rfl⟩,K,λZ m3 b od T r3 xd=>⟨C,D,rfl,kk J Z m3 b od (g.trans T) r3 (l.mono (g.trans T)) xd⟩⟩
 subst ex;obtain rfl:u=Value.ref a:=rx;refine jI t ea hc A lo ?_;exact CC (first:=[.ref a]) t.kIn A.kp (As (us:=[.ref a]) (vs:=[.ref a]) G hr hb D t (.cons rfl .nil) q1)
end
section
variable{X:Cx}{j:PN}{J:L2.St}{H:Hp}{s:Shared}
theorem x'(l:Leaves X E)(h:Inv X j J (upd (upd H e (.ext φ)) k (.xd I)) s)(R:H e=none)(A:k≠e)(C:X.z.heap.get? e=none)
  (p:s.heap.get? e=some N) (P:N.data=.fields vs) (y:N.dict=some k) (W:vs[0]? = some a0) (v1:vs[1]? = some .none) (q:E N.cls (some k) (upd H k (.xd I))):X.xe (.ref e) s:=by
 have S:X.A.frames=some (X.e::X.o):=by rw[<- l.stk];exact h.o.frames
 have ge:upd (upd H e (.ext φ)) k (.xd I) e=some (.ext φ):=by rw[aR (cI A),bc]
 have g:∀b,b≠e->upd (upd H e (.ext φ)) k (.xd I) b=upd H k (.xd I) b:=λb z=>by
  by_cases f:b=k
  .subst f;rw[bc,bc]
  .rw [aR f,aR z,aR f]
 have K:upd H k (.xd I) e=none:=by rw[aR (cI A)];exact R
 have i:∀b o,b≠e->s.heap.get? b=some o->b ∉ ke X.k->(pT s.heap (e::ke X.k)).get? b=some o:=λb o z x n=>CF _ x λm=>(ay.mp m).elim z n;have r:(pT s.heap (e::ke X.k)).get? e=none:=CG _ (List.Mem.head _);have trk:∀b u,upd H k (.xd I) b=some u->b≠e/\b ∉ ke X.k:=λb u z=>by
  have nb:b≠e:=λw=>by rw[w,K]at z;cases z
  exact⟨nb,λw=>by have:=h.stkFree b w;rw[g b nb,z]at this;cases this⟩
 have D:s.heap.FunFrames (pT s.heap (e::ke X.k)) (X.e::X.o):=by rw[<- l.stk];exact PySem.W.funFrames_hide h.stack λd p b f=>.tail _ (pb.mpr ⟨d,p,f⟩)
 rw[l.xe];refine bK ((Kd.sC X.e (.ref e)).wpAny (wpAny_leaving_firstW (Q:=λ_ B=>∃a,Heap.LeftW (pT s.heap (e::ke X.k)) (X.e::X.o) e N.cls a0 s.heap a/\B={ s with heap:=a }) S D l.frm p (λb o z=>CA _ z) r P v1 W λa z=>⟨a,z,rfl⟩)) (λ_ B z=>?_) λ_ _ z=>z.1;obtain⟨⟨a,⟨G,⟨_,_,L⟩,M,_⟩,rfl⟩,F⟩:=z;have V:Mp e (some k) a:=Mp.dk ⟨N,vs,p,y,P,λw=>nomatch w⟩ F;have tr:∀b u,upd (upd H e (.ext φ)) k (.xd I) b=some u->(∀ψ,u≠.ext ψ)->upd H k (.xd I) b=some u:=λb u z T=>by rw[<- g b (λw=>by rw[w,ge]at z;cases z;exact T _ rfl)];exact z
 have un:Un (ke X.k) [] (upd (upd H e (.ext φ)) k (.xd I)) (upd H k (.xd I)) s.heap s.heap:=by refine⟨λb o z n _ _=>z,λb o z n _ _=>⟨o.slots,z⟩,λb o z n _=>?_,λb o z _=>⟨o,z⟩,λb Z z=>tr b _ z (λ_ w=>nomatch w),λb o u z=>tr b _ z (λ_ w=>nomatch w),λb ps z=>⟨#[],by rw[Array.append_empty];exact tr b _ z (λ_ w=>nomatch w)⟩⟩;rw[<- g b (λw=>by rw[w,ge]at n;cases n)];exact n
 have t:j7 X.p X.w (upd H k (.xd I)) s.heap:=λb v z=>(h.h b v (by rw[g b (trk b v z).1];exact z)).stay (λ_ _ _ q=>q) (λc x=>tr c _ x (λ_ w=>nomatch w)) λc Z x=>tr c _ x (λ_ w=>nomatch w);exact Ov l h un C (λb o z x n=>⟨o,i b o z x n⟩) (λb o z x _ n=>i b o z x n) t (λb u o z x=>i b o (trk b u z).1 x (trk b u z).2) K (Kd.DK.up F) ⟨G,r,L,M⟩ V rfl h.bare q
end
@[simp] def cL(d f:Str)(v:EV)(L:Lc)(S:aV):Mt:=cY (v L S) λp h=>some ((d,some (f,p)),L,h)
section
variable{X:Cx}{E:XK}
theorem CS{d f:Str}{D:Addr}{arg:Expr}{fv:EV}{np y B:Pos}(R:Leaves X E)(i:X.c=true)(hr:X.A.depth+5 < recursionLimit)(gl:Gl X d)(ns:bN X.K mainGlobals d=some (some (.ref D)))(V:X.g d=some (.ref D))(G:(d == ("__debug__":Str))=false)(q:vJ X.K D f)
  (ha:PE X arg (tV X.K fv)) (K:starEach [arg] X.e=[(false,eval arg X.e)]) :
  PS X (.Raise (some (.Call (.Name d np) [arg] [] y)) none B) (tX X E (cL d f fv)):=λj s J H D' I hz=>by
 obtain⟨F,m,L,S,x,L',S',r,l,Z,k⟩:=hz;obtain⟨p,S1,e1,Z⟩:=ao Z;cases Z;obtain⟨g,fI,fd,ps,xi,fu,hb⟩:=q;obtain⟨tl,N,oC,oI,lk,xo,q4,q5,q6,Q,M⟩:=xi;have T:=CB I.kIn q4;rw[arm_exec_Raise];refine ak (pL ?_);refine Kx.xQ xo (T.hasType yQ.hasBase) (I.o.hd i) ?_;refine ak ?_;refine Kx.BS (N:=N) (fI:=fI) (tl:=tl) (mp:=X.b.nsMap N) (o:=oC) (oI:=oI) (by rw[K];rfl) (lc I gl V ⟨rfl,?_⟩ G);rw[K];refine tW (oZ ?_);show wpAny _ _ (eval arg X.e) _ _ s;refine bK (ha j s J H (λv a=>∃h w,Stp F m H h w a/\Rel X.K h a w S'/\RP X.K h a p v) I ⟨F,m,L,S,p,S',r,l,e1,λv h w H1 A r1 W=>⟨h,w,A,r1,W⟩⟩) (λu s2 z=>tU ?_) λ_ _ z=>z;obtain⟨v,a,n,ru,h,w,A,r1,W⟩:=z;refine⟨rfl,(by show 1≤sizeLine;decide),⟨xo,n.kIn _ _ lk,CB n.kIn q4,(Heap.Ns.of_isNs (PySem.W.isNs_of_in I.o.mod.kin q5)).keeps n.bk,q6 _ I.o.mod.kin,n.kIn _ _ Q,M⟩,λh1 e hx=>?_⟩;have b0:X.z.heap.get? e=none:=by
  cases q:X.z.heap.get? e with
  |none=>rfl
  |some o=>obtain⟨o',z⟩:=n.base.there _ o q (by rw[R.ex];simp);rw[hx.new]at z;cases z
 refine bK (Bt n R.ex rfl (by rw[qH];show X.A.depth+1+4 < _;lia) hx (fu _ _ _ _) (λs' z=>hb s' e u z) g ru) (λr s3 z=>?_) λ_ _ z=>z.elim;obtain⟨rfl,c,n1,n2,ne,C⟩:=z;refine⟨rfl,ak (pL (aP ?_))⟩;obtain⟨⟨t,he⟩,_,_⟩:=(show du X.p X.w _ s3.heap e (.ext (u_ e D c)) from C.h e _ (by rw[aR (cI ne),bc]));have P:Grow h a (λb=>h b\/b=c) (upd a c (.xd [(f,v)])):=cX n2;exact⟨e,t,some c,#[],rfl,C.kIn _ _ lk,he,x' R C n1 ne b0 he rfl rfl rfl rfl (k J _ w _ (some c) (A.trans P.stp) (r1.grow P) (l.mono (A.trans P.stp)) ⟨c,v,rfl,.inr rfl,bc,RP.grow P W⟩ D ns)⟩
end
structure AnsOkT(K:FG)(ans:Str->Option Bool)(us:LV):Prop where
 non:ny K (.type "NoneType") us=some false
 exc:∀c b C,ans c=some b->bN K mainGlobals c=some (some (.ref C))->ExcCl K C/\pS K (.ref C) (.ref C)=some true/\ny K (.ref C) us=some b
inductive ClVs:LV->List V->Prop
 |nil:ClVs [] []
 |cons {u v us vs}:OP u=some v->ClVs us vs->ClVs (u::us) (v::vs)
variable{us:LV}{vs:List V}
theorem ClVs.eq(h:ClVs us vs)(r:bB vs k):k=us:=by
 induction h generalizing k with
 |nil=>cases r;rfl
 |cons h _ i=>
  cases r with
  |cons x a=>rw[Fd h x,i a]
theorem ClVs.len(h:ClVs us vs):vs.length=us.length:=by
 induction h with
 |nil=>rfl
 |cons _ _ i=>simp[i]
section
variable{X:Cx}{a:Expr}{fa:EE}{p B:Pos}{z:Str->Option Bool}
theorem B7(M:ClVs us vs)(K:AnsOkT X.K z us) :
  fg X (.builtin "isinstance") (λy H Q=>∃F m S d b x t,y=[x,.ref t]/\H t=some (.tup vs)/\Rel X.K F H m S/\RD X.K F H m d x/\BJ z d S=some b/\Q (.bl b) H):=by
 intro j s J H y ws Q I r h;obtain⟨F,m,S,d,b,x,t,rfl,L,V,pd,i,q⟩:=h;obtain⟨g,u2,rfl,u,Z⟩:=vals2 r;cases (show u2=Value.ref t from Z);obtain⟨_,N,W,o,w,⟨P,n,A⟩,k⟩:=I.h t _ L;cases M.eq W;obtain⟨cls,v,p,l⟩:=o;cases P;cases A;cases k;have f:∀tk,EP X j J Q (.bool b) { s with toks:=tk }:=λtk=>⟨.bl b,H,I.tok _,rfl,q⟩
 unfold BJ at i;split at i
 .cases i;cases (show x=.non from pd);cases (show g=Value.none from u);exact Cr xu I.kIn trivial w K.non (λa=>nomatch a) f
 .split at i
  .next e c _ G=>obtain⟨ad,rfl,E⟩:=pd;cases (show g=Value.ref ad from u);obtain⟨C,od,R,D,_⟩:=V.obj _ ad _ E G;obtain⟨B,f2,f3⟩:=K.exc c b C i R;have T:=I.h ad _ D;exact Cr (wG B f2) I.kIn T.1 w f3 (λa=>nomatch a) f
  .cases i
 .cases i
theorem MW(v:ClVs us vs)(P:us.length≤100)(K:AnsOkT X.K z us)(o:Gl X "isinstance")(A:X.g "isinstance"=none)(g:PE X a (tE X.K fa))(j:PA X cs (λ_ H Q=>Q vs H))(f:∀es e,starEach (a::es) e=(false,eval a e)::starEach es e) :
  PE X (.Call (.Name "isinstance" p) [a,.Tuple cs N tp] [] B) (tV X.K (mm z fa)):=
 (ko (B7 v K) o A tT (fG g (fG (DI j) jD rfl) (by rw[f])) (by decide) (by decide) (by rw[f]) rfl).imp' λJ H Q C=>by obtain⟨F,m,L,S,d,G,r,l,q,k⟩:=C;obtain⟨x,I,u,q⟩:=ao q;obtain⟨b,i,q⟩:=fV.mp q;cases q;refine⟨F,m,L,S,_,_,r,l,u,λy n c E s w D=>⟨?_,λt h=>⟨n,c,_,x,b,y,t,rfl,bc,w.grow (cG h),RD.mono (cG h).stp D,i,k _ n c _ (s.trans (cG h).stp) (w.grow (cG h)) rfl⟩⟩⟩;rw[v.len];exact ce P (by decide)
end
noncomputable def B':List D->Option (List P)
 | []=>some []
 | .p v::r=>(B' r).map λvs=>v::vs
 |_::_=>none
theorem Bd{K:FG}{F:Aa}{H:Hp}{m:List Addr}:∀{d:List D}{s:List V}{ps:List P},B' d=some ps->fy K F H m d s->dZ K F H ps s
 | [],s,ps,h,r=>by cases h;exact r
 | .ref _::_,_,_,h,_=>by cases h
 | .p v::d,s,ps,h,r=>by obtain⟨vs,a,rfl⟩:=fV.mp h;obtain⟨x,n,rfl,p,e⟩:=r;exact⟨x,n,rfl,p,Bd a e⟩
theorem Bc:∀ps:List P,B' (ps.map .p)=some ps
 | []=>rfl
 |p::ps=>by simp[B',Bc ps]
def IZ(d:D)(i j:Option Int)(S:aV):Option P:=match d with
 | .p x=>fC x i j
 | .ref k=>match S[k]? with
  |some (.lst s)=>(B' s).map λp=>.lst (cut p i j)
  |some (.fz v)=>fC v i j
  |_=>none
@[simp] def rj(a:EE)(lo s:EO)(L:Lc)(S:aV):tyV:=cY (a L S) λd x=>cY (lo L x) λi e=>cY (s L e) λj h=>(IZ d i j h).map λv=>(v,h)
section
variable{X:Cx}
theorem IY{F:Aa}{m:List Addr}{H:Hp}{S:aV}{x w:P}{v:V}{i j:Option Int}{Q:VK}(r:Rel X.K F H m S)(b:RP X.K F H x v)(q:fC x i j=some w)(k:∀u c f,Stp F m H c m f->Rel X.K c f m S->RP X.K c f w u->Q u f) :
  ((∃a s,v=V.ref a/\j6 X.K H a s/\∀p,H p=none->Q (.ref p) (upd H p (.lst (rS s i j))))\/(∃a s,v=V.ref a/\sS X.K H a s/\¬(HT.eQ s.length 0 i=0/\HT.eQ s.length s.length j=s.length)/\∀p,H p=none->Q (.ref p) (upd H p (.tup (rS s i j))))\/∃a s,v=V.ref a/\sS X.K H a s/\HT.eQ s.length 0 i=0/\HT.eQ s.length s.length j=s.length/\Q (.ref a) H)\/∃z,v=.str z/\z.length≤sizeLine/\Q (.str (Txt.slice z i j)) H:=by
 cases x with
 |lst d=>cases q;obtain⟨a,s,rfl,ta,e⟩:=b;exact .inl (.inl ⟨a,s,rfl,ta.sq,λp h=>k _ _ _ (cX h).stp (r.grow (cX h)) (.newLst h (e.cut i j))⟩)
 |ro d=>cases q;obtain⟨a,s,rfl,ta,e⟩:=b;exact .inl (.inl ⟨a,s,rfl,ta.sq,λp h=>k _ _ _ (cX h).stp (r.grow (cX h)) (.newLst h (e.cut i j))⟩)
 |tup d=>
  obtain⟨a,s,rfl,ta,e⟩:=b;cases q;by_cases n:HT.eQ s.length 0 i=0/\HT.eQ s.length s.length j=s.length
  .have t:cut d i j=d:=by
    unfold cut;rw[e.length,n.1,n.2,ma,zH,<- e.length,t_]
   rw[t]at k;exact .inl (.inr (.inr ⟨a,s,rfl,ta.sq,n.1,n.2,k _ F H .refl r ⟨a,s,rfl,ta,e⟩⟩))
  .exact .inl (.inr (.inl ⟨a,s,rfl,ta.sq,n,λp h=>k _ _ _ (cG h).stp (r.grow (cG h)) (.newTup h (e.cut i j))⟩))
 |str z=>
  cases (show v=.str z from b);simp only[fC]at q;split at q
  .rename_i t;cases q;exact .inr ⟨z,rfl,h7 t,k _ F H .refl r rfl⟩
  .cases q
 |_=>cases q
theorem Qd{e:Expr}{lo D:Option Expr}{fa:EE}{C A:EO}{B p2:Pos}(he:PE X e (tE X.K fa))(hl:PO X lo (tO X.K C))(hh:PO X D (tO X.K A)):PE X (.Subscript e (.Slice lo D none p2) B) (tV X.K (rj fa C A)):=
 (wj ((Ao.or (Di.or v5)).or Dk) he hl hh).imp' λJ H Q hz=>by
  obtain⟨F,m,L,S,d,o,r,l,q,k⟩:=hz;obtain⟨x,K,V,q⟩:=ao q;obtain⟨i,P,W,q⟩:=ao q;obtain⟨j,S3,Z,q⟩:=ao q;obtain⟨d,h,q⟩:=fV.mp q;cases q;refine⟨F,m,L,S,x,K,r,l,V,λv M m1 H1 y r1 p1=>?_⟩;refine⟨M,m1,L,K,i,P,r1,l.mono y,W,λN m2 H2 z r2=>?_⟩;refine⟨N,m2,L,P,j,o,r2,(l.mono y).mono z,Z,λR c T I b=>?_⟩;have G:=RD.mono I (RD.mono z p1);have ss:=y.trans (z.trans I);have g:∀u f s,Stp R c T f c s->Rel X.K f s c o->RP X.K f s d u->Q u s:=λu f s s4 r4 p4=>k u f c s (ss.trans s4) r4 p4;unfold IZ at h;cases x with
  |p x=>exact IY b G h g
  |ref n=>
   obtain⟨a,rfl,E⟩:=id G;dsimp only at h;split at h
   .rename_i ds w;obtain⟨ps,h1,rfl⟩:=fV.mp h;obtain⟨xs,hH,rs⟩:=b.obj n a _ E w;have ra:=Bd h1 rs;exact .inl (.inl ⟨a,xs,rfl,j6.of hH,λp t=>g _ _ _ (cX t).stp (b.grow (cX t)) (.newLst t (ra.cut i j))⟩)
   .rename_i v w;exact IY b (b.obj n a _ E w) h g
   .cases h
end
noncomputable def nP(E:List (Str×LS))(R:LS)(s:LS)(c:Str):Option Bool:=if R.contains c=true then (E.lookup c).map λa=>s.any λt=>a.contains t else none
end Ev
set_option tactic.hygienic false
namespace Ev
open PySem PySem.Spec PyProof.Rows L2
def hZ(g:GF)(ps:List P):Option P:=match g (ps.map .p) [] with
 |some (d,S)=>(uH 9 d S).map (·.1)
 |none=>none
@[simp] noncomputable def bz:Option (Fl×Lc×aV)->Option (D×aV)
 |some (.rt d,_,S)=>some (d,S)
 |some (.nx,_,S)=>some (.p .non,S)
 |_=>none
def bE(p n:Nat)(b:ES):GF:=λd S=>if d.length=p then bz (b (d.map some++List.replicate (n-d.length) none) S) else none
theorem Rel.nil{K:FG}{F:Aa}{H:Hp}(f:∀a,F a->H a≠none):Rel K F H [] []:=⟨rfl,by simp,by simp,by simp,by simp,f⟩
theorem qv{K:FG}{g:GF}{n:List V}{H:Hp}{Q:VK}{E:XK}(h:Pl K (hZ g) n H Q E):rz K g n H Q E:=by
 obtain⟨F,s,d,t,r,q,k⟩:=h;unfold hZ at q;cases e:g (s.map .p) [] with
 |none=>rw[e]at q;cases q
 |some z=>
  obtain⟨a,S⟩:=z;rw[e]at q;dsimp only at q;cases x:uH 9 a S with
  |none=>rw[x]at q;cases q
  |some l=>obtain⟨p,o⟩:=l;rw[x]at q;cases q;refine⟨F,[],s.map .p,[],a,S,.nil t,fy.ofP r,e,λv y P b i m u=>?_⟩;obtain⟨f,j,w,_,c⟩:=nB 9 x m u;exact k v f b ((i.trans j).toGrow w.ft) c
theorem FnOk.pure{P:Program}{w:World}{K:FG}{m:SV}{base:Heap}{f:Addr}{d:FuncData}{ps:LS}{k:Nat}{g:GF}(G:FnOk P w K m base re k f d ps (rz K g)):FnOk P w K m base re k f d ps (Pl K (hZ g)):=
 FnOk.imp G λ_ _ _ _ h=>qv h
theorem fy.toSt{K:FG}{F:Aa}{H:Hp}{m:List Addr}{s:List D}{a:List V}{N:LS}(r:fy K F H m s a):RL K F H m (L2.start N a) (s.map some++List.replicate (N.length-s.length) none):=by
 have l:=r.length;refine⟨by unfold L2.start;simp[l],λi d e=>?_⟩;by_cases h:i < s.length
 .rw [fF (by simpa using h),kR]at e;cases q:s[i]? with
  |none=>rw[q]at e;cases e
  |some v=>rw[q]at e;cases e;obtain⟨x,n,p⟩:=r.get q;refine⟨x,?_,p⟩;unfold L2.start;rw[fF (by simpa[<- l] using h),kR,n];rfl
 .rw [iM (by simpa using h),ue]at e;split at e<;>cases e
theorem LC{P:Program}{w:World}{K:FG}{i:SV}{base:Heap}{x u:Str}{st:Stmt}{f:Addr}{p:FuncData}{N ps:LS}{k:Nat}{b:ES}(F:Fun K x u st f p)(S:FnScope N ps (af st))
  (G:∀(c:Value) (A:Around) (o:List Env) (s:Shared) (H:Hp) (E:XK),Room k (A.deeper (envOfC u (af st) s.heap.objs.size f c)) ->
   iF (oz re P w K i base N u (af st) f c A o s H E).nox (aD st) (jT K b)):FnOk P w K i base re (k+1) f p ps (rz K (bE ps.length N.length b)):=by
 refine F.ok S (λR H Q E h=>?_) (λc A o s H R Q E I h=>⟨_,G c A o s H E I,?_⟩)
 .obtain⟨F,m,a,S,d,C,y,r,q,k⟩:=h;rw[<- r.length];unfold bE at q;split at q
  .assumption
  .cases q
 .obtain⟨F,m,a,S,d,C,y,r,q,k⟩:=h;unfold bE at q;split at q
  .cases e:b (a.map some++List.replicate (N.length-a.length) none) S with
   |none=>rw[e]at q;cases q
   |some z=>
    obtain⟨l,L,D⟩:=z;rw[e]at q;refine⟨F,m,_,S,l,L,D,y,r.toSt,e,λT n g t B j W=>?_⟩;cases l with
    |nx=>cases q;exact k .non n g t B j rfl
    |bk=>cases q
    |ct=>cases q
    |rt V=>intro v M;cases q;exact k v n g t B j M
  .cases q
theorem EH{P:Program}{w:World}{K:FG}{g:SV}{base:Heap}{f:Addr}{x:FuncData}{ps:LS}{k:Nat}:FnOk P w K g base re k f x ps (rz K λ_ _=>none):=by
 have n:∀v H Q E,¬rz K (λ_ _=>none) v H Q E:=λv H Q E h=>by obtain⟨F,m,b,S,d,e,_,_,q,_⟩:=h;cases q
 exact⟨λv H Q E h=>absurd h (n v H Q E),λA o s H a u v Q E _ _ _ _ h=>absurd h (n v H Q E)⟩
structure Tr where
 v:Option EV:=none
 e:Option EE:=none
 b:Option EB:=none
 w:Option EB:=none
def Tr.ofV(f:Option EV):Tr:=⟨f,f.map U,f.map λg=>bT (U g),f.map bV⟩
def Tr.ofC(f:Option EV):Tr:=⟨f,f.map U,f.map bV,f.map bV⟩
def Tr.ofE(f:Option EE):Tr:=⟨f.map vE,f,f.map bT,f.map λg=>bV (vE g)⟩
def Tr.ofB(b w:Option EB):Tr:=⟨w.map vB,w.map λg=>U (vB g),b,w⟩
structure Cn where
 N:LS
 own:LS
 deep:LS
 refs:LS
 ks:List (Str×NameKind)
 F:Str->Option GF
 G:Str->Option P
 A:Str->Str->Bool
 M:Str->Str->Option GF
 I:Str->Option GF
 E:List (Str×LS)
 R:LS
 Y:Str->Option GX
 W:Str->Str->Option GX
noncomputable def i9:LS->Str->Option Nat
 | [],_=>none
 |y::r,x=>if y=x then some 0 else (i9 r x).map (·+1)
set_option tactic.hygienic true in
theorem qM:∀{N:LS}{x:Str}{i:Nat},i9 N x=some i->N[i]? = some x
 | [],_,_,h=>by cases h
 |y::r,x,i,h=>by
  unfold i9 at h;split at h
  .rename_i e;cases h;simp[e]
  .cases q:i9 r x with
   |none=>rw[q]at h;cases h
   |some j=>rw[q]at h;cases h;simpa using qM q
theorem nW:∀{N:LS}{x:Str}{i:Nat},N.Nodup->N[i]? = some x->i9 N x=some i
 | [],_,_,_,h=>by simp at h
 |y::r,x,0,_,h=>by
  have:y=x:=by simpa using h
  unfold i9;rw[ae this]
 |y::r,x,i+1,d,h=>by
  have a:r[i]? = some x:=by simpa using h
  have n:¬y=x:=λe=>by subst e;exact(g8.mp d).1 (eL a)
  unfold i9;rw[ai n,nW (g8.mp d).2 a];rfl
noncomputable def b_(s:List (Str×NameKind))(x:Str)(l:List NameKind):Bool:=match s.lookup x with
 |some k=>l.contains k
 |none=>false
noncomputable def dJ(x:Str):Bool:=!(x == ("__debug__":Str)) && !(x == ("__classdict__":Str))
noncomputable def Jp(E:List (Str×LS))(t:Str):Bool:=E.any (λx=>decide (x.1=t)) ||decide (t=("ValueError":Str))
noncomputable def nc(E:List (Str×LS))(R:LS)(t c:Str):Option Bool:=if R.contains c=true then (E.lookup c).map λa=>a.contains t else none
noncomputable def FM:List (Str×Str):=[("NoText","place")]
def Sn:Operator->Option (P->P->Option P)
 | .Add=>some bH
 | .Sub=>some LQ
 | .Mult=>some kF
 | .FloorDiv=>some vq
 | .Mod=>some Ig
 | .Pow=>some LR
 |_=>none
def Sk:CmpOp->Option (P->P->Option P)
 | .Lt=>some Rv
 | .LtE=>some Rw
 | .Gt=>some PM
 | .GtE=>some Ry
 |_=>none
def LZ:CmpOp->Option (D->D->aV->Option P)
 | .Eq=>some BN
 | .NotEq=>some MB
 | .In=>some gk
 | .NotIn=>some iu
 | .Is=>some LA
 |_=>none
def qm:List (Option EV)->Option jR
 | []=>some gu
 |a::r=>a.bind λf=>(qm r).map λg=>aZ f g
def rn:List (Option EE)->Option pK
 | []=>some a'
 |a::r=>a.bind λf=>(rn r).map λg=>gX f g
def vR(o:BoolOp):List (Option EB)->Option EB
 | []=>none
 | [a]=>a
 |a::r=>a.bind λf=>(vR o r).map λg=>match o with | .And=>cH f g | .Or=>pJ f g
def Nn(o:Option (Option EV)):Option EO:=match o with
 |none=>some cW
 |some a=>a.map bM
noncomputable def Ef:Option Expr->Option Str
 |some (.Constant (.str x) _ _)=>some x
 |_=>none
def JV:List (Option Expr)->List (Option EV)->Option DE
 | [],[]=>some vp
 |k::s,v::h=>(Ef k).bind λx=>v.bind λf=>(JV s h).map λr=>eC x f r
 |_,_=>none
noncomputable def Em(t:Str):Option String:=if t=("int":Str) then some "int" else if t=("bool":Str) then some "bool" else if t=("tuple":Str) then some "tuple" else none
def sN(f:Str):Option (List P->Option P):=
 if f=("int":Str) then some fK else if f=("max":Str) then some jV else if f=("min":Str) then some gw else if f=("str":Str) then some n3 else none
noncomputable def IC:LS:=["len","isinstance","int","bool","tuple","list","str","max","min","dict","range","abs","enumerate","sorted","all","any","sum","set","zip"]
noncomputable def se(a s:List (Str×NameKind)):List (Str×NameKind):=a.map λ(n,k)=>if (k == .free && s.lookup n == some .cell) then (n,.cell) else (n,k)
def yr(u:Cn)(s:Scope)(N:LS)(t:List Nat)(n:Nat):Bool:=
 decide (s.kind=.function) && s.names.all (λx=>x.2 != .cell) && s.names.all (λx=>x.2 != .local ||s.names.lookup x.1 == some .local)
  && s.names.all (λx=>x.2 != .free ||(s.names.lookup x.1 == some .free && (u.ks.lookup x.1 == some .cell ||u.ks.lookup x.1 == some .free)))
  && decide (u.N=N.take u.N.length) && decide (N.length=u.N.length+n)
  && s.names.all (λx=>x.2 != .local ||match i9 u.N x.1 with|some i=>t.contains i|none=>true)
def Lp(u:Cn)(f g:Str):Bool:=decide (f=g) && b_ u.ks f [.globalImplicit]
noncomputable def mD{h:Type}:List h->Option h
 | [a]=>some a
 |_=>none
noncomputable def C3{h:Type}:List h->Option (h×h)
 | [a,b]=>some (a,b)
 |_=>none
theorem fH{x:Type}{l:List x}{a:x}(h:mD l=some a):l=[a]:=by
 unfold mD at h;split at h
 .cases h;rfl
 .cases h
theorem uC{x:Type}{l:List x}{a b:x}(h:C3 l=some (a,b)):l=[a,b]:=by
 unfold C3 at h;split at h
 .cases h;rfl
 .cases h
theorem am{e s:Type}{x:Option e}{f:e->Option s}{r:s}(h:x.bind f=some r):∃a,x=some a/\f a=some r:=by
 cases x with
 |none=>cases h
 |some a=>exact⟨a,rfl,h⟩
theorem aF{e s:Type}{x:Option e}{f:e->s}{r:s}(h:x.map f=some r):∃a,x=some a/\r=f a:=by
 cases x with
 |none=>cases h
 |some a=>cases h;exact⟨a,rfl,rfl⟩
theorem LN{a:Type}{c:Prop}[Decidable c]{f:c->Option a}{x:a}(h:(if q:c then f q else none)=some x):c:=by
 by_cases q:c
 .exact q
 .rw [dif_neg q]at h;cases h
section
variable{e:Expr}
noncomputable def x4(e:Expr):Option Str:=if h:e.ctorIdx=23 then Expr.Name.elim e h λx _=>some x else none
theorem io{x:Str}(h:x4 e=some x):∃p,e=.Name x p:=by have c:=LN h;revert h;exact Expr.Name.elim e c λ_ p h=>by cases h;exact⟨p,rfl⟩
noncomputable def qf(e:Expr):Option (Ab):=if h:e.ctorIdx=25 then Expr.Tuple.elim e h λs _ _=>some s else none
theorem qd{s:Ab}(h:qf e=some s):∃c p,e=.Tuple s c p:=by have c:=LN h;revert h;exact Expr.Tuple.elim e c λ_ c p h=>by cases h;exact⟨c,p,rfl⟩
noncomputable def Ep(e:Expr):Option (Ab):=if h:e.ctorIdx=24 then Expr.List.elim e h λs _=>some s else none
theorem wK{s:Ab}(h:Ep e=some s):∃p,e=.List s p:=by have c:=LN h;revert h;exact Expr.List.elim e c λ_ p h=>by cases h;exact⟨p,rfl⟩
noncomputable def MM(e:Expr):Option (Expr×Str×Pos):=if h:e.ctorIdx=20 then Expr.Attribute.elim e h λo m p=>some (o,m,p) else none
theorem vI{o:Expr}{m:Str}{p:Pos}(h:MM e=some (o,m,p)):e=.Attribute o m p:=by have c:=LN h;revert h;exact Expr.Attribute.elim e c λ_ _ _ h=>by cases h;rfl
noncomputable def Tg(e:Expr):Option (Expr×Expr):=if h:e.ctorIdx=21 then Expr.Subscript.elim e h λo i _=>some (o,i) else none
noncomputable def R'(e:Expr):Option (Option Expr×Option Expr×Option Expr):=if h:e.ctorIdx=26 then Expr.Slice.elim e h λi j k _=>some (i,j,k) else none
theorem Ka{i j k:Option Expr}(h:R' e=some (i,j,k)):∃p,e=.Slice i j k p:=by have c:=LN h;revert h;exact Expr.Slice.elim e c λ_ _ _ p h=>by cases h;exact⟨p,rfl⟩
noncomputable def RF(e:Expr):Option (Expr×Ab×Pos):=if h:e.ctorIdx=16 then Expr.Call.elim e h λf a k p=>if k.isEmpty=true then some (f,a,p) else none else none
theorem Fm{f:Expr}{a:Ab}{p:Pos}(h:RF e=some (f,a,p)):e=.Call f a [] p:=by
 have c:=LN h;revert h;exact Expr.Call.elim e c λ_ _ k _ h=>by
  cases k with
  |nil=>cases h;rfl
  |cons _ _=>cases h
end
def sM(e:Expr):Option (Str×Ab):=(RF e).bind λz=>(x4 z.1).map λr=>(r,z.2.1)
theorem kH{e:Expr}{r:Str}{a:Ab}(h:sM e=some (r,a)):∃p c,e=.Call (.Name r p) a [] c:=by obtain⟨⟨f,s,c⟩,x,n⟩:=am h;obtain⟨m,k,b⟩:=aF n;obtain⟨p,rfl⟩:=io k;cases b;exact⟨p,c,Fm x⟩
def PX(e:Expr):Option ((Expr×Str×Pos)×Ab×Pos):=(RF e).bind λz=>(MM z.1).map λr=>(r,z.2)
theorem Mj{e o:Expr}{s:Ab}{m:Str}{a p:Pos}(h:PX e=some ((o,m,a),s,p)):e=.Call (.Attribute o m a) s [] p:=by obtain⟨⟨f,x,c⟩,n,k⟩:=am h;obtain⟨t,b,r⟩:=aF k;cases r;cases vI b;exact Fm n
noncomputable def xM{h:Type}:List h->Option (h×h×h)
 | [a,b,c]=>some (a,b,c)
 |_=>none
theorem Bn{x:Type}{l:List x}{a b c:x}(h:xM l=some (a,b,c)):l=[a,b,c]:=by
 unfold xM at h;split at h
 .cases h;rfl
 .cases h
def GU(u:Cn)(T:Expr->Tr)(t e:Expr):Option jR:=(sM e).elim ((T e).v.map Lm) λz=>if Lp u z.1 "range"=true then (xM z.2).elim ((mD z.2).bind λa=>(T a).v.map yd) λw=>(T w.1).v.bind λx=>(T w.2.1).v.bind λy=>(T w.2.2).v.map λz=>yc x y z
  else (T e).v.map Lm
def JR(N:LS)(s:List (Str×NameKind))(k:List NameKind)(e:Expr):Option lB:=(x4 e).bind λx=>if b_ s x k=true then (i9 N x).map gI else none
def C6(N:LS)(s:List (Str×NameKind))(k:List NameKind):Ab->Option (List lB)
 | []=>some []
 |e::r=>(JR N s k e).bind λg=>(C6 N s k r).map λh=>g::h
def GS(N:LS)(s:List (Str×NameKind))(k:List NameKind)(e:Expr):Option lB:=(qf e).elim (JR N s k e) λh=>(C6 N s k h).map wU
def im(e:Expr):LS:=((qf e).getD [e]).filterMap x4
noncomputable def oB(N:LS):LS->LS
 | []=>[]
 |t::r=>if (N.contains t ||(oB N r).contains t)=true then oB N r else t::oB N r
def RJ(N:LS)(s:LS):List Nat:=s.filterMap λt=>i9 N t
def nA(u:Cn)(T:Cn->Expr->Tr)(l t iter:Expr)(i:Ab)(s:Scope):Option EV:=
 if (yr u s (u.N++oB u.N (im t)) (RJ u.N (im t)) (oB u.N (im t)).length && decide (u.N++oB u.N (im t)).Nodup)=true then
  (GU u (T u) t iter).bind λh=>(GS (u.N++oB u.N (im t)) (se s.names u.ks) [.local] t).bind λg=>
   (match i with | []=>some Fu | [c]=>(T ⟨u.N++oB u.N (im t),u.own.filter (λx=>!(im t).contains x),[],u.refs,se s.names u.ks,u.F,u.G,u.A,u.M,u.I,u.E,u.R,u.Y,u.W⟩ c).b|_=>none).bind λc=>
   (T ⟨u.N++oB u.N (im t),u.own.filter (λx=>!(im t).contains x),[],u.refs,se s.names u.ks,u.F,u.G,u.A,u.M,u.I,u.E,u.R,u.Y,u.W⟩ l).v.map λe=>mq h (RJ u.N (im t)) (oB u.N (im t)).length g c e
 else none
def sF(u:Cn):Nat->Expr->Bool
 |0,_=>false
 |n+1,e=>(x4 e).any (u.own.contains ·) ||(Tg e).any (λz=>sF u n z.1) ||(MM e).any (λz=>sF u n z.1) ||(PX e).any λz=>decide (z.1.2.1=("setdefault":Str)) && sF u n z.1.1
def BK(e:Expr):Bool:=[6,20,21,23].contains e.ctorIdx ||(PX e).isSome
def HQ(e:Expr):Bool:=BK e ||(sM e).any λz=>!z.2.isEmpty
noncomputable def ky(e:Expr):Bool:=e.ctorIdx == 8
def Pk(u:Cn)(o:Option EE)(os:Expr)(m:Str)(s:List (Option EE))(p c:Pos):Tr:=
 if (HQ os && (p.endLine == c.line) && decide (s.length < 29))=true then .ofE (o.bind λx=>(rn s).map λa=>aH u.M x m a) else {}
def Pr(u:Cn)(o:Expr)(m:Str)(n:Str)(a c:Pos):Bool:=decide (m=n) && sF u 4 o && BK o && (a.endLine == c.line)
def DW:Ab->Option (LS)
 | []=>some []
 |e::r=>(x4 e).bind λx=>(DW r).map λl=>x::l
def Sd(a:Ab):Option (Expr×LS):=(C3 a).bind λz=>(qf z.2).bind λe=>(DW e).map λt=>(z.1,t)
def Oe(u:Cn)(t:Str):Bool:=Jp u.E t && b_ u.ks t [.globalImplicit] && dJ t
def TW(a:Ab):Option (Expr×Str):=(C3 a).bind λz=>(x4 z.2).map λt=>(z.1,t)
def PQ(s:List Comprehension):Option (Expr×Expr×Ab):=(mD s).bind λg=>if g.is_async=0 then some (g.target,g.iter,g.ifs) else none
def IV(u:Cn)(a:Expr):Option (List (Str×P)):=(x4 a).bind λx=>if (b_ u.ks x [.globalImplicit] && dJ x)=true then (u.G x).bind λv=>match v with
  | .dct k s=>GW k s
  |_=>none
 else none
def R7(u:Cn)(T:Expr->Tr)(f:Str)(s:Ab):Tr:=if (b_ u.ks f [.globalImplicit] && dJ f && !s.isEmpty)=true then
  (u.I f).elim ((u.F f).elim
   ((mD s).elim
    ((Sd s).elim ((TW s).elim (.ofV ((sN f).bind λg=>(qm (s.map λx=>(T x).v)).map λx=>cU g x)) λz=>if (decide (f=("isinstance":Str)) && b_ u.ks z.2 [.globalImplicit])=true then (Em z.2).elim (if (Jp u.E z.2 && dJ z.2)=true then .ofV ((T z.1).e.map λx=>mm (nc u.E u.R z.2) x) else {}) (λt=>.ofV ((T z.1).e.map λx=>xI t x)) else .ofV ((sN f).bind λg=>(qm (s.map λx=>(T x).v)).map λx=>cU g x)) λz=>if (decide (f=("isinstance":Str)) && z.2.all (Oe u) && decide (z.2.length≤100))=true then .ofV ((T z.1).e.map λx=>mm (nP u.E u.R z.2) x) else {})
    λa=>if f=("len":Str) then .ofV ((T a).e.map b9) else .ofV ((sN f).bind λg=>(qm [(T a).v]).map λx=>cU g x))
   λg=>if u.refs.contains f=true then .ofV ((rn (s.map λx=>(T x).e)).map λa=>fZ g a) else .ofV ((qm (s.map λx=>(T x).v)).map λa=>cU (hZ g) a))
  λg=>.ofE ((rn (s.map λx=>(T x).e)).map λa=>wY g f a)
 else {}
def R8(u:Cn)(T:Expr->Tr)(o:Expr)(m:Str)(p:Pos)(s:Ab)(c:Pos):Tr:=if (s.isEmpty && Pr u o m "pop" p c)=true then .ofE ((T o).e.map j_) else (mD s).elim
  (if (decide (m=("get":Str)) && BK o && (p.endLine == c.line))=true then (C3 s).elim {} (fun z=>.ofV ((T o).v.bind fun x=>(T z.1).v.bind fun y=>(T z.2).v.map fun z=>CZ x y z)) else
   Pk u (T o).e o m (s.map λx=>(T x).e) p c)
  λa=>if Pr u o m "append" p c=true then .ofE ((T o).e.bind λx=>(T a).e.map λy=>dw x y) else
   Pk u (T o).e o m (s.map λx=>(T x).e) p c
def S7(u:Cn)(T:Expr->Tr)(w:Cn->Expr->Tr)(e:Expr):Tr:=match e with
  | .Constant c _ _=>match c with
   | .int i=>.ofV (some (vC (.int i)))
   | .bool i=>.ofV (some (vC (.bl i)))
   | .none=>.ofV (some (vC .non))
   | .str i=>.ofV (some (vC (.str i)))
   |_=>{}
  | .Name x _=>if (b_ u.ks x [.local,.cell,.free] && dJ x)=true then .ofE ((i9 u.N x).map gm) else
    if (b_ u.ks x [.globalImplicit] && dJ x)=true then .ofV ((u.G x).bind λv=>if Er v=true then none else some (vC v)) else {}
  | .BinOp a p b _=>.ofV ((Sn p).bind λg=>(T a).v.bind λx=>(T b).v.map λy=>rg g x y)
  | .UnaryOp p a _=>match p with
   | .USub=>.ofV ((T a).v.map (xh kE))
   | .Not=>.ofB ((T a).b.map ll) ((T a).w.map ll)
   |_=>{}
  | .BoolOp p h _=>.ofB (vR p (h.map λx=>(T x).b)) (vR p (h.map λx=>(T x).w))
  | .Compare a m j _=>(mD m).elim {}
    λp=>(mD j).elim {} λb=>(Sk p).elim (.ofC ((LZ p).bind λg=>(T a).e.bind λx=>(T b).e.map λy=>cQ g x y)) λg=>.ofC ((T a).v.bind λx=>(T b).v.map λy=>rg g x y)
  | .IfExp c a b _=>{ Tr.ofV ((T c).b.bind λq=>(T a).v.bind λx=>(T b).v.map λy=>IT q x y) with b:=none }
  | .Tuple h _ _=>.ofV ((qm (h.map λx=>(T x).v)).map cf)
  | .List h _=>.ofV ((qm (h.map λx=>(T x).v)).map fm)
  | .Dict k d _=>if (k.all (·.isSome) && decide (k.length=d.length) && !k.isEmpty && decide (k.length≤15))=true then .ofV ((JV k (d.map λx=>(T x).v)).map mn) else {}
  | .Subscript a i _=>(R' i).elim ((IV u a).elim (if sF u 4 a=true then .ofE ((T a).e.bind λx=>(T i).v.map λy=>mU x y) else .ofV ((T a).v.bind λx=>(T i).v.map λy=>rg lT x y)) λn=>.ofV ((T i).v.map λy=>n7 n y))
    λz=>if z.2.2.isSome=true then {} else if sF u 4 a=true then .ofV ((T a).e.bind λx=>(Nn (z.1.map λy=>(T y).v)).bind λy=>(Nn (z.2.1.map λz=>(T z).v)).map λz=>rj x y z) else .ofV ((T a).v.bind λx=>(Nn (z.1.map λy=>(T y).v)).bind λy=>(Nn (z.2.1.map λz=>(T z).v)).map λz=>gQ x y z)
  | .Call t r k H=>if k.isEmpty=true then (x4 t).elim ((MM t).elim {} λz=>R8 u T z.1 z.2.1 z.2.2 r H) (λf=>R7 u T f r) else {}
  | .Attribute o f _=>if BK o=true then (if f=("place":Str) then .ofE ((T o).e.map λx=>PB FM x f) else .ofE ((T o).e.map λx=>aM u.A x f)) else {}
  | .ListComp l S s _=>(PQ S).elim {} λz=>.ofV (nA u w l z.1 z.2.1 z.2.2 s)
  |_=>{}
def tr(u:Cn):Nat->Expr->Tr
 |0,_=>{}
 |n+1,e=>S7 u (λx=>tr u n x) (λh x=>tr h n x) e
def No(u:Cn)(n _k:Nat)(e:Expr):Option EE:=(tr u n e).e
end Ev
set_option tactic.hygienic true
namespace Ev
open PySem PySem.Spec PyProof.Rows L2
structure ExsOk(K:FG)(mg:SV)(E:List (Str×LS))(R:LS):Prop where
 own:∀c,(E.any λx=>decide (x.1=c))=true->∃C,bN K mainGlobals c=some (some (.ref C))/\mg c=some (.ref C)
 val:mg ("ValueError":Str)=none
 non:∀t C,(E.any λx=>decide (x.1=t))=true->mg t=some (.ref C)->bO K (.type "NoneType") (.ref C)=some false
 nonV:bO K (.type "NoneType") (.type "ValueError")=some false
 cl:∀c anc C,R.contains c=true->E.lookup c=some anc->bN K mainGlobals c=some (some (.ref C))->ExcCl K C/\pS K (.ref C) (.ref C)=some true/\bO K (.ref C) (.type "ValueError")=some (anc.contains ("ValueError":Str)) /\
  ∀t T,(E.any λx=>decide (x.1=t))=true->mg t=some (.ref T)->bO K (.ref C) (.ref T)=some (anc.contains t)/\(anc.contains t=true->nv K (.ref C) (.ref T)=some true)
 rE:∀c,R.contains c=true->(E.any λx=>decide (x.1=c))=true
 rs:∀c C,R.contains c=true->(FM.lookup c).isNone=true->bN K mainGlobals c=some (some (.ref C))->mg c=some (.ref C)/\Ue K C
 zE:∀c f,FM.lookup c=some f->(E.any λx=>decide (x.1=c))=true
 ri:∀c f C,FM.lookup c=some f->bN K mainGlobals c=some (some (.ref C))->ExcCl K C/\vJ K C f
noncomputable def oA(m:SV)(t:Str):Value:=(m t).getD (.type "ValueError")
theorem yn{K:FG}{m:SV}{E:List (Str×LS)}{R:LS}(h:ExsOk K m E R){t:Str}(q:Jp E t=true):(∃C,m t=some (.ref C)/\oA m t=.ref C/\(E.any λx=>decide (x.1=t))=true)\/(t="ValueError"/\m t=none/\oA m t=.type "ValueError"):=by
 unfold Jp at q;rcases y6.mp q with q|q
 .obtain⟨C,_,e⟩:=h.own t q;exact .inl ⟨C,e,by unfold oA;rw[e];rfl,q⟩
 .cases bP q;exact .inr ⟨rfl,h.val,by unfold oA;rw[h.val];rfl⟩
theorem yt{K:FG}{m:SV}{E:List (Str×LS)}{R:LS}(h:ExsOk K m E R){t:Str}(q:Jp E t=true):AnsOk K (nc E R t) (oA m t) where
 non:=by
  rcases yn h q with ⟨C,s,x,n⟩|⟨_,_,x⟩
  .rw [x];exact h.non t C n s
  .rw [x];exact h.nonV
 exc:=λc b C e w=>by
  unfold nc at e;split at e;case isFalse=>cases e
  rename_i f;obtain⟨a,k,rfl⟩:=fV.mp e;obtain⟨r,p,v,d⟩:=h.cl c a C f k w;refine⟨r,p,?_⟩;rcases yn h q with ⟨T,s,x,n⟩|⟨rfl,_,x⟩
  .rw [x];exact(d t T n s).1
  .rw [x];exact v
structure XOk(Γ:Cn)(X:Cx):Prop where
 hN:X.N=Γ.N
 nd:X.N.Nodup
 ks:X.e.scope.names=Γ.ks
 kd:X.e.scope.kind=.function
 calm:X.c=true
 hu:X.A.units+64 < cLine
 fns:∀x g,Γ.F x=some g->∃k f fd ps,FnOk X.p X.w X.K X.g X.b re k f fd ps (rz X.K g)/\Room k X.A/\X.g x=some (.ref f)/\gO X.K (.ref f)=true/\Binds X.K fd ps []
 blt:∀x ∈ IC,X.g x=none
 glb:∀x v,Γ.G x=some v->iY X.w X.K X.g x v
 attrs:Pe X.K Γ.A
 meths:PY X Γ.M
 mks:∀c g,Γ.I c=some g->∃C k f fd ps,gM X.K c C/\X.g c=some (.ref C)/\Mk X.K C f/\FnOk X.p X.w X.K X.g X.b re k f fd ps (rz X.K g)/\Room (k+1) X.A/\Binds X.K fd ps []
 exs:ExsOk X.K X.g Γ.E Γ.R
 ys:∀x gx,Γ.Y x=some gx->B3 X.K gx/\∃k f fd ps,FnOk X.p X.w X.K X.g X.b (xk X.p X.w) k f fd ps (Dg X.K gx)/\Room k X.A/\X.g x=some (.ref f)/\gO X.K (.ref f)=true/\Binds X.K fd ps []
 ws:Mq X Γ.W
structure Good(X:Cx)(ex:Expr)(t:Tr):Prop where
 v:∀f,t.v=some f->PE X ex (tV X.K f)
 e:∀f,t.e=some f->PE X ex (tE X.K f)
 b:∀f,t.b=some f->PT X ex (tQ X.K f)
 w:∀f,t.w=some f->PE X ex (tV X.K (vB f))
section
variable{X:Cx}{e:Expr}
theorem Good.no:Good X e {}:=⟨λ_ h=>(by cases h),λ_ h=>(by cases h),λ_ h=>(by cases h),λ_ h=>(by cases h)⟩
theorem Good.el{x:Type}{o:Option x}{b:Tr}{f:x->Tr}(h:∀a,o=some a->Good X e (f a))(s:o=none->Good X e b):Good X e (o.elim b f):=by
 cases o with
 |none=>exact s rfl
 |some a=>exact h a rfl
theorem Good.ite{c:Prop}[Decidable c]{a b:Tr}(h:c->Good X e a)(x:Good X e b):Good X e (if c then a else b):=by
 by_cases q:c
 .rw [ae q];exact h q
 .rw [ai q];exact x
def FE(e:Expr):Prop:=∀n w,isTrue e n w=(do let v <- w;standAt e.pos;holding [v] (truthy v))
theorem Good.ofV{t:Option EV}(h:∀f,t=some f->PE X e (tV X.K f))(p:FE e):Good X e (.ofV t) where
 v:=h
 e:=λf q=>by
  cases t with
  |none=>cases q
  |some g=>cases q;exact Ms (h _ rfl)
 b:=λf q=>by
  cases t with
  |none=>cases q
  |some g=>cases q;exact yT (Ms (h _ rfl)) (p _)
 w:=λf q=>by
  cases t with
  |none=>cases q
  |some g=>cases q;exact Ad (h _ rfl)
theorem Good.ofC{t:Option EV}(h:∀f,t=some f->PE X e (tV X.K f))(x:∀f,t=some f->PT X e (tQ X.K (bV f))):Good X e (.ofC t) where
 v:=h
 e:=λf q=>by
  cases t with
  |none=>cases q
  |some g=>cases q;exact Ms (h _ rfl)
 b:=λf q=>by
  cases t with
  |none=>cases q
  |some g=>cases q;exact x _ rfl
 w:=λf q=>by
  cases t with
  |none=>cases q
  |some g=>cases q;exact Ad (h _ rfl)
theorem Good.ofE{t:Option EE}(h:∀f,t=some f->PE X e (tE X.K f))(p:FE e):Good X e (.ofE t) where
 v:=λf q=>by
  cases t with
  |none=>cases q
  |some g=>cases q;exact R3 (h _ rfl)
 e:=h
 b:=λf q=>by
  cases t with
  |none=>cases q
  |some g=>cases q;exact yT (h _ rfl) (p _)
 w:=λf q=>by
  cases t with
  |none=>cases q
  |some g=>cases q;exact Ad (R3 (h _ rfl))
theorem Good.ofB{b w:Option EB}(x:∀f,b=some f->PT X e (tQ X.K f))(h:∀f,w=some f->PE X e (tV X.K (vB f))):Good X e (.ofB b w) where
 v:=λf q=>by
  cases w with
  |none=>cases q
  |some g=>cases q;exact h _ rfl
 e:=λf q=>by
  cases w with
  |none=>cases q
  |some g=>cases q;exact Ms (h _ rfl)
 b:=x
 w:=h
end
theorem mL{x e:Type}{o:Option x}{b r:e}{f:x->e}(h:o.elim b f=r):(∃a,o=some a/\f a=r)\/(o=none/\b=r):=by
 cases o with
 |none=>exact .inr ⟨rfl,h⟩
 |some a=>exact .inl ⟨a,rfl,h⟩
def gj(e:Expr):Prop:=∀s n,starEach (e::s) n=(false,eval e n)::starEach s n
structure RdE(e:Expr):Prop where
 st:gj e
 ix:nh e
 mr:∀op,behindInMarks op e=false
 ms:∀op op' b,lastMarks [op,op'] [b,e]=false
 ps:FF e
 sw:ky e=false->∀t l env,swapsWith e t l env=pure false
 fs:∀env x,foldedSetIterable e env x=pure x
theorem rd_of{u:Cn}{n:Nat}{e:Expr}(h:(tr u n e).v.isSome=true\/(tr u n e).e.isSome=true):RdE e:=by
 cases n with
 |zero=>rcases h with h|h<;>cases h
 |succ n=>cases e<;>first|(rcases h with h|h<;>cases h;done)|exact⟨λ_ _=>rfl,λ_ _=>rfl,λ_=>rfl,λ_ _ _=>rfl,λ_ _ _ _=>rfl,λc _ _ _=>(by first|rfl|cases c),λ_ _=>rfl⟩
theorem lJ{u:Cn}{n:Nat}{e:Expr}{f:EV}(h:(tr u n e).v=some f):RdE e:=rd_of (.inl (by rw[h];rfl))
theorem qA{u:Cn}{n:Nat}{e:Expr}{f:EE}(h:(tr u n e).e=some f):RdE e:=rd_of (.inr (by rw[h];rfl))
theorem ia{s:Ab}{n:Env}{p:Pos}(h:∀e ∈ s,gj e):(backTo p (starEach s n)).any (·.1)=false:=by
 induction s with
 |nil=>rfl
 |cons e s i=>
  rw[h e bi s n];have:=i λx a=>h x (bn _ a)
  unfold backTo at this ⊢;rw[aX,fE,this];rfl
section
variable{u:Cn}{X:Cx}(h:XOk u X)
include h
theorem XOk.gl{x:Str}(q:b_ u.ks x [.globalImplicit]=true):Gl X x:=by
 unfold Gl Env.kindOf;rw[h.ks];unfold b_ at q;cases e:u.ks.lookup x with
 |none=>rw[e]at q;cases q
 |some k=>rw[e]at q;cases k<;>first|rfl|cases q
theorem XOk.vis{x:Str}(q:b_ u.ks x [.local,.cell,.free]=true):FO X.e.scope x:=by
 unfold FO;rw[h.ks];unfold b_ at q;cases e:u.ks.lookup x with
 |none=>rw[e]at q;cases q
 |some k=>rw[e]at q;cases k<;>first|exact .inl rfl|exact .inr (.inl rfl)|exact .inr (.inr rfl)|cases q
theorem XOk.loc{x:Str}(q:b_ u.ks x [.local,.cell]=true):L2.Loc X.e.scope x:=by
 unfold L2.Loc;rw[h.ks];unfold b_ at q;cases e:u.ks.lookup x with
 |none=>rw[e]at q;cases q
 |some k=>rw[e]at q;cases k<;>first|exact .inl rfl|exact .inr rfl|cases q
theorem XOk.local{x:Str}(q:b_ u.ks x [.local]=true):X.e.scope.names.lookup x=some .local:=by
 rw[h.ks];unfold b_ at q;cases e:u.ks.lookup x with
 |none=>rw[e]at q;cases q
 |some k=>rw[e]at q;cases k<;>first|rfl|cases q
omit h in
theorem cN{x:Str}(q:dJ x=true):(x == ("__debug__":Str))=false/\(x == ("__classdict__":Str))=false:=by unfold dJ at q;rw[aE]at q;exact⟨by simpa using q.1,by simpa using q.2⟩
theorem XOk.get{x:Str}{i:Nat}(q:i9 u.N x=some i):X.N[i]? = some x:=by rw[h.hN];exact qM q
omit h in
theorem iO{u:Cn}{n:Nat}:∀{s:Ab}{k:jR},(∀e ∈ s,Good X e (tr u n e))->qm (s.map λx=>(tr u n x).v)=some k->PA X s (vN X.K k)/\∀e ∈ s,gj e
 | [],k,_,q=>by cases q;exact⟨O8,λ_ z=>by cases z⟩
 |e::s,k,g,q=>by
  obtain⟨f,b,p⟩:=am q;obtain⟨r,v,rfl⟩:=aF p;obtain⟨m,t⟩:=iO (λx a=>g x (bn _ a)) v;have b:(tr u n e).v=some f:=b;have c:gj e:=(lJ b).st;refine⟨Bf ((g e bi).v f b) m (c _ _),λx a=>?_⟩;rcases ay.mp a with a|a
  .subst a;exact c
  .exact t x a
omit h in
theorem mv{u:Cn}{n:Nat}:∀{s:Ab}{k:pK},(∀e ∈ s,Good X e (tr u n e))->rn (s.map λx=>(tr u n x).e)=some k->PA X s (vX X.K k)/\∀e ∈ s,gj e
 | [],k,_,q=>by cases q;exact⟨OG,λ_ z=>by cases z⟩
 |e::s,k,g,q=>by
  obtain⟨f,b,p⟩:=am q;obtain⟨r,v,rfl⟩:=aF p;obtain⟨m,t⟩:=mv (λx a=>g x (bn _ a)) v;have b:(tr u n e).e=some f:=b;have c:gj e:=(qA b).st;refine⟨LO ((g e bi).e f b) m (c _ _),λx a=>?_⟩;rcases ay.mp a with a|a
  .subst a;exact c
  .exact t x a
omit h in
theorem vO{o:BoolOp}{p:Pos}{u:Cn}{n:Nat}:∀{s:Ab}{f:EB},(∀e ∈ s,Good X e (tr u n e))->vR o (s.map λx=>(tr u n x).b)=some f->PW X (.BoolOp o s p) (tQ X.K f)
 | [],f,_,q=>by cases q
 | [a],f,g,q=>by
  cases o with
  |And=>exact MY ((g a bi).b f q)
  |Or=>exact P8 ((g a bi).b f q)
 |a::b::s,f,g,q=>by
  obtain⟨x,k,m⟩:=am q;obtain⟨r,t,rfl⟩:=aF m;have i:=vO (s:=b::s) (p:=p) (λx c=>g x (bn _ c)) t;cases o with
  |And=>exact P' ((g a bi).b x k) i
  |Or=>exact SF ((g a bi).b x k) i
omit h in
theorem vQ{o:BoolOp}{p:Pos}{u:Cn}{n:Nat}:∀{s:Ab}{f:EB},(∀e ∈ s,Good X e (tr u n e))->vR o (s.map λx=>(tr u n x).w)=some f->PE X (.BoolOp o s p) (tV X.K (vB f))
 | [],f,_,q=>by cases q
 | [a],f,g,q=>Nd ((g a bi).w f q)
 |a::b::s,f,g,q=>by
  obtain⟨x,k,m⟩:=am q;obtain⟨r,t,rfl⟩:=aF m;have i:=vQ (s:=b::s) (p:=p) (λx c=>g x (bn _ c)) t;cases o with
  |And=>exact Qp ((g a bi).w x k) i
  |Or=>exact SH ((g a bi).w x k) i
omit h in
theorem Ak{p:Pos}{u:Cn}{n:Nat}:∀{y:List (Option Expr)}{a:Ab}{l:DE},(∀e ∈ a,Good X e (tr u n e))->JV y (a.map λx=>(tr u n x).v)=some l->KD X p y a l
 | [],[],l,_,q=>by cases q;exact Rc
 | [],_::_,l,_,q=>by cases q
 |k::m,[],l,_,q=>by cases q
 |k::m,v::z,l,g,q=>by
  obtain⟨x,s,t⟩:=am q;obtain⟨f,d,w⟩:=am t;obtain⟨r,j,rfl⟩:=aF w;have i:=Ak (p:=p) (λx c=>g x (bn _ c)) j;have b:=(g v bi).v f d;unfold Ef at s;split at s
  .cases s;exact Ol M7 b i
  .cases s
omit h in
theorem uF{u:Cn}{n:Nat}{o:Option Expr}{f:EO}(g:∀e,Good X e (tr u n e))(q:Nn (o.map λy=>(tr u n y).v)=some f):PO X o (tO X.K f):=by
 cases o with
 |none=>cases q;exact KU
 |some e=>obtain⟨x,a,rfl⟩:=aF (show((tr u n e).v).map bM=some f from q);exact KS ((g e).v x a)
theorem L6{o:Operator}{g:P->P->Option P}(q:Sn o=some g):rV X (binaryOp o) g:=by cases o<;>first|(cases q;exact KQ)|(cases q;exact N4)|(cases q;exact KP)|(cases q;exact Hw)|(cases q;exact N8)|(cases q;exact N5)|cases q
omit h in
theorem E2{o:CmpOp}{g:P->P->Option P}(q:Sk o=some g):rV X (compareOp o) g:=by cases o<;>first|(cases q;exact QZ)|(cases q;exact Q0)|(cases q;exact Q1)|(cases q;exact Q2)|cases q
theorem A0{o:CmpOp}{g:D->D->aV->Option P}(q:LZ o=some g):kc X (compareOp o) (rE X.K g):=by cases o<;>first|(cases q;exact Ob h.hu)|(cases q;exact N6 h.hu)|(cases q;exact N_ h.hu)|(cases q;exact DS h.hu)|(cases q;exact N9)|cases q
theorem Iv{f:Str}{g:GF}{a:Expr}{s:Ab}{x:jR}{b o:Pos}(t:u.F f=some g)(q:b_ u.ks f [.globalImplicit]=true)(d:dJ f=true)(c:PA X (a::s) (vN X.K x))(n:∀e ∈ a::s,gj e) :
  PE X (.Call (.Name f b) (a::s) [] o) (tV X.K (cU (hZ g) x)):=by
 obtain⟨k,i,j,l,G,w,v,p,m⟩:=h.fns f g t;exact Nc (FnOk.pure G) w (h.gl q) v p m c (cN d).1 (n a bi _ _) (ia λe r=>n e (bn _ r))
theorem Fj{f:Str}{g:GF}{a:Expr}{s:Ab}{x:pK}{c o:Pos}(w:u.F f=some g)(t:b_ u.ks f [.globalImplicit]=true)(v:dJ f=true)(m:PA X (a::s) (vX X.K x))(n:∀e ∈ a::s,gj e) :
  PE X (.Call (.Name f c) (a::s) [] o) (tV X.K (fZ g x))/\PE X (.Call (.Name f c) (a::s) [] o) (tE X.K (ET g x)):=by
 obtain⟨k,i,j,l,G,d,q,p,r⟩:=h.fns f g w;exact⟨Gy G d (h.gl t) q p r m (cN v).1 (n a bi _ _) (ia fun e b=>n e (bn _ b)),
  JH G d (h.gl t) q p r m (cN v).1 (n a bi _ _) (ia λe b=>n e (bn _ b))⟩
theorem Fq{f:Str}{g:List P->Option P}{a:Expr}{n:Ab}{m:jR}{t p:Pos}(x:sN f=some g)(b:b_ u.ks f [.globalImplicit]=true)(k:PA X (a::n) (vN X.K m))(r:∀e ∈ a::n,gj e) :
  PE X (.Call (.Name f t) (a::n) [] p) (tV X.K (cU g m)):=by
 have s:=r a bi n X.e;have c:=ia (n:=X.e) (p:=p) λe s=>r e (bn _ s);unfold sN at x;split at x
 .rename_i e;subst e;cases x;exact JD (h.gl b) (h.blt _ (by decide)) k s c
 split at x
 .rename_i e;subst e;cases x;exact M5 (h.gl b) (h.blt _ (by decide)) k h.calm s c
 split at x
 .rename_i e;subst e;cases x;exact M4 (h.gl b) (h.blt _ (by decide)) k h.calm s c
 split at x
 .rename_i e;subst e;cases x;exact M3 (h.gl b) (h.blt _ (by decide)) k s c
 .cases x
theorem Ln{t:Str}{T:String}{a:Expr}{c:EE}{r b p:Pos}(x:Em t=some T)(n:b_ u.ks ("isinstance":Str) [.globalImplicit]=true)(k:b_ u.ks t [.globalImplicit]=true)(s:PE X a (tE X.K c))(q:gj a) :
  PE X (.Call (.Name "isinstance" r) [a,.Name t b] [] p) (tV X.K (xI T c)):=by
 have f:starEach [a,.Name t b] X.e=[(false,eval a X.e),(false,eval (.Name t b) X.e)]:=by rw[q];rfl
 have m:=h.blt ("isinstance":Str) (by decide);unfold Em at x;split at x
 .rename_i e;subst e;cases x;exact Jz HL (h.gl n) m (h.gl k) (h.blt _ (by decide)) zc s (by decide) (by decide) f
 split at x
 .rename_i e;subst e;cases x;exact Jz Ee (h.gl n) m (h.gl k) (h.blt _ (by decide)) Gp s (by decide) (by decide) f
 split at x
 .rename_i e;subst e;cases x;exact Jz kit_tuple (h.gl n) m (h.gl k) (h.blt _ (by decide)) Gu s (by decide) (by decide) f
 .cases x
omit h in
theorem HR{f g:Str}(q:Lp u f g=true):f=g/\b_ u.ks f [.globalImplicit]=true:=by unfold Lp at q;rw[aE]at q;exact⟨bP q.1,q.2⟩
theorem tab_of{a:Expr}{k:List (Str×P)}(q:IV u a=some k):∃x p,a=.Name x p/\Gl X x/\IM X.w X.K X.g x k/\(x == ("__debug__":Str))=false:=by
 obtain⟨x,m,s⟩:=am q;clear q;obtain⟨p,rfl⟩:=io m;split at s
 .rename_i c;rw[aE]at c;obtain⟨v,G,n⟩:=am s;clear s;split at n
  .rename_i b r;obtain⟨f,e,t⟩:=(h.glb x _ G).2 b r rfl;rw[n]at e;cases e;exact⟨x,p,rfl,h.gl c.1,t,(cN c.2).1⟩
  .cases n
 .cases s
theorem Jh{n:Nat}{t e:Expr}{f:jR}(g:∀x,Good X x (tr u n x))(q:GU u (λx=>tr u n x) t e=some f):PI X t e (tI X.K f):=by
 have plain:((tr u n e).v.map Lm=some f)->PI X t e (tI X.K f):=λq=>by obtain⟨x,s,rfl⟩:=aF q;exact iS ((g e).v x s)
 have l:=mL q;clear q;rcases l with ⟨⟨H,p⟩,j,q⟩|⟨_,q⟩
 .obtain⟨S,o,rfl⟩:=kH j;dsimp only at q;split at q
  .rename_i r;obtain⟨rfl,r⟩:=HR r;rcases mL q with ⟨⟨a,b,c⟩,m,k⟩|⟨_,q⟩
   .clear q;cases Bn m;obtain⟨x,s,k⟩:=am k;obtain⟨y,v,k⟩:=am k;obtain⟨z,d,rfl⟩:=aF k;have i:starEach [c] X.e=[(false,eval c X.e)]:=(lJ d).st _ _;have w:starEach [b,c] X.e=[(false,eval b X.e),(false,eval c X.e)]:=by rw[(lJ v).st,i]
    exact T2 (h.gl r) (h.blt ("range":Str) (by decide)) ((g a).v x s) ((g b).v y v) ((g c).v z d) (by rw[(lJ s).st,w]) w i
   obtain⟨a,m,k⟩:=am q;clear q;cases fH m;obtain⟨x,s,rfl⟩:=aF k;exact T3 (h.gl r) (h.blt ("range":Str) (by decide)) ((g a).v x s) ((lJ s).st _ _)
  .exact plain q
 .exact plain q
omit h in
theorem wI{n:Nat}{t e:Expr}{f:jR}(q:GU u (λx=>tr u n x) t e=some f)(v:Env)(x:Value):foldedSetIterable e v x=pure x:=by
 have s:=mL q;clear q;rcases s with ⟨⟨b,a⟩,z,q⟩|⟨_,q⟩
 .obtain⟨c,p,rfl⟩:=kH z;rfl
 .obtain⟨x,k,rfl⟩:=aF q;exact(lJ k).fs _ _
theorem Fs{s:Scope}{N:LS}{k:List Nat}{n:Nat}(q:yr u s N k n=true):BlockOk X s N k n:=by
 unfold yr at q;simp only[aE]at q;obtain⟨⟨⟨⟨⟨⟨c,m⟩,r⟩,p⟩,v⟩,d⟩,w⟩:=q;have f:u.N=N.take u.N.length:=bP v;refine⟨bP c,λx a=>?_,λx a l=>?_,λx a l=>?_,?_,?_,λx a l i b=>?_⟩
 .simpa using cZ.mp m x a
 .have:=cZ.mp r x a;rw[l]at this;simpa using this
 .have:=cZ.mp p x a;rw[l]at this;have t:s.names.lookup x.1=some .free/\(u.ks.lookup x.1=some .cell\/u.ks.lookup x.1=some .free):=by simpa using this
  refine⟨t.1,?_⟩;unfold Env.kindOf;rw[h.ks];exact t.2
 .rw [h.hN];exact f
 .rw [h.hN];exact bP d
 .have:=cZ.mp w x a;rw[l]at this;have e:i9 u.N x.1=some i:=nW (by rw[<- h.hN];exact h.nd) (by rw[<- h.hN];exact b);rw[e]at this;simpa using this
end
theorem Jb{X:Cx}{N:LS}{s:List (Str×NameKind)}{k:List NameKind}{e:Expr}{g:lB}(f:X.N=N)(d:X.N.Nodup)(b:∀x,b_ s x k=true->L2.Loc X.e.scope x/\(X.fn x=true\/X.e.scope.names.lookup x=some .local))(q:JR N s k e=some g):∃x p,e=.Name x p/\PG X (.Name x p) (gT X.K g):=by
 obtain⟨x,m,h⟩:=am q;clear q;obtain⟨p,rfl⟩:=io m;split at h
 .rename_i c;obtain⟨i,r,rfl⟩:=aF h;obtain⟨a,n⟩:=b _ c;exact⟨x,p,rfl,Lz i d (by rw[f];exact qM r) a n⟩
 .cases h
theorem C9{X:Cx}{N:LS}{n:List (Str×NameKind)}{k:List NameKind}{e:Expr}{g:lB}(v:X.c=true)(b:X.N=N)(d:X.N.Nodup)(m:∀x,b_ n x k=true->L2.Loc X.e.scope x/\(X.fn x=true\/X.e.scope.names.lookup x=some .local))(q:GS N n k e=some g):PG X e (gT X.K g):=by
 have all:∀{s:Ab}{h:List lB},C6 N n k s=some h->GsOk X s h:=by
  intro s;induction s with
  |nil=>intro h q;cases q;exact .nil
  |cons e s i=>intro h q;obtain⟨g,f,t⟩:=am q;obtain⟨r,u,rfl⟩:=aF t;clear q t;obtain⟨x,p,rfl,a⟩:=Jb b d m f;exact .cons a (i u)
 have w:=mL q;clear q;rcases w with ⟨s,z,q⟩|⟨_,q⟩
 .obtain⟨c,p,rfl⟩:=qd z;obtain⟨h,f,rfl⟩:=aF q;exact Ly v (all f)
 .obtain⟨x,p,rfl,a⟩:=Jb b d m q;exact a
theorem Dw{s:Scope}{e:Env}(h:e.scope.kind=.function):(relabel s e).names=se s.names e.scope.names:=by unfold relabel se Env.kindOf;rw[h];simp
theorem XOk.inn{u:Cn}{X:Cx}(h:XOk u X){c:Scope}{N:LS}{t:List Nat}{n:Nat}(B:BlockOk X c N t n)(d:N.Nodup)(s:Shared)(H:Hp)(C:Addr)(f:List Addr) :
  XOk ⟨N,[],[],u.refs,se c.names u.ks,u.F,u.G,u.A,u.M,u.I,u.E,u.R,u.Y,u.W⟩ (Ev.inn X c N s H C f) where
 hN:=rfl
 nd:=d
 ks:=by show(relabel c X.e).names=_;rw[Dw h.kd,h.ks]
 kd:=B.kind
 calm:=h.calm
 hu:=h.hu
 fns:=h.fns
 blt:=h.blt
 glb:=h.glb
 attrs:=h.attrs
 meths:=h.meths
 mks:=h.mks
 exs:=h.exs
 ys:=h.ys
 ws:=h.ws
theorem q7{X:Cx}{o:Scope}{N:LS}{w:List Nat}{n:Nat}{i:PN}{J:L2.St}{H:Hp}{s:Shared}(B:BlockOk X o N w n)(I:Inv X i J H s):closureFor o X.e=pure (nN o X.e):=by
 have all:∀x ∈ o.names,x.2=.free->∃c,X.e.cells.lookup x.1=some c:=λx d e=>I.o.has x.1 (B.fr x d e).2;unfold closureFor nN;have b:∀(l:List (Str×NameKind))(a:List (Str×Addr)),(∀x ∈ l,x.2=.free->∃c,X.e.cells.lookup x.1=some c) ->
   (forIn l a fun (x:Str×NameKind) (r:List (Str×Addr))=>(do
    if x.2 == .free then do
     let c <- cellOf X.e x.1
     pure (ForInStep.yield ((x.1,c)::r))
    else pure (ForInStep.yield r):Sem (ForInStep (List (Str×Addr)))))=pure ((((l.filter λx=>x.2 == .free).map λx=>(x.1,(X.e.cells.lookup x.1).getD 0)).reverse)++a):=by
  intro l;induction l with
  |nil=>intro a _;rfl
  |cons x l t=>
   intro a e;rw[List.forIn_cons];by_cases h:(x.2 == NameKind.free)=true
   .obtain⟨c,m⟩:=e x bi (by simpa using h);rw[ae h,List.filter_cons_of_pos (p:=λ(x:Str×NameKind)=>x.2 == .free) h,aX,kT,c_];have v:cellOf X.e x.1=pure c:=by unfold cellOf;rw[m]
    rw[v,m];show(forIn l ((x.1,c)::a) _:Sem _)=_;rw[t ((x.1,c)::a) λy f=>e y (bn _ f)];rfl
   .rw [ai h,List.filter_cons_of_neg (p:=λ(x:Str×NameKind)=>x.2 == .free) h];show(forIn l a _:Sem _)=_;rw[t a λy f=>e y (bn _ f)]
 have k:=b o.names [] all;rw [fj] at k;show (Bind.bind (forIn o.names [] fun (x:Str×NameKind) (r:List (Str×Addr))=>(do
    if x.2 == .free then do
     let c <- cellOf X.e x.1
     pure (ForInStep.yield ((x.1,c)::r))
    else pure (ForInStep.yield r):Sem (ForInStep (List (Str×Addr))))) λq=>pure q:Sem (List (Str×Addr)))=_
 rw[k];rfl
end Ev
namespace Ev
open PySem PySem.Spec PyProof.Rows L2
theorem JG{X:Cx}{c:Scope}{N:LS}{m:List Nat}{n:Nat}{e iter t:Expr}{i:Ab}{o:Pos}{b:jR}{g:lB}{a:EB}{k:EV}(B:BlockOk X c N m n)(h:X.c=true)
  (w:PI X t iter (tI X.K b)) (d:∀s H C f,PG (inn X c N s H C f) t (gT X.K g)) (r:∀s H C f,PIfs (inn X c N s H C f) i a) (v:∀s H C f,PE (inn X c N s H C f) e (tV X.K k))
  (u:∀x,foldedSetIterable iter X.e x=pure x) :
  PE X (.ListComp e [⟨t,iter,i,0⟩] c o) (tV X.K (mq b m n g a k)):=λp s J H Q I q=>
 Na B h w d r v (q7 B I) u p s J H Q I q
theorem Jy{X:Cx}{c:Scope}{N:LS}{u:List Nat}{n:Nat}(i:Nat){x:Str}{d p:Pos}{e iter t:Expr}{f:Ab}{o:Pos}{v:jR}{g:lB}{m:EB}{r:EV}(j:X.N.Nodup)(B:BlockOk X c N u n)(h:X.c=true)
  (F:PI X t iter (tI X.K v)) (S:∀s H C a,PG (inn X c N s H C a) t (gT X.K g)) (l:∀s H C a,PIfs (inn X c N s H C a) f m) (y:∀s H C a,PE (inn X c N s H C a) e (tV X.K r))
  (w:swapsWith (.ListComp e [⟨t,iter,f,0⟩] c o) (some (.Name x d)) p.line X.e=pure true)
  (K:∀x,foldedSetIterable iter X.e x=pure x) (b:X.N[i]? = some x) (P:L2.Loc X.e.scope x)
  (z:X.fn x=true\/X.e.scope.names.lookup x=some .local) :
  PS X (.Assign [.Name x d] (.ListComp e [⟨t,iter,f,0⟩] c o) p) (jT X.K (aG i (U (mq v u n g m r)))):=λk s J H D I q=>
 MT i j B h F S l y (q7 B I) w K b P z k s J H D I q
def vM(n:Nat):Prop:=∀(u:Cn)(X:Cx),XOk u X->∀e,Good X e (tr u n e)
theorem XOk.own{u:Cn}{X:Cx}(h:XOk u X)(o:LS):XOk ⟨u.N,o,u.deep,u.refs,u.ks,u.F,u.G,u.A,u.M,u.I,u.E,u.R,u.Y,u.W⟩ X:=⟨h.hN,h.nd,h.ks,h.kd,h.calm,h.hu,h.fns,h.blt,h.glb,h.attrs,h.meths,h.mks,h.exs,h.ys,h.ws⟩
theorem xb{u:Cn}{X:Cx}(h:XOk u X){n:Nat}(G:vM n){l t iter:Expr}{k:Ab}{o:Scope}{f:EV}(q:nA u (λw x=>tr w n x) l t iter k o=some f) :
  ∃N b m z g j y,BlockOk X o N b m/\PI X t iter (tI X.K z)/\(∀s H C p,PG (inn X o N s H C p) t (gT X.K g))/\(∀s H C p,PIfs (inn X o N s H C p) k j)/\(∀s H C p,PE (inn X o N s H C p) l (tV X.K y)) /\
   (∀x,foldedSetIterable iter X.e x=pure x)/\f=mq z b m g j y:=by
 unfold nA at q;generalize A:u.N++oB u.N (im t)=N at q;generalize D:RJ u.N (im t)=b at q;generalize M:(oB u.N (im t)).length=m at q;split at q
 .rename_i v;rw[aE]at v;obtain⟨E,K,q⟩:=am q;obtain⟨P,I,q⟩:=am q;obtain⟨c,d,q⟩:=am q;obtain⟨e,L,rfl⟩:=aF q;have B:BlockOk X o N b m:=Fs h v.1;have F:N.Nodup:=bP v.2;have i:=λs H C p=>(h.inn B F s H C p).own (u.own.filter (λx=>!(im t).contains x))
  refine⟨N,b,m,E,P,c,e,B,Jh h (G u X h) K,λs H C p=>?_,λs H C p=>?_,λs H C p=>?_,λx=>wI K _ x,rfl⟩
  .exact C9 h.calm rfl F (λx S=>⟨.inl ((i s H C p).local S),.inr ((i s H C p).local S)⟩) I
  .cases k with
   |nil=>cases d;exact PIfs.none
   |cons a r=>
    cases r with
    |nil=>exact PIfs.one ((G _ _ (i s H C p) a).b c d)
    |cons _ _=>cases d
  .exact (G _ _ (i s H C p) l).v e L
 .cases q
theorem xa{u:Cn}{X:Cx}(h:XOk u X){n:Nat}(G:vM n){e t iter:Expr}{a:Ab}{s:Scope}{o:Pos}{f:EV}(q:nA u (λc x=>tr c n x) e t iter a s=some f) :
  PE X (.ListComp e [⟨t,iter,a,0⟩] s o) (tV X.K f)/\∀(i:Nat){x:Str}{b p:Pos},X.N.Nodup->swapsWith (.ListComp e [⟨t,iter,a,0⟩] s o) (some (.Name x b)) p.line X.e=pure true->X.N[i]? = some x->L2.Loc X.e.scope x->(X.fn x=true\/X.e.scope.names.lookup x=some .local) ->
   PS X (.Assign [.Name x b] (.ListComp e [⟨t,iter,a,0⟩] s o) p) (jT X.K (aG i (U f))):=by
 obtain⟨z,P,m,F,K,H,S,B,r,v,d,w,g,rfl⟩:=xb h G q;exact⟨JG B h.calm r v d w g,λi x b p N y k l j=>Jy i N B h.calm r v d w y g k l j⟩
theorem D2{u:Cn}{o:Expr}{m n:Str}{a c:Pos}(h:Pr u o m n a c=true):m=n/\BK o=true/\(a.endLine == c.line)=true:=by unfold Pr at h;simp only[aE]at h;exact⟨bP h.1.1.1,h.1.2,h.2⟩
theorem fQ{o:Expr}{x:Str}{e:Env}(h:BK o=true):attributeBase o x e (eval o e)=eval o e:=by
 cases o with
 |Call f a k p=>
  cases f with
  |Name x q=>cases k<;>cases h
  |_=>rfl
 |_=>rfl
theorem n5{o:Expr}{x:Str}{e:Env}(n:HQ o=true):attributeBase o x e (eval o e)=eval o e:=by
 unfold HQ at n;rcases y6.mp n with h|h
 .exact fQ h
 .cases s:sM o with
  |none=>rw[s]at h;cases h
  |some z=>
   rw[s]at h;clear n;obtain⟨f,k⟩:=z;obtain⟨p,c,rfl⟩:=kH s;cases k with
   |nil=>cases h
   |cons a k=>rfl
theorem AM{a:Ab}{n:Env}{p:Pos}(h:∀e ∈ a,gj e)(l:a.length < 29):methodCallForm (a.length+([]:List Keyword).length) (backTo p (starEach a n)) (backToKw p (keywordEach [] n))=true:=by
 unfold methodCallForm;have s:=ia (n:=n) (p:=p) h;have k:(backTo p (starEach a n)).all (λx=>!x.1)=true:=by
  rw[cZ];intro x c;cases b:x.1 with
  |false=>rfl
  |true=>have:(backTo p (starEach a n)).any (·.1)=true:=o_.mpr ⟨x,c,b⟩;rw[s]at this;cases this
 rw[k];have f:(backToKw p (keywordEach [] n))=[]:=rfl;rw[f];simp;lia
theorem C7{u:Cn}{X:Cx}(h:XOk u X){n:Nat}(g:∀x,Good X x (tr u n x)){o:Expr}{m:Str}{r:Ab}{p k:Pos}:Good X (.Call (.Attribute o m p) r [] k) (Pk u (tr u n o).e o m (r.map λx=>(tr u n x).e) p k):=by
 unfold Pk;split
 .rename_i c;simp only[aE]at c;have l:r.length < 29:=by have:=bP c.2;rwa [eH]at this
  refine .ofE (λf q=>?_) λ_ _=>rfl;obtain⟨x,t,q⟩:=am q;obtain⟨a,v,rfl⟩:=aF q;obtain⟨d,s⟩:=mv (λe _=>g e) v;have b:=D7 (o:=o) (y:=m) (j:=p) (E:=k) (r:=r) (v:=X.e) (n5 c.1.1) (AM s l) c.1.2;cases r with
  |nil=>cases v;exact JF h.meths ((g o).e x t) b
  |cons e i=>exact M8 h.meths ((g o).e x t) d (s e bi _ _) (ia λy w=>s y (bn _ w)) b
 .exact .no
theorem OO{u:Cn}{X:Cx}(h:XOk u X){t:Str}{p:Pos}(q:Jp u.E t=true)(k:b_ u.ks t [.globalImplicit]=true)(o:dJ t=true):∃v,OP (oA X.g t)=some v/\PE X (.Name t p) (tC v):=by
 rcases yn h.exs q with ⟨C,e,x,_⟩|⟨rfl,e,x⟩
 .exact⟨.ref C,by rw[x];rfl,uR (h.gl k) e rfl (cN o).1⟩
 .exact⟨.ty "ValueError",by rw[x];rfl,Ay (h.gl k) e PyProof.Rows.Boot.«ValueError» rfl (by decide) (by decide)⟩
theorem HN{u:Cn}{X:Cx}(h:XOk u X){t:Str}{a:Expr}{f:EE}{e x p:Pos}(q:Jp u.E t=true)(k:b_ u.ks t [.globalImplicit]=true)(o:dJ t=true)(n:b_ u.ks ("isinstance":Str) [.globalImplicit]=true)(s:PE X a (tE X.K f))(m:gj a) :
  PE X (.Call (.Name "isinstance" e) [a,.Name t x] [] p) (tV X.K (mm (nc u.E u.R t) f)):=by
 obtain⟨v,b,c⟩:=OO h (p:=x) q k o;exact MV b (yt h.exs q) (h.gl n) (h.blt ("isinstance":Str) (by decide)) s c (by rw[m];rfl) rfl
theorem Js{u:Cn}{X:Cx}(h:XOk u X):∀{n:Ab}{t:LS},DW n=some t->t.all (Oe u)=true->∃s,ClVs (t.map (oA X.g)) s/\PA X n (λ_ H Q=>Q s H)
 | [],_,q,_=>by cases q;exact⟨[],.nil,jD⟩
 |e::n,_,q,k=>by obtain⟨x,d,p⟩:=am q;obtain⟨l,w,rfl⟩:=aF p;obtain⟨r,rfl⟩:=io d;simp only[zk,aE]at k;obtain⟨s,c,f⟩:=Js h w k.2;have a:=k.1;unfold Oe at a;simp only[aE]at a;obtain⟨v,m,b⟩:=OO h (p:=r) a.1.1 a.1.2 a.2;exact⟨v::s,.cons m c,fG b f⟩
theorem IJ{K:FG}{m:SV}{E:List (Str×LS)}{R:LS}(h:ExsOk K m E R){s:LS}(q:∀t ∈ s,Jp E t=true):AnsOkT K (nP E R s) (s.map (oA m)) where
 non:=by
  induction s with
  |nil=>rfl
  |cons t s i=>show ny _ _ (oA m t::s.map (oA m))=_;unfold ny;rw[(yt h (q t bi)).non];exact i λt x=>q t (bn _ x)
 exc:=λc b C e f=>by
  unfold nP at e;split at e;case isFalse=>cases e
  rename_i k;obtain⟨a,n,rfl⟩:=fV.mp e;obtain⟨r,p,v,d⟩:=h.cl c a C k n f;refine⟨r,p,?_⟩;clear e v d;induction s with
  |nil=>rfl
  |cons t s i=>
   show ny _ _ (oA m t::s.map (oA m))=_;unfold ny;rw[((yt h (q t bi)).exc c (a.contains t) C (by unfold nc;rw[ae k,n];rfl) f).2.2,fE];cases a.contains t with
   |true=>rfl
   |false=>rw[tN];exact i λt x=>q t (bn _ x)
theorem HF{u:Cn}{X:Cx}(h:XOk u X){f:Str}{g:GF}{a:Expr}{s:Ab}{x:pK}{b p:Pos}(q:u.I f=some g)(v:b_ u.ks f [.globalImplicit]=true)(w:dJ f=true)(m:PA X (a::s) (vX X.K x))(n:∀e ∈ a::s,gj e) :
  PE X (.Call (.Name f b) (a::s) [] p) (tE X.K (wY g f x)):=by
 obtain⟨C,k,j,l,y,c,d,mk,G,i,r⟩:=h.mks f g q;exact M9 mk G i (h.gl v) d c r m (cN w).1 (n a bi _ _) (ia λe t=>n e (bn _ t))
theorem Fc{g:List Comprehension}{t iter:Expr}{i:Ab}(h:PQ g=some (t,iter,i)):g=[⟨t,iter,i,0⟩]:=by
 obtain⟨⟨a,b,c,d⟩,x,p⟩:=am h;split at p
 .rename_i e;cases p;cases (show d=0 from e);exact fH x
 .cases p
section
variable{u:Cn}{X:Cx}(h:XOk u X){n:Nat}(g:∀x,Good X x (tr u n x))
include h g
theorem Eo{f:Str}{e:Ab}{i v:Pos}{a:Expr}{s:LS}(y:b_ u.ks f [.globalImplicit]=true)(l:Sd e=some (a,s)):Good X (.Call (.Name f i) e [] v) (if (decide (f=("isinstance":Str)) && s.all (Oe u) && decide (s.length≤100))=true then .ofV ((tr u n a).e.map λx=>mm (nP u.E u.R s) x) else {}):=by
 refine .ite (λm=>?_) .no;simp only[aE,gY]at m;obtain⟨⟨rfl,k⟩,j⟩:=m;obtain⟨⟨K,b⟩,o,p⟩:=am l;obtain⟨P,H,p⟩:=am p;obtain⟨F,S,p⟩:=aF p;cases p;cases uC o;obtain⟨c,p,rfl⟩:=qd H;refine .ofV (λf q=>?_) λ_ _=>rfl;obtain⟨x,r,rfl⟩:=aF q;obtain⟨A,d,w⟩:=Js h S k;exact MW d (by rw[eH];exact j) (IJ h.exs λt z=>by have:=cZ.mp k t z;unfold Oe at this;simp only[aE]at this;exact this.1.1) (h.gl y) (h.blt ("isinstance":Str) (by decide)) ((g _).e x r) w (qA r).st
theorem JU{f:Str}{r:Ab}{y l:Pos}:Good X (.Call (.Name f y) r [] l) (R7 u (λx=>tr u n x) f r):=by
 refine .ite (λc=>?_) .no;simp only[aE,oX]at c;cases r with
 |nil=>cases c.2
 |cons a r=>
 have w:Good X (.Call (.Name f y) (a::r) [] l) (.ofV ((sN f).bind λg=>(qm ((a::r).map λx=>(tr u n x).v)).map λx=>cU g x)):=by refine .ofV (λf q=>?_) λ_ _=>rfl;obtain⟨o,s,q⟩:=am q;obtain⟨x,m,rfl⟩:=aF q;obtain⟨k,b⟩:=iO (s:=a::r) (λe _=>g e) m;exact Fq h s c.1.1 k b
 refine .el (λS d=>?_) λ_=>.el (λS d=>.ite (λ_=>?_) ?_) λ_=>.el (λj p=>?_) λ_=>.el (λ⟨j,C⟩ p=>Eo h g c.1.1 p) λ_=>.el (λ⟨j,t⟩ p=>?_) λ_=>w
 .refine .ofE (λf q=>?_) λ_ _=>rfl;obtain⟨x,s,rfl⟩:=aF q;obtain⟨k,b⟩:=mv (λe _=>g e) s;exact HF h d c.1.1 c.1.2 k b
 .refine .ofV (λf q=>?_) λ_ _=>rfl;obtain⟨x,s,rfl⟩:=aF q;obtain⟨k,b⟩:=mv (λe _=>g e) s;exact(Fj h d c.1.1 c.1.2 k b).1
 .refine .ofV (λf q=>?_) λ_ _=>rfl;obtain⟨x,s,rfl⟩:=aF q;obtain⟨k,b⟩:=iO (λe _=>g e) s;exact Iv h d c.1.1 c.1.2 k b
 .cases fH p;refine .ite (λF=>?_) ?_
  .subst F;refine .ofV (λf q=>?_) λ_ _=>rfl
   obtain⟨x,s,rfl⟩:=aF q;exact Qk (h.gl c.1.1) (h.blt _ (by decide)) ((g _).e x s) ((qA s).st _ _)
  .refine .ofV (λf q=>?_) λ_ _=>rfl;obtain⟨o,s,q⟩:=am q;obtain⟨x,m,rfl⟩:=aF q;obtain⟨k,b⟩:=iO (s:=[a]) (λe _=>g e) m;exact Fq h s c.1.1 k b
 .refine .ite (λv=>?_) w;clear w;rw[aE]at v;cases bP v.1;obtain⟨⟨k,b⟩,z,K⟩:=am p;obtain⟨A,H,P⟩:=aF K;cases P;obtain⟨B,rfl⟩:=io H;cases uC z;refine .el (λT s=>?_) λ_=>.ite (λi=>?_) .no
  .refine .ofV (λf q=>?_) λ_ _=>rfl;obtain⟨x,m,rfl⟩:=aF q;exact Ln h s c.1.1 v.2 ((g _).e x m) (qA m).st
  .rw [aE]at i;refine .ofV (λf q=>?_) λ_ _=>rfl;obtain⟨x,m,rfl⟩:=aF q;exact HN h i.1 v.2 i.2 c.1.1 ((g _).e x m) (qA m).st
theorem JW{o:Expr}{m:Str}{v:Ab}{p d:Pos}:Good X (.Call (.Attribute o m p) v [] d) (R8 u (λx=>tr u n x) o m p v d):=by
 have j:X.A.units+1 < cLine:=by have:=h.hu;lia
 refine .ite (λc=>?_) (.el (λa t=>?_) λ_=>?_)
 .rw [aE]at c;cases pa.mp c.1;obtain⟨rfl,k,r⟩:=D2 c.2;refine .ofE (λf q=>?_) λ_ _=>rfl;obtain⟨x,e,rfl⟩:=aF q;exact Qf ((g _).e x e) (fQ k) r
 .cases fH t;refine .ite (λc=>?_) (C7 h g)
  .obtain⟨rfl,k,r⟩:=D2 c;refine .ofE (λf q=>?_) λ_ _=>rfl;obtain⟨x,e,q⟩:=am q;obtain⟨y,s,rfl⟩:=aF q;exact Gz ((g _).e x e) ((g _).e y s) ((qA s).st _ _) (fQ k) r
 .refine .ite (λc=>.el (λ⟨a,b⟩ t=>?_) λ_=>.no) (C7 h g)
  .simp only[aE]at c;cases bP c.1.1;cases uC t;refine .ofV (λf q=>?_) λ_ _=>rfl;obtain⟨x,e,q⟩:=am q;obtain⟨y,s,q⟩:=am q;obtain⟨z,w,rfl⟩:=aF q;have l:starEach [b] X.e=[(false,eval b X.e)]:=(lJ w).st _ _;have i:starEach [a,b] X.e=[(false,eval a X.e),(false,eval b X.e)]:=by rw[(lJ s).st,l]
   exact JE j ((g _).v x e) ((g _).v y s) ((g _).v z w) ⟨fQ c.1.2,by rw[i];rfl,c.2,by rw[i];rfl⟩
end
theorem jS:∀n,vM n
 |0=>λu X h e=>Good.no
 |n+1=>by
  have G:=jS n;intro u X h e;have g:=G u X h;cases e with
  |Constant c k p=>
   cases c with
   |int i=>exact .ofV (λf q=>by cases q;exact Qm) λ_ _=>rfl
   |bool i=>exact .ofV (λf q=>by cases q;exact SM) λ_ _=>rfl
   |none=>exact .ofV (λf q=>by cases q;exact Qh) λ_ _=>rfl
   |str i=>exact .ofV (λf q=>by cases q;exact M7) λ_ _=>rfl
   |_=>exact .no
  |Name x p=>
   refine .ite (λw=>?_) (.ite (λw=>?_) .no)
   .rw [aE]at w;refine .ofE (λf q=>?_) λ_ _=>rfl;obtain⟨i,r,rfl⟩:=aF q;exact M6 i (h.get r) (h.vis w.1) (cN w.2).1 (cN w.2).2
   .rw [aE]at w;refine .ofV (λf q=>?_) λ_ _=>rfl;obtain⟨v,r,q⟩:=am q;split at q
    .cases q
    .rename_i T;cases q;exact M_ (h.gl w.1) ((h.glb _ v r).1 (by simpa using T)) (cN w.2).1
  |BinOp a j b p=>refine .ofV (λf q=>?_) λ_ _=>rfl;obtain⟨o,r,q⟩:=am q;obtain⟨x,t,q⟩:=am q;obtain⟨y,d,rfl⟩:=aF q;exact SI (L6 h r) ((g _).v x t) ((g _).v y d)
  |UnaryOp j a p=>
   cases j with
   |USub=>refine .ofV (λf q=>?_) λ_ _=>rfl;obtain⟨x,r,rfl⟩:=aF q;exact Qi ((g _).v x r)
   |Not=>
    refine .ofB (λf q=>?_) λf q=>?_
    .obtain⟨x,r,rfl⟩:=aF q;exact P9 ((g _).b x r)
    .obtain⟨x,r,rfl⟩:=aF q;exact Qg ((g _).w x r)
   |_=>exact .no
  |BoolOp j P p=>exact .ofB (λf q=>(vO (λe _=>g e) q).pt) λf q=>vQ (λe _=>g e) q
  |Compare a ops bs p=>
   refine .el (λj S=>?_) λ_=>.no
   .cases fH S;refine .el (λb R=>?_) λ_=>.no
    cases fH R;refine .el (λI r=>?_) λ_=>?_
    .have s:∀f,((tr u n a).v.bind λx=>(tr u n b).v.map λy=>rg I x y)=some f->PE X (.Compare a [j] [b] p) (tV X.K f)/\PT X (.Compare a [j] [b] p) (tQ X.K (bV f)):=λf q=>by
      obtain⟨x,t,q⟩:=am q;obtain⟨y,d,rfl⟩:=aF q;exact⟨Qo (E2 r) ((g _).v x t) ((g _).v y d) ((lJ d).mr _),P_ (E2 r) ((g _).v x t) ((g _).v y d) ((lJ d).mr _)⟩
     exact .ofC (λf q=>(s f q).1) λf q=>(s f q).2
    .have s:∀f,((LZ j).bind λg=>(tr u n a).e.bind λx=>(tr u n b).e.map λy=>cQ g x y)=some f->PE X (.Compare a [j] [b] p) (tV X.K f)/\PT X (.Compare a [j] [b] p) (tQ X.K (bV f)):=λf q=>by
      obtain⟨o,r,q⟩:=am q;obtain⟨x,t,q⟩:=am q;obtain⟨y,d,rfl⟩:=aF q;exact⟨Nb (A0 h r) ((g _).e x t) ((g _).e y d) ((qA d).mr _),MX (A0 h r) ((g _).e x t) ((g _).e y d) ((qA d).mr _)⟩
     exact .ofC (λf q=>(s f q).1) λf q=>(s f q).2
  |IfExp c a b p=>
   have F:∀f,((tr u n c).b.bind λq=>(tr u n a).v.bind λx=>(tr u n b).v.map λy=>IT q x y)=some f->PE X (.IfExp c a b p) (tV X.K f):=λf q=>by obtain⟨o,r,q⟩:=am q;obtain⟨x,t,q⟩:=am q;obtain⟨y,d,rfl⟩:=aF q;exact SK ((g _).b o r) ((g _).v x t) ((g _).v y d)
   refine⟨F,λf q=>?_,λf q=>(by cases q),λf q=>?_⟩
   .obtain⟨x,r,rfl⟩:=aF (show lZ U _=some f from q);exact Ms (F _ r)
   .obtain⟨x,r,rfl⟩:=aF (show lZ bV _=some f from q);exact Ad (F _ r)
  |Tuple P c p=>refine .ofV (λf q=>?_) λ_ _=>rfl;obtain⟨x,r,rfl⟩:=aF q;exact Qb (iO (λe _=>g e) r).1
  |List P p=>refine .ofV (λf q=>?_) λ_ _=>rfl;obtain⟨x,r,rfl⟩:=aF q;exact Qj (iO (λe _=>g e) r).1
  |Dict ks vs p=>refine .ite (λw=>?_) .no;simp only[aE]at w;obtain⟨⟨⟨M,N⟩,A⟩,Q⟩:=w;refine .ofV (λf q=>?_) λ_ _=>rfl;obtain⟨l,r,rfl⟩:=aF q;exact M' (Ak (λe _=>g e) r) M (bP N) (λz=>by rw[z]at A;cases A) (bP Q)
  |Subscript a i p=>
   have B:X.A.units+1 < cLine:=by have:=h.hu;lia
   refine .el (λ⟨lo,hi,st⟩ W=>?_) λ_=>.el (λkvs H=>?_) λ_=>.ite (λ_=>?_) ?_;case refine_2=>obtain⟨x,p,rfl,t1,t2,t3⟩:=tab_of h H;refine .ofV (λf q=>?_) λ_ _=>rfl;obtain⟨y,t,rfl⟩:=aF q;exact M0 t1 t2 t3 ((g _).v y t) (lJ t).ix
   .obtain⟨p,rfl⟩:=Ka W;cases st with
    |some _=>exact .no
    |none=>
     refine .ite (λL=>nomatch L) (.ite (λ_=>.ofV (λf q=>?_) λ_ _=>rfl) (.ofV (λf q=>?_) λ_ _=>rfl))
     .obtain⟨x,r,q⟩:=am q;obtain⟨y,t,q⟩:=am q;obtain⟨z,d,rfl⟩:=aF q;exact Qd ((g _).e x r) (uF g t) (uF g d)
     obtain⟨x,r,q⟩:=am q;obtain⟨y,t,q⟩:=am q;obtain⟨z,d,rfl⟩:=aF q;exact Qe ((g _).v x r) (uF g t) (uF g d)
   .refine .ofE (λf q=>?_) λ_ _=>rfl;obtain⟨x,r,q⟩:=am q;obtain⟨y,t,rfl⟩:=aF q;exact Ql B ((g _).e x r) ((g _).v y t) (lJ t).ix
   .refine .ofV (λf q=>?_) λ_ _=>rfl;obtain⟨x,r,q⟩:=am q;obtain⟨y,t,rfl⟩:=aF q;exact SJ B ((g _).v x r) ((g _).v y t) (lJ t).ix
  |Call fn as ks cp=>
   refine .ite (λH=>?_) .no;cases pa.mp H;refine .el (λf V=>?_) λ_=>.el (λ⟨o,m,ap⟩ S=>?_) λ_=>.no
   .obtain⟨fp,rfl⟩:=io V;exact JU h g
   .cases vI S;exact JW h g
  |Attribute o f p=>
   refine .ite (λw=>.ite (λ_=>?_) ?_) .no
   .refine .ofE (λf q=>?_) λ_ _=>rfl;obtain⟨x,r,rfl⟩:=aF q;exact SG (λc C z D=>⟨(h.exs.ri c _ C z D).1,(h.exs.ri c _ C z D).2.1⟩) ((g _).e x r) (fQ w)
   .refine .ofE (λf q=>?_) λ_ _=>rfl;obtain⟨x,r,rfl⟩:=aF q;exact Qn h.attrs ((g _).e x r) (fQ w)
  |ListComp E gs K p=>refine .el (λ⟨tg,iter,ifs⟩ Z=>?_) λ_=>.no;cases Fc Z;exact .ofV (λf q=>(xa h G q).1) λ_ _=>rfl
  |_=>exact .no
theorem qh{u:Cn}{X:Cx}(h:XOk u X){n k:Nat}{e:Expr}{f:EE}(q:No u n k e=some f):PE X e (tE X.K f)/\(ky e=false->∀t l v,swapsWith e t l v=pure false):=⟨(jS n u X h _).e f q,(qA q).sw⟩
end Ev
namespace Ev
open PySem PySem.Spec PyProof.Rows L2
def uE(T:Stmt->Option ES):List Stmt->Option ES
 | []=>some df
 | [s]=>T s
 |s::r=>(T s).bind λf=>(uE T r).map λg=>ag f g
def Mh(s:Stmt):Option (Str×Expr):=if h:s.ctorIdx=5 then Stmt.Assign.elim s h λa v _=>(mD a).bind λt=>(x4 t).map λx=>(x,v) else none
theorem Ba{s:Stmt}{x:Str}{v:Expr}(h:Mh s=some (x,v)):∃f a,s=.Assign [.Name x f] v a:=by
 have c:=LN h;revert h;exact Stmt.Assign.elim s c λb m a h=>by obtain⟨t,e,h⟩:=am h;obtain⟨r,n,k⟩:=aF h;obtain⟨p,rfl⟩:=io n;cases k;exact⟨p,a,by rw[fH e]⟩
def Ot:ExceptHandler->Option (Str×Str×List Stmt)
 | .ExceptHandler t n b _=>t.bind λt=>n.bind λn=>(x4 t).map λc=>(c,n,b)
theorem HU{e:ExceptHandler}{c n:Str}{b:List Stmt}(h:Ot e=some (c,n,b)):∃k o,e=.ExceptHandler (some (.Name c k)) (some n) b o:=by obtain⟨t,m,x,p⟩:=e;obtain⟨q,rfl,h⟩:=am (show(t.bind λt=>m.bind λn=>(x4 t).map λc=>(c,n,x))=_ from h);obtain⟨r,rfl,h⟩:=am h;obtain⟨f,a,s⟩:=aF h;obtain⟨p,rfl⟩:=io a;cases s;exact⟨_,_,rfl⟩
def C5(u:Cn)(T:Expr->Tr)(D:Expr->Option EE)(b:List Stmt)(p:List ExceptHandler)(e m:List Stmt):Option ES:=if (e.isEmpty && m.isEmpty)=true then
  (mD b).bind λs=>(Mh s).bind λx=>(sM x.2).bind λf=>(mD p).bind λh=>(Ot h).bind λc=>(mD c.2.2).bind λq=>(Mh q).bind λy=>(x4 y.2).bind λz=>(u.Y f.1).bind λg=>
   if (b_ u.ks x.1 [.local,.cell] && b_ u.ks y.1 [.local,.cell] && b_ u.ks f.1 [.globalImplicit] && dJ f.1 && !f.2.isEmpty && b_ u.ks c.1 [.globalImplicit] && dJ c.1 && (u.E.any λw=>decide (w.1=c.1)) && b_ u.ks c.2.1 [.local] && decide (z=c.2.1) && dJ c.2.1)=true then
    (i9 u.N x.1).bind λi=>(i9 u.N y.1).bind λj=>(i9 u.N c.2.1).bind λk=>(if u.own.contains x.1=true then D x.2 else (T x.2).e).bind λt=>(rn (f.2.map λw=>(T w).e)).map λa=>
     xT (aG i t) (pY g a) (λr=>u.R.contains r && (u.E.lookup r).any λn=>n.contains c.1) k (aG j (gm k))
   else none
 else none
def R6(u:Cn)(n:Nat)(t v:Expr):Option ES:=
 (x4 t).elim ((MM t).elim (if ky v=true then none else (qf t).bind fun _=>if (qf v).isSome=true then none else (GS u.N u.ks [.local,.cell] t).bind fun g=>(tr u n v).v.map fun z=>G8 g z)
   λz=>(Ep v).elim (if ky v=true then none else (tr u n z.1).e.bind λx=>(No u n 5 v).map λy=>km u.A x z.2.1 y) λe=>(tr u n z.1).e.bind λx=>(qm (e.map λy=>(tr u n y).v)).map λa=>km u.A x z.2.1 (mS a))
 λx=>if b_ u.ks x [.local,.cell]=true then (i9 u.N x).bind λi=>if (u.deep.contains x && !ky v)=true then (No u n 5 v).map (aG i) else (if u.own.contains x=true then Ep v else none).elim ((tr u n v).e.map (aG i)) λe=>(qm (e.map λy=>(tr u n y).v)).map λa=>aG i (mS a)
  else none
def Bm(u:Cn):Nat->Stmt->Option ES
 |0,_=>none
 |n+1,st=>match st with
  | .Assign m v _=>(mD m).bind λt=>R6 u n t v
  | .Return r _=>r.bind λe=>(tr u n e).e.map br
  | .Expr e _=>if ky e=true then none else (tr u n e).e.map aU
  | .Raise ..=>some bD
  | .Continue _=>some Mx
  | .AugAssign t p v _=>match p with
   | .Add=>(x4 t).elim ((MM t).bind λz=>(tr u n z.1).e.bind λx=>(tr u n v).v.map λw=>nR u.A x z.2.1 w) λx=>if b_ u.ks x [.local,.cell]=true then (i9 u.N x).bind λi=>(tr u n v).v.map λz=>Bs i z else none
   |_=>none
  | .While c o l _=>if l.isEmpty=false then none else (tr u n c).b.bind λq=>(uE (Bm u n) o).map λb=>eD 1000 q b
  | .Try b s l f _=>C5 u (λy=>tr u n y) (λy=>No u n 5 y) b s l f
  | .If c a b _=>(tr u n c).b.bind λq=>(uE (Bm u n) a).bind λx=>(uE (Bm u n) b).map λy=>bY q x y
  | .For h iter o l _=>if l.isEmpty=false then none else (GS u.N u.ks [.local,.cell] h).bind λg=>(GU u (λy=>tr u n y) h iter).bind λk=>(uE (Bm u n) o).map λb=>uP k g b
  |_=>none
theorem DV{s:Ab}{c:Nat}{p:Pos}{v:Expr}{e:Env}(h:¬(qf v).isSome=true):swappedStores [.Tuple s c p] v e=pure none:=by cases v<;>first|rfl|exact absurd rfl h
theorem GR{u:Cn}{n:Nat}{l:Expr}{g:List Comprehension}{s:Scope}{p:Pos}{f:EE}(h:(tr u n (.ListComp l g s p)).e=some f) :
  ∃k t iter i b,n=k+1/\g=[⟨t,iter,i,0⟩]/\nA u (λa x=>tr a k x) l t iter i s=some b/\f=U b:=by
 cases n with
 |zero=>cases h
 |succ n=>
  replace h:((PQ g).elim {} λz=>Tr.ofV (nA u (λa x=>tr a n x) l z.1 z.2.1 z.2.2 s)).e=some f:=h;cases e:PQ g with
  |none=>rw[e]at h;cases h
  |some z=>rw[e]at h;obtain⟨x,q,rfl⟩:=aF (show lZ U _=some f from h);exact⟨n,_,_,_,x,rfl,Fc e,q,rfl⟩
theorem jA{X:Cx}{T:Stmt->Option ES}(h:∀st f,T st=some f->PS X st (jT X.K f)):∀{a:List Stmt}{f:ES},uE T a=some f->iF X a (jT X.K f)
 | [],f,q=>by cases q;exact P4
 | [s],f,q=>Jw (h s f q)
 |s::t::r,f,q=>by obtain⟨x,e,q⟩:=am q;obtain⟨y,n,rfl⟩:=aF q;exact MS (h s x e) (jA h n)
theorem XOk.more{u:Cn}{X:Cx}(h:XOk u X)(E:VP)(p:PN):XOk u (lq X E p):=⟨h.hN,h.nd,h.ks,h.kd,h.calm,h.hu,h.fns,h.blt,h.glb,h.attrs,h.meths,h.mks,h.exs,h.ys,h.ws⟩
structure OnStack(X:Cx):Prop where
 stk:X.k=X.e::X.o
 frm:X.e.frame=some X.e.locals
 ex:X.ex=[]
theorem Bb{u:Cn}{X:Cx}(h:XOk u X){n:Nat}{a:Ab}{s:pK}(q:rn (a.map λw=>(tr u n w).e)=some s):PA X a (vX X.K s)/\∀e ∈ a,gj e:=mv (λe _=>jS n u X h e) q
theorem Fi{u:Cn}{X:Cx}(h:XOk u X){n:Nat}{f:Str}{v q:Pos}{r:Ab}{s:pK}{g:GX}(d:u.Y f=some g)(m:b_ u.ks f [.globalImplicit]=true)(t:dJ f=true)(p:r.isEmpty=false)(H:rn (r.map λw=>(tr u n w).e)=some s):PE X (.Call (.Name f v) r [] q) (GY X (pY g s)):=by
 obtain⟨l,k,S,F,K,G,o,z,y,i⟩:=h.ys f g d;obtain⟨b,x⟩:=Bb h H;cases r with
 |nil=>cases p
 |cons a c=>exact JC G l o (h.gl m) z y i b (cN t).1 (x a bi _ _) (ia λe j=>x e (bn _ j))
theorem JP{u:Cn}{X:Cx}(h:XOk u X)(r:∀x,X.fn x=true)(K:OnStack X){n:Nat}{x y c f v:Str}{Q F H A np yp zp z o P:Pos}{a:Ab}{M:GX}{i j k:Nat}{L:EE}{B:pK}(hY:u.Y f=some M)
  (D:b_ u.ks x [.local,.cell]=true) (T:b_ u.ks y [.local,.cell]=true) (V:b_ u.ks f [.globalImplicit]=true) (W:dJ f=true) (Z:a.isEmpty=false) (c6:b_ u.ks c [.globalImplicit]=true) (c7:dJ c=true) (G:(u.E.any λw=>decide (w.1=c))=true) (I:b_ u.ks v [.local]=true) (t:dJ v=true)
  (qi:i9 u.N x=some i) (qj:i9 u.N y=some j) (N:i9 u.N v=some k) (q1:∀E p,PE (lq X E p) (.Call (.Name f F) a [] H) (tE X.K L)) (q2:rn (a.map λw=>(tr u n w).e)=some B) :
  PS X (.Try [.Assign [.Name x Q] (.Call (.Name f F) a [] H) A] [.ExceptHandler (some (.Name c np)) (some v) [.Assign [.Name y yp] (.Name v zp) z] o] [] [] P) (jT X.K (xT (aG i L) (pY M B) (λm=>u.R.contains m && (u.E.lookup m).any λs=>s.contains c) k (aG j (gm k)))):=by
 obtain⟨R,ns2,g⟩:=h.exs.own c G;have d:swapsWith (.Call (.Name f F) a [] H) (some (.Name x Q)) A.line X.e=pure false:=rfl;refine MP K.stk K.frm K.ex h.nd (h.gl c6) g (cN c7).1 (h.get N) (h.local I) (λE p=>?_) (λE p=>?_) (λe=>?_) λm C q ns=>?_
 .have b:=h.more E p;exact Jw (X:=lq X E p) (Bg (X:=lq X E p) i b.nd (q1 E p) (b.get qi) (b.loc D) d (.inl (r x)))
 .have b:=h.more E p;exact pC (Nf (X:=lq X E p) i b.nd (Fi b hY V W Z q2) (b.get qi) (b.loc D) d (.inl (r x)))
 .exact Jw (X:=kl X e) (Bg (X:=kl X e) j h.nd (M6 (X:=kl X e) k (h.get N) (.inl (h.local I)) (cN t).1 (cN t).2) (h.get qj) (h.loc T) rfl (.inl (r y)))
 .obtain⟨hR,l⟩:=Bool.and_eq_true_iff.mp (show(u.R.contains m && (u.E.lookup m).any λs=>s.contains c)=true from q);cases S:u.E.lookup m with
  |none=>rw[S]at l;cases l
  |some s=>rw[S]at l;exact((h.exs.cl m s C hR S ns).2.2.2 c R G g).2 l
theorem JT{u:Cn}{X:Cx}(h:XOk u X)(r:∀x,X.fn x=true){n:Nat}{t v:Expr}{E:Pos}{f:ES}(q:R6 u n t v=some f):PS X (.Assign [t] v E) (jT X.K f):=by
 have g:=jS n u X h;have Z:X.A.units+1 < cLine:=by have:=h.hu;lia
 rcases mL q with ⟨x,C,w⟩|⟨_,w⟩
 .clear q;obtain⟨D,rfl⟩:=io C;split at w
  .rename_i F;obtain⟨i,qi,q⟩:=am w;split at q
   .rename_i M;rw[aE]at M;obtain⟨L,s,rfl⟩:=aF q;exact Bg i h.nd (qh h s).1 (h.get qi) (h.loc F) ((qh h s).2 (by simpa using M.2) _ _ _) (.inl (r x))
   .rcases mL q with ⟨P,m,q⟩|⟨_,q⟩
    .split at m
     .obtain⟨a,s,rfl⟩:=aF q;obtain⟨p,rfl⟩:=wK m;exact Bg i h.nd (IP (iO (λe _=>g e) s).1) (h.get qi) (h.loc F) rfl (.inl (r x))
     .cases m
    .obtain⟨L,s,rfl⟩:=aF q;cases A:ky v with
     |false=>exact Bg i h.nd ((g v).e L s) (h.get qi) (h.loc F) ((qA s).sw A _ _ _) (.inl (r x))
     |true=>
      have c:v.ctorIdx=8:=eq_of_beq A;clear q A w;revert s;refine Expr.ListComp.elim v c fun a W c d s=>?_;obtain⟨k,G,iter,y,T,rfl,rfl,S,rfl⟩:=GR s;have I:=xa (o:=d) h (jS k) S;have K:swapsWith (.ListComp a [⟨G,iter,y,0⟩] c d) (some (.Name x D)) E.line X.e=pure (X.e.blockKind == .function && X.e.kindOf x == some .local && D.line == (Expr.ListComp a [⟨G,iter,y,0⟩] c d).pos.line
       && !(c.names.any λ(n,k)=>n == x && (k == .local ||k == .cell))):=rfl
      revert K;generalize (X.e.blockKind == .function && X.e.kindOf x == some .local && D.line == (Expr.ListComp a [⟨G,iter,y,0⟩] c d).pos.line && !(c.names.any λ(n,k)=>n == x && (k == .local ||k == .cell)))=b;intro K;cases b with
      |true=>exact I.2 i h.nd K (h.get qi) (h.loc F) (.inl (r x))
      |false=>exact Bg i h.nd (Ms I.1) (h.get qi) (h.loc F) K (.inl (r x))
  .cases w
 rcases mL w with ⟨⟨o,f,R⟩,Q,j⟩|⟨_,j⟩
 .clear q w;cases vI Q;rcases mL j with ⟨P,m,q⟩|⟨_,H⟩
  .clear j;obtain⟨p,rfl⟩:=wK m;obtain⟨x,s,q⟩:=am q;obtain⟨a,S,rfl⟩:=aF q;exact MQ h.attrs ((g o).e x s) (IP (iO (λe _=>g e) S).1) rfl
  clear j;split at H
  .cases H
  .rename_i l;obtain⟨x,s,q⟩:=am H;obtain⟨z,S,rfl⟩:=aF q;exact MQ h.attrs ((g o).e x s) (qh h S).1 ((qh h S).2 (by simpa using l) _ _ _)
 .clear q w;split at j
  .cases j
  rename_i l;obtain⟨P,m,H⟩:=am j;clear j;obtain⟨c,p,rfl⟩:=qd m;split at H
  .cases H
  .rename_i B;obtain⟨V,s,q⟩:=am H;obtain⟨z,N,rfl⟩:=aF q;exact P1 ((g v).v z N) (C9 h.calm h.hN h.nd (λx C=>⟨h.loc C,.inl (r x)⟩) s) (show swapsWith v (some (.Tuple P c p)) E.line X.e=pure false from(lJ N).sw (by simpa using l) _ _ _) (DV B) rfl
theorem qg{u:Cn}{X:Cx}(h:XOk u X)(w:∀x,X.fn x=true)(N:PassesOwn (model X.p X.w) X.A X.e X.xe)(W:OnStack X):∀n (st:Stmt) (f:ES),Bm u n st=some f->PS X st (jT X.K f)
 |0,st,f,q=>by cases q
 |n+1,st,f,q=>by
  have A:=qg h w N W n;have g:=jS n u X h;cases st with
  |Assign ts F sp=>obtain⟨t,K,d⟩:=am q;clear q;cases fH K;exact JT h w d
  |Return r p=>obtain⟨e,K,d⟩:=am q;cases (show r=some e from K);clear q K;obtain⟨x,k,rfl⟩:=aF d;exact P2 ((g _).e x k)
  |Expr e p=>
   replace q:(if ky e=true then none else (tr u n e).e.map aU)=some f:=q;split at q
   .cases q
   .rename_i M;obtain⟨x,k,rfl⟩:=aF q;exact MR ((g _).e x k) ((qA k).sw (by simpa using M) _ _ _)
  |Raise e c p=>cases q;exact Jx
  |Continue p=>cases q;exact SE
  |AugAssign t op F p=>
   cases op with
   |Add=>
    rcases mL q with ⟨x,Q,d⟩|⟨_,d⟩
    .clear q;obtain⟨px,rfl⟩:=io Q;split at d
     .rename_i hk;obtain⟨i,qi,q⟩:=am d;obtain⟨z,H,rfl⟩:=aF q;exact P6 i h.nd ((g _).v z H) (h.get qi) (h.loc hk) (.inl (w _))
     .cases d
    .clear q;obtain⟨⟨o,m,ap⟩,hz,B⟩:=am d;clear d;cases vI hz;obtain⟨x,k,q⟩:=am B;obtain⟨z,H,rfl⟩:=aF q;exact MU h.attrs ((g _).e x k) ((g _).v z H)
   |_=>cases q
  |While c P l p=>
   cases l with
   |cons _ _=>cases q
   |nil=>obtain⟨c,k,q⟩:=am q;obtain⟨b,H,rfl⟩:=aF q;exact Jv N ((g _).b c k) (jA A H)
  |Try b hd l I p=>
   have S:C5 u (λy=>tr u n y) (λy=>No u n 5 y) b hd l I=some f:=q;unfold C5 at S;split at S
   .rename_i L;rw[aE]at L;cases pa.mp L.1;cases pa.mp L.2;obtain⟨s,K,d⟩:=am S;obtain⟨⟨x,v⟩,b2,B⟩:=am d;obtain⟨⟨f,R⟩,b3,Z⟩:=am B;obtain⟨hh,b4,p3⟩:=am Z;obtain⟨⟨c,nm,bb⟩,b5,p4⟩:=am p3;obtain⟨s2,b6,p5⟩:=am p4;obtain⟨⟨y,v2⟩,b7,p6⟩:=am p5;obtain⟨z,b8,p7⟩:=am p6;obtain⟨gx,hY,C⟩:=am p7;clear q S d B Z p3 p4 p5 p6 p7;obtain⟨fp,cp,rfl⟩:=kH b3;obtain⟨xp,ap,rfl⟩:=Ba b2;obtain⟨zp,rfl⟩:=io b8;obtain⟨yp,ap2,rfl⟩:=Ba b7;cases fH b6;obtain⟨np,V,rfl⟩:=HU b5;cases fH K;cases fH b4;dsimp only at C;split at C
    .rename_i T;simp only[aE,oX]at T;obtain⟨⟨⟨⟨⟨⟨⟨⟨⟨⟨c1,c2⟩,c3⟩,c4⟩,c5⟩,c6⟩,c7⟩,c8⟩,c9⟩,D⟩,G⟩:=T;obtain⟨i,qi,q⟩:=am C;obtain⟨j,qj,q⟩:=am q;obtain⟨kk,qk,q⟩:=am q;obtain⟨fe,k,q⟩:=am q;obtain⟨as,H,rfl⟩:=aF q;cases bP D;refine JP h w W hY c1 c2 c3 c4 c5 c6 c7 c8 c9 G qi qj qk (λE pn=>?_) H;split at k
     .exact (qh (h.more E pn) k).1
     .exact (jS n u _ (h.more E pn) _).e fe k
    .cases C
   .cases S
  |If c a b p=>obtain⟨c,k,q⟩:=am q;obtain⟨x,H,q⟩:=am q;obtain⟨y,q3,rfl⟩:=aF q;exact SD ((g _).b c k) (jA A H) (jA A q3)
  |For tg iter P l p=>
   cases l with
   |cons _ _=>cases q
   |nil=>obtain⟨gg,S,q⟩:=am q;obtain⟨it,k,q⟩:=am q;obtain⟨b,H,rfl⟩:=aF q;exact P5 N h.calm (Jh h g k) (C9 h.calm h.hN h.nd (λx Q=>⟨h.loc Q,.inl (w x)⟩) S) (jA A H) λx=>wI k _ x
  |_=>cases q
end Ev
namespace Ev
open PySem PySem.Spec PyProof.Rows L2
def vV(T:Stmt->Option ES)(h:Stmt->EX):List Stmt->EX
 | []=>j9
 | [s]=>h s
 |s::r=>match T s with
  |some f=>dM f (h s) (vV T h r)
  |none=>h s
def Nm(u:Cn)(n:Nat)(e c:Option Expr):Option EX:=if c.isSome=true then none else e.bind λe=>(sM e).bind λz=>(mD z.2).bind λa=>(FM.lookup z.1).bind λf=>(tr u n a).v.bind λv=>if (b_ u.ks z.1 [.globalImplicit] && dJ z.1)=true then some (cL z.1 f v) else none
def JS(u:Cn)(n:Nat)(e:Expr):Option EX:=(PX e).bind λz=>(tr u n z.1.1).e.bind λo=>(rn (z.2.1.map λw=>(tr u n w).e)).bind λa=>if (HQ z.1.1 && (z.1.2.2.endLine == z.2.2.line) && decide (z.2.1.length < 29))=true then some (bp u.W o z.1.2.1 a) else none
def Mv(u:Cn):Nat->Stmt->EX
 |0,_=>j9
 |n+1,st=>match st with
  | .Raise e c _=>(Nm u n e c).getD j9
  | .Return e _=>(e.bind λe=>JS u n e).getD j9
  | .Expr e _=>(JS u n e).getD j9
  | .If c a b _=>((tr u n c).b.map λq=>fB q (vV (Bm u n) (Mv u n) a) (vV (Bm u n) (Mv u n) b)).getD j9
  | .While c o l _=>(if l.isEmpty=false then none else (tr u n c).b.bind λq=>(uE (Bm u n) o).map λb=>xD 1000 q b (vV (Bm u n) (Mv u n) o)).getD j9
  |_=>j9
theorem mJ{X:Cx}{E:XK}{st:Stmt}{o:Option EX}(h:∀f,o=some f->PS X st (tX X E f)):PS X st (tX X E (o.getD j9)):=by
 cases o with
 |none=>exact JI
 |some f=>exact h f rfl
theorem uD{X:Cx}{E:XK}{T:Stmt->Option ES}{a:Stmt->EX}(e:∀st f,T st=some f->PS X st (jT X.K f))(x:∀st,PS X st (tX X E (a st))):∀h:List Stmt,iF X h (tX X E (vV T a h))
 | []=>Qa
 | [s]=>MZ (x s)
 |s::t::r=>by
  unfold vV;split
  .rename_i k n;exact JA (e s k n) (x s) (uD e x (t::r))
  .exact (mw (x s) (nD (X:=X))).imp' λ_ _ _ z=>z
theorem uG{u:Cn}{X:Cx}(h:XOk u X){n:Nat}{e:Expr}{f:EX}(q:JS u n e=some f):PE X e (GY X f)/\∀t l v,swapsWith e t l v=pure false:=by
 obtain⟨⟨⟨o,m,i⟩,s,z⟩,j,d⟩:=am q;obtain⟨x,k,w⟩:=am d;obtain⟨K,b,p⟩:=am w;clear q d w;cases Mj j;dsimp only at k b p;split at p
 .rename_i c;cases p;simp only[aE]at c;obtain⟨g,a⟩:=Bb h b;have H:s.length < 29:=bP c.2;have r:=D7 (o:=o) (y:=m) (j:=i) (E:=z) (r:=s) (v:=X.e) (n5 c.1.1) (AM a H) c.1.2;refine⟨?_,λ_ _ _=>rfl⟩;cases s with
  |nil=>cases b;exact Gx h.ws ((jS n u X h _).e x k) r
  |cons e F=>exact JB h.ws ((jS n u X h _).e x k) g (a e bi _ _) (ia λy S=>a y (bn _ S)) r
 .cases p
theorem C4{u:Cn}{X:Cx}{E:XK}(h:XOk u X)(s:∀x,X.fn x=true)(r:PassesOwn (model X.p X.w) X.A X.e X.xe)(g:OnStack X)(l:Leaves X E)(P:X.A.depth+5 < recursionLimit):∀(n:Nat)(st:Stmt),PS X st (tX X E (Mv u n st))
 |0,st=>JI
 |n+1,st=>by
  have N:=C4 h s r g l P n;have i:∀t,iF X t (tX X E (vV (Bm u n) (Mv u n) t)):=uD (λst f q=>qg h s r g n st f q) N;cases st with
  |Raise e c p=>
   refine mJ λf q=>?_;have m:=q;clear q;unfold Nm at m;split at m
   .cases m
   rename_i M;cases c with
   |some _=>exact absurd rfl M
   |none=>
    obtain⟨e,rfl,A⟩:=am m;obtain⟨⟨c,R⟩,I,B⟩:=am A;obtain⟨a,L,C⟩:=am B;obtain⟨K,S,G⟩:=am C;obtain⟨v,F,y⟩:=am G;clear m A B C G;obtain⟨_,_,rfl⟩:=kH I;cases fH L;split at y
    .rename_i w;cases y;rw[aE]at w;obtain⟨D,k,j⟩:=h.exs.own c (h.exs.zE c K S);exact CS l h.calm P (h.gl w.1) k j (cN w.2).1 (h.exs.ri c K D S k).2 ((jS n u X h a).v v F) ((lJ F).st _ _)
    .cases y
  |Return e p=>refine mJ λf q=>?_;obtain⟨e,rfl,q⟩:=am q;exact(Ng (uG h q).1).imp' λ_ _ _ z=>Nq l z
  |Expr e p=>exact mJ λf q=>(JJ (uG h q).1 ((uG h q).2 _ _ _)).imp' λ_ _ _ z=>Nq l z
  |If c a b p=>refine mJ λf q=>?_;obtain⟨c,H,rfl⟩:=aF q;exact Qq ((jS n u X h _).b c H) (i a) (i b)
  |While c o d p=>
   refine mJ λf q=>?_;cases d with
   |cons _ _=>cases q
   |nil=>obtain⟨c,H,q⟩:=am q;obtain⟨b,Q,rfl⟩:=aF q;exact GA r ((jS n u X h _).b c H) (jA (λst f q=>qg h s r g n st f q) Q) (i o)
  |_=>exact JI
end Ev
namespace Ev
open PySem PySem.Spec PyProof.Rows L2
structure Df where
 name:Str
 short:Str
 cls:Str
 st:Stmt
 N:LS
 ps:LS
 own:LS
 deep:LS
 refs:LS
noncomputable abbrev At:=List (Str×LS)
noncomputable def aT(T:At)(c f:Str):Bool:=T.any λx=>decide (x.1=c) && x.2.contains f
noncomputable def fT(D:List Df)(h:Str->GF)(x:Str):Option GF:=if (D.any λd=>decide (d.name=x) && d.cls.cps.isEmpty)=true then some (h x) else none
noncomputable def Oo(c m:Str)(d:Df):Bool:=decide (d.cls=c) && decide (d.short=m) && !d.cls.cps.isEmpty
def mT(D:List Df)(h:Str->GF)(c m:Str):Option GF:=if m=("__init__":Str) then none else (D.find? (Oo c m)).map λd=>h d.name
def Rh(D:List Df)(h:Str->GF)(c:Str):Option GF:=(D.find? (Oo c "__init__")).map λd=>h d.name
noncomputable abbrev Ex:=List (Str×LS)
noncomputable abbrev P3:=(Str->GF)×(Str->Option GF)×(Str->GX)
noncomputable def P7(D:List Df)(h:Str->GX)(x:Str):Option GX:=if (D.any λd=>decide (d.name=x) && d.cls.cps.isEmpty)=true then some (h x) else none
def wT(D:List Df)(h:Str->GX)(c m:Str):Option GX:=if m=("__init__":Str) then none else (D.find? (Oo c m)).map λd=>h d.name
def MA(G:Str->Option P)(T:At)(E:Ex)(R:LS)(D:List Df)(p:P3)(d:Df):Cn:=⟨d.N,d.own,d.deep,d.refs,(af d.st).names,fT D p.1,G,aT T,mT D p.1,p.2.1,E,R,P7 D p.2.2,wT D p.2.2⟩
def vF(G:Str->Option P)(T:At)(E:Ex)(R:LS)(D:List Df)(p:P3)(d:Df):ES:=(uE (Bm (MA G T E R D p d) 60) (aD d.st)).getD bD
def xf(G:Str->Option P)(T:At)(E:Ex)(R:LS)(D:List Df)(p:P3)(d:Df):EX:=vV (Bm (MA G T E R D p d) 60) (Mv (MA G T E R D p d) 60) (aD d.st)
noncomputable def a_(R:LS)(g:GX):GX:=λd S=>(g d S).bind λz=>if R.contains z.1.1=true then some z else none
def lm(G:Str->Option P)(T:At)(E:Ex)(R:LS)(D:List Df):Nat->P3
 |0=>(λ_ _ _=>none,λ_=>none,λ_ _ _=>none)
 | n+1=>(fun x=>match D.find? fun d=>decide (d.name=x) with
  |some d=>bE d.ps.length d.N.length (vF G T E R D (lm G T E R D n) d)
  |none=>λ_ _=>none,Rh D (lm G T E R D n).1,λx=>match D.find? λd=>decide (d.name=x) with
  |some d=>a_ R (fnX d.ps.length d.N.length (xf G T E R D (lm G T E R D n) d))
  |none=>λ_ _=>none)
noncomputable def ax(G:Str->Option P)(T:At)(E:Ex)(R:LS)(D:List Df)(n:Nat):Str->GF:=(lm G T E R D n).1
noncomputable def di(G:Str->Option P)(T:At)(E:Ex)(R:LS)(D:List Df)(n:Nat):Str->GX:=(lm G T E R D n).2.2
theorem wP{R:LS}{g:GX}{d:List D}{S:aV}{z:XV×aV}(h:a_ R g d S=some z):g d S=some z/\R.contains z.1.1=true:=by
 obtain⟨y,e,q⟩:=Option.bind_eq_some_iff.mp h;split at q
 .rename_i c;cases q;exact⟨e,c⟩
 .cases q
def Pm(d:Df):Bool:=decide ((af d.st).kind=.function) && !(af d.st).isCoroutine && !(af d.st).isGenerator && decide d.N.Nodup && decide (d.N.take d.ps.length=d.ps)
 && d.ps.all (λx=>(af d.st).names.lookup x == some .local ||(af d.st).names.lookup x == some .cell) && (af d.st).names.all (λy=>y.2 != .free)
theorem Dr{d:Df}(h:Pm d=true):FnScope d.N d.ps (af d.st):=by
 unfold Pm at h;simp only[aE]at h;obtain⟨⟨⟨⟨⟨⟨a,e⟩,s⟩,n⟩,k⟩,f⟩,b⟩:=h;refine⟨bP a,by simpa using e,by simpa using s,bP n,bP k,λx c=>?_,λy m=>?_⟩
 .have:=cZ.mp f x c;simpa using this
 .have:=cZ.mp b y m;simpa using this
structure DOk(K:FG)(mg:SV)(d:Df)(f:Addr)(fd:FuncData):Prop where
 fn:Fun K d.short d.name d.st f fd
 bd:Binds K fd d.ps []
 gl:d.cls.cps.isEmpty=true->mg d.name=some (.ref f)
 cl:d.cls.cps.isEmpty=false->∃C,gM K d.cls C/\mg d.cls=some (.ref C)/\Cls K C/\(d.short=("__init__":Str)->Mk K C f)/\(d.short≠("__init__":Str)->Meth K C d.short f)
structure TOk(w:World)(G:Str->Option P)(T:At)(E:Ex)(R:LS)(D:List Df)(K:FG)(mg:SV):Prop where
 ex:ExsOk K mg E R
 fn:∀d ∈ D,∃f fd,DOk K mg d f fd
 sc:D.all Pm=true
 un:(D.map (·.name)).Nodup
 z:∀x ∈ IC,mg x=none
 gl:∀x v,G x=some v->iY w K mg x v
 at':Pe K (aT T)
theorem lP:∀{D:List Df}{d:Df},(D.map (·.name)).Nodup->d ∈ D->(D.find? λe=>decide (e.name=d.name))=some d
 | [],_,_,h=>by cases h
 |a::r,d,x,h=>by
  rw[aX,g8]at x;rcases ay.mp h with h|h
  .subst h;simp
  .have n:¬a.name=d.name:=λz=>x.1 (by rw[z];exact iJ.mpr ⟨d,h,rfl⟩);rw[List.find?_cons_of_neg (by simpa using n)];exact lP x.2 h
theorem Fz{D:List Df}{x:Str}{a:Str->GF}{g:GF}(h:fT D a x=some g):∃d ∈ D,d.name=x/\d.cls.cps.isEmpty=true/\g=a x:=by
 unfold fT at h;split at h
 .rename_i c;cases h;obtain⟨d,s,e⟩:=o_.mp c;rw[aE]at e;exact⟨d,s,bP e.1,e.2,rfl⟩
 .cases h
theorem ye{c m:Str}{d:Df}(h:Oo c m d=true):d.cls=c/\d.short=m/\d.cls.cps.isEmpty=false:=by unfold Oo at h;simp only[aE]at h;exact⟨bP h.1.1,bP h.1.2,by simpa using h.2⟩
theorem FC{D:List Df}{x:Str->GF}{c m:Str}{g:GF}(h:mT D x c m=some g):m≠("__init__":Str)/\∃d ∈ D,d.cls=c/\d.short=m/\d.cls.cps.isEmpty=false/\g=x d.name:=by
 unfold mT at h;split at h
 .cases h
 .rename_i n;obtain⟨d,q,rfl⟩:=aF h;obtain⟨a,e,s⟩:=ye (o7 q);exact⟨n,d,pi q,a,e,s,rfl⟩
theorem FD{D:List Df}{x:Str->GF}{c:Str}{g:GF}(h:Rh D x c=some g):∃d ∈ D,d.cls=c/\d.short=("__init__":Str)/\d.cls.cps.isEmpty=false/\g=x d.name:=by unfold Rh at h;obtain⟨d,q,rfl⟩:=aF h;obtain⟨a,e,s⟩:=ye (o7 q);exact⟨d,pi q,a,e,s,rfl⟩
theorem O6{D:List Df}{x:Str}{a:Str->GX}{g:GX}(h:P7 D a x=some g):∃d ∈ D,d.name=x/\d.cls.cps.isEmpty=true/\g=a x:=by
 unfold P7 at h;split at h
 .rename_i c;cases h;obtain⟨d,s,e⟩:=o_.mp c;rw[aE]at e;exact⟨d,s,bP e.1,e.2,rfl⟩
 .cases h
theorem O7{D:List Df}{x:Str->GX}{c m:Str}{g:GX}(h:wT D x c m=some g):m≠("__init__":Str)/\∃d ∈ D,d.cls=c/\d.short=m/\d.cls.cps.isEmpty=false/\g=x d.name:=by
 unfold wT at h;split at h
 .cases h
 .rename_i n;obtain⟨d,q,rfl⟩:=aF h;obtain⟨a,e,s⟩:=ye (o7 q);exact⟨n,d,pi q,a,e,s,rfl⟩
theorem B0{K:FG}{m:SV}{E:Ex}{R:LS}(h:ExsOk K m E R)(g:GX):B3 K (a_ R g):=λd S c x q=>by obtain⟨C,n,_⟩:=h.own c.1 (h.rE c.1 (wP q).2);exact⟨C,n⟩
theorem AV {G:Str->Option P}{T:At}{E:Ex}{R:LS}{D:List Df}{Pg:Program}{w:World}{K:FG}{mg:SV}{base:Heap} (Tk:TOk w G T E R D K mg):∀n,(∀d ∈ D,
  ∀f fd,Fun K d.short d.name d.st f fd->FnOk Pg w K mg base re n f fd d.ps (rz K (ax G T E R D n d.name))/\FnOk Pg w K mg base (xk Pg w) n f fd d.ps (Dg K (di G T E R D n d.name))) /\
  (∀x,B3 K (di G T E R D n x)) /\
  ∀c g,(lm G T E R D n).2.1 c=some g->∃m,n=m+1/\∃C f fd ps,gM K c C/\mg c=some (.ref C)/\Mk K C f/\FnOk Pg w K mg base re m f fd ps (rz K g)/\Binds K fd ps []
 |0=>by
  have no:∀x vs H Q E0,¬Dg K (di G T E R D 0 x) vs H Q E0:=λx vs H Q E0 h=>by obtain⟨F,m,ds,S,c,S',_,_,q,_⟩:=h;cases (show(none:Option (XV×aV))=some (c,S') from q)
  refine⟨λd hd f fd hF=>⟨EH,λvs H Q E0 h=>absurd h (no _ vs H Q E0),λA outer s H args us vs Q E0 _ _ _ _ h=>absurd h (no _ vs H Q E0)⟩,λx=>λds S c S' q=>?_,λc g h=>?_⟩
  .cases (show(none:Option (XV×aV))=some (c,S') from q)
  .cases (show(none:Option GF)=some g from h)
 |n+1=>by
  have ih:=AV (Pg:=Pg) (w:=w) (base:=base) Tk n;refine⟨λd hd f fd hF=>?_,λx=>?_,λc g h=>?_⟩
  .have e:ax G T E R D (n+1) d.name=bE d.ps.length d.N.length (vF G T E R D (lm G T E R D n) d):=by
    show(match D.find? λd'=>decide (d'.name=d.name) with|some d=>bE d.ps.length d.N.length (vF G T E R D (lm G T E R D n) d)|none=>λ_ _=>none)=_;rw[lP Tk.un hd]
   have ex:di G T E R D (n+1) d.name=a_ R (fnX d.ps.length d.N.length (xf G T E R D (lm G T E R D n) d)):=by show(match D.find? λd'=>decide (d'.name=d.name) with|some d=>a_ R (fnX d.ps.length d.N.length (xf G T E R D (lm G T E R D n) d))|none=>λ_ _=>none)=_;rw[lP Tk.un hd]
   rw[e,ex];have hsc:=Dr (cZ.mp Tk.sc d hd);have XO:∀(cdv:Value)(A:Around)(outer:List Env)(s:Shared)(H:Hp)(E':XK),Room n (A.deeper (envOfC d.name (af d.st) s.heap.objs.size f cdv)) ->
     XOk (MA G T E R D (lm G T E R D n) d) (oz (xk Pg w) Pg w K mg base d.N d.name (af d.st) f cdv A outer s H E'):=fun cdv A outer s H E' hr=>{
    hN:=rfl
    nd:=hsc.nd
    ks:=rfl
    kd:=hsc.kind
    calm:=rfl
    hu:=by have:=hr.un;show(A.deeper (envOfC d.name (af d.st) s.heap.objs.size f cdv)).units+64 < _;lia
    fns:=λx g hg=>by obtain⟨d',hd',hn,hc,rfl⟩:=Fz hg;obtain⟨f',fd',h1⟩:=Tk.fn d' hd';subst hn;exact⟨n,f',fd',d'.ps,(ih.1 d' hd' f' fd' h1.fn).1,hr,h1.gl hc,h1.fn.kp,h1.bd⟩
    blt:=Tk.z
    glb:=Tk.gl
    attrs:=Tk.at'
    meths:=λc m g hg=>by obtain⟨hm,d',hd',rfl,rfl,hc,rfl⟩:=FC hg;obtain⟨f',fd',h1⟩:=Tk.fn d' hd';obtain⟨C,c1,c2,c3,c4,c5⟩:=h1.cl hc;exact⟨C,n,f',fd',d'.ps,c1,c3,c5 hm,(ih.1 d' hd' f' fd' h1.fn).1,hr,h1.bd⟩
    mks:=λc g hg=>by obtain⟨m,rfl,C,f',fd',ps,c1,c2,c3,c4,c5⟩:=ih.2.2 c g hg;exact⟨C,m,f',fd',ps,c1,c2,c3,c4,hr,c5⟩
    exs:=Tk.ex
    ys:=λx gx hg=>by obtain⟨d',hd',hn,hc,rfl⟩:=O6 hg;obtain⟨f',fd',h1⟩:=Tk.fn d' hd';subst hn;exact⟨ih.2.1 d'.name,n,f',fd',d'.ps,(ih.1 d' hd' f' fd' h1.fn).2,hr,h1.gl hc,h1.fn.kp,h1.bd⟩
    ws:=λc m g hg=>by obtain⟨hm,d',hd',rfl,rfl,hc,rfl⟩:=O7 hg;obtain⟨f',fd',h1⟩:=Tk.fn d' hd';obtain⟨C,c1,c2,c3,c4,c5⟩:=h1.cl hc;exact⟨C,n,f',fd',d'.ps,c1,c3,c5 hm,(ih.1 d' hd' f' fd' h1.fn).2,ih.2.1 d'.name,hr,h1.bd⟩ }
   refine⟨LC (N:=d.N) hF hsc λcdv A outer s H E' hr=>?_,FnOk.imp (LB (N:=d.N) (b:=xf G T E R D (lm G T E R D n) d) hF hsc (λr=>r.toSt) λcdv A outer s H E' hr=>?_) λvs H Q E' h=>?_⟩
   .have X:XOk (MA G T E R D (lm G T E R D n) d) (oz re Pg w K mg base d.N d.name (af d.st) f cdv A outer s H E').nox:=(XO cdv A outer s H E' hr).more (λ_ _=>False) [];unfold vF;cases q:uE (Bm (MA G T E R D (lm G T E R D n) d) 60) (aD d.st) with
    |none=>exact nD.imp' λD J H hz=>by obtain⟨F,m,L,S,fl,L',S',r,l,q,k⟩:=hz;cases q
    |some b=>exact jA (λst f q=>qg X (λ_=>rfl) PassesOwn.never ⟨rfl,rfl,rfl⟩ 60 st f q) q
   .have X:=XO cdv A outer s H E' hr;exact uD (λst f q=>qg X (λ_=>rfl) PassesOwn.leaving ⟨rfl,rfl,rfl⟩ 60 st f q) (λst=>C4 X (λ_=>rfl) PassesOwn.leaving ⟨rfl,rfl,rfl⟩ ⟨rfl,rfl,rfl,rfl⟩ (by have:=hr.dp;show(A.deeper (envOfC d.name (af d.st) s.heap.objs.size f cdv)).depth+5 < _;lia) 60 st) (aD d.st)
   .obtain⟨F,m,ds,S,c,S',rl,r,q,k⟩:=h;exact⟨F,m,ds,S,c,S',rl,r,(wP q).1,k⟩
  .show B3 K (match D.find? λd'=>decide (d'.name=x) with|some d=>a_ R (fnX d.ps.length d.N.length (xf G T E R D (lm G T E R D n) d))|none=>λ_ _=>none);split
   .exact B0 Tk.ex _
   .exact λds S c S' q=>nomatch q
  .obtain⟨d,hd,rfl,hs,hc,rfl⟩:=FD (x:=(lm G T E R D n).1) h;obtain⟨f,fd,h1⟩:=Tk.fn d hd;obtain⟨C,c1,c2,c3,c4,c5⟩:=h1.cl hc;exact⟨n,rfl,C,f,fd,d.ps,c1,c2,c4 hs,(ih.1 d hd f fd h1.fn).1,h1.bd⟩
end Ev
namespace Ev
open PySem PySem.Spec PyProof.Rows L2
theorem wL{K:FG}{F:Aa}{H:Hp}:∀s:List Int,dZ K F H (s.map .int) (s.map V.int)
 | []=>rfl
 |n::r=>⟨_,_,rfl,rfl,wL r⟩
theorem K_{K:FG}{H:Hp}{a:Addr}{n:List Int}{g:GF}{E:XK}(e:Cd H)(S:j6 K H a (n.map V.int))(h:hZ g [.ro (n.map .int)]=some (.bl true)):rz K g [.ref a] H (λv _=>v=.bl true) E:=by
 refine qv ⟨λb=>b=a/\H a≠none,[.ro (n.map .int)],.bl true,λb x=>(by rw[x.1];exact x.2),⟨_,_,rfl,⟨a,_,rfl,?_,wL n⟩,rfl⟩,h,λv F k _ r=>r⟩;rcases S with S|S
 .rcases e a with z|⟨o,f,z⟩
  .rcases S with S|⟨o,S⟩<;>rw[z]at S<;>cases S
  .rcases S with S|⟨s,S⟩
   .rw [z]at S;cases S
   .exact .inl ⟨⟨rfl,by rw[z];exact λq=>nomatch q⟩,s,S⟩
 .exact .inr (.inr S)
end Ev
namespace Ev
open PySem L2
section
variable(L:Lc)(S:aV)
@[simp] theorem AR(i:Nat):gm i L S=match L[i]? with|some (some d)=>some (d,S)|_=>none:=rfl
@[simp] theorem GI(r:EE):b9 r L S=cY (r L S) λd h=>match bR d h with|some n=>some (.int (n:Int),h)|none=>none:=by
 unfold b9;cases r L S with
 |none=>rfl
 |some z=>obtain⟨d,h⟩:=z;rw[jq,jq];cases bR d h<;>rfl
@[simp] theorem Px(i:Nat)(v:P):gI i v L=some (L.set i (some (.p v))):=rfl
end
@[simp] theorem Rl{h:Type}(x:List h):(few x=true)=(x.length≤1000000):=by unfold few;simp
@[simp] theorem fJ(n:Nat):(ka n=true)=(n≤1000000):=by unfold ka;simp
theorem dY{a:Type}{s:List a}{i:Int}{x:a}(e:0≤i)(h:s[i.toNat]? = some x):L2.atI s i=some x:=by have l:=(bX.mp h).1;unfold L2.atI L2.Cg;rw[ae e,ae (by lia)];exact h
@[simp] theorem O1{h:Type}(x:h)(s:List h):L2.atI (x::s) 0=some x:=dY (by lia) rfl
@[simp] theorem PV{h:Type}(x y:h)(s:List h):L2.atI (x::y::s) 1=some y:=dY (by lia) rfl
@[simp] theorem PU{h:Type}(x y z:h)(s:List h):L2.atI (x::y::z::s) 2=some z:=dY (by lia) rfl
@[simp] theorem ML{h:Type}(x y z w:h)(s:List h):L2.atI (x::y::z::w::s) 3=some w:=dY (by lia) rfl
@[simp] theorem PJ(x:List P)(i:Int):lT (.tup x) (.int i)=L2.atI x i:=rfl
@[simp] theorem PK(x:List P)(i:Int):lT (.lst x) (.int i)=L2.atI x i:=rfl
@[simp] theorem Rx(x:List P)(i:Int):lT (.ro x) (.int i)=L2.atI x i:=rfl
@[simp] theorem PL(k:List fR)(v:List P)(x:Str):lT (.dct k v) (.str x)=gL (.inr x) k v:=rfl
@[simp] theorem OL(i j:Int):BW (.int i) (.int j)=some (.bl (decide (i=j))):=rfl
@[simp] theorem OK(i j:Str):BW (.str i) (.str j)=some (.bl (decide (i=j))):=rfl
@[simp] theorem PP(i j:Bool):BW (.bl i) (.bl j)=some (.bl (decide (i=j))):=rfl
@[simp] theorem PH(i j:Int):MC (.int i) (.int j)=some (.bl (!decide (i=j))):=rfl
@[simp] theorem PF(i j:Str):MC (.str i) (.str j)=some (.bl (!decide (i=j))):=rfl
@[simp] theorem Ru(i j:Bool):MC (.bl i) (.bl j)=some (.bl (!decide (i=j))):=rfl
@[simp] theorem OM(i j:Int):vr (.int i) (.int j)=some (.int (i+j)):=rfl
@[simp] theorem OJ(i j:Int):w8 (.int i) (.int j)=if jU i j=true then some (.int (i * j)) else none:=rfl
@[simp] theorem MD(x:List P)(n:Int):kF (.tup x) (.int n)=if (ka (x.length * n.toNat) && decide (n.natAbs < 1000000))=true then some (.tup (List.replicate n.toNat x).flatten) else none:=rfl
@[simp] theorem ME(x:Str)(n:Int):kF (.str x) (.int n)=w8 (.str x) (.int n):=rfl
@[simp] theorem OI(i:Int):kE (.int i)=some (.int (-i)):=rfl
theorem wf{g:GF}{ps:List P}{v:P}{S:aV}(h:g (ps.map .p) []=some (.p v,S)):hZ g ps=some v:=by unfold hZ;rw[h];simp
theorem bL(a n:Nat)(b:ES)(ps:List P):hZ (bE a n b) ps=if ps.length=a then match b (ps.map (λp=>some (.p p))++List.replicate (n-ps.length) none) [] with
 |some (.rt d,_,S)=>(uH 9 d S).map (·.1)
 |some (.nx,_,_)=>some .non
 |_=>none else none:=by
 unfold hZ bE;rw[eH,t6];by_cases h:ps.length=a
 .rw [ae h,ae h];show (match bz (b (ps.map (fun p=>some (D.p p))++List.replicate (n-ps.length) none) []) with
   |some (d,S)=>(uH 9 d S).map (λ(x:P×aV)=>x.1)
   |none=>none)=_
  cases b (ps.map (λp=>some (D.p p))++List.replicate (n-ps.length) none) [] with
  |none=>rfl
  |some z=>obtain⟨f,L,S⟩:=z;cases f<;>simp[bz]
 .rw [ai h,ai h]
theorem kA{g:lB}{b:ES}{v:P}{r:List P}{L h L2:Lc}{S x:aV}(a:g v L=some h)(e:b h S=some (.nx,L2,x)):dX g b (v::r) L S=dX g b r L2 x:=by simp[dX,a,e]
theorem wV{g:lB}{b:ES}{v:P}{r:List P}{L h L2:Lc}{S x:aV}{d:D}(a:g v L=some h)(e:b h S=some (.rt d,L2,x)):dX g b (v::r) L S=some (.rt d,L2,x):=by simp[dX,a,e]
theorem dI{c:EB}{b:ES}{n:Nat}{L L2:Lc}{S h x:aV}(a:c L S=some (true,h))(e:b L h=some (.nx,L2,x)):aY c b (n+1) L S=aY c b n L2 x:=by simp[aY,a,e]
theorem bq{c:EB}{b:ES}{n:Nat}{L:Lc}{S h:aV}(x:c L S=some (false,h)):aY c b (n+1) L S=some (.nx,L,h):=by simp[aY,x]
section
variable(L:Lc)(S:aV)
@[simp] theorem Pu(a:EV):yd a L S=cY (a L S) λx h=>match x with | .int n=>if (decide (n.natAbs < 1000000))=true then some (intsFrom 0 n.toNat,h) else none|_=>none:=by
 unfold yd;cases a L S with
 |none=>rfl
 |some z=>obtain⟨x,h⟩:=z;cases x<;>first|rfl|simp
@[simp] theorem Ow(g:List lB)(v:List P):wU g (.tup v) L=qO g v L:=rfl
@[simp] theorem Ou:qO [] [] L=some L:=rfl
@[simp] theorem Mz(g:lB)(s:List lB)(v:P)(h:List P):qO (g::s) (v::h) L=match g v L with|some a=>qO s h a|none=>none:=rfl
@[simp] theorem Rg(T:String)(v:P):En T (.p v) S=some (gR T v):=rfl
@[simp] theorem Qu(v:P):rk (.p v) S=xL v:=rfl
@[simp] theorem Pj(b:Bool):xL (.bl b)=some b:=rfl
@[simp] theorem Nk(i:Int):xL (.int i)=some (i != 0):=rfl
@[simp] theorem Sf(x y:P):BN (.p x) (.p y) S=(AO x y).map .bl:=rfl
@[simp] theorem Se(x y:P):MB (.p x) (.p y) S=(Jd x y).map .bl:=rfl
end
@[simp] theorem Pz(i j:Int):AO (.int i) (.int j)=some (decide (i=j)):=rfl
@[simp] theorem Py(i j:Str):AO (.str i) (.str j)=some (decide (i=j)):=rfl
@[simp] theorem Rn(i j:Bool):AO (.bl i) (.bl j)=some (decide (i=j)):=rfl
@[simp] theorem Pq(i j:Int):Jd (.int i) (.int j)=some (!decide (i=j)):=rfl
@[simp] theorem Pp(i j:Str):Jd (.str i) (.str j)=some (!decide (i=j)):=rfl
@[simp] theorem Q5(i j:Bool):Jd (.bl i) (.bl j)=some (!decide (i=j)):=rfl
@[simp] theorem MI(i j:Int):bH (.int i) (.int j)=some (.int (i+j)):=rfl
@[simp] theorem bF(x y:Str):bH (.str x) (.str y)=vr (.str x) (.str y):=rfl
@[simp] theorem MH(x y:List P):bH (.lst x) (.lst y)=if ka (x.length+y.length)=true then some (.lst (x++y)) else none:=rfl
@[simp] theorem MG(i j:Int):kF (.int i) (.int j)=if jU i j=true then some (.int (i * j)) else none:=rfl
@[simp] theorem MF(x:List P)(n:Int):kF (.lst x) (.int n)=if (ka (x.length * n.toNat) && decide (n.natAbs < 1000000))=true then some (.lst (List.replicate n.toNat x).flatten) else none:=rfl
theorem HZ{x:List P}(h:jl 20 (.lst x)=true):AO (.lst x) (.lst [])=some x.isEmpty:=by unfold AO;have e:jl 20 (.lst [])=true:=rfl;show(if (jl 20 (.lst x) && jl 20 (.lst []))=true then some (gz (pd (.lst x)) (pd (.lst []))) else none)=_;rw[h,e];cases x<;>rfl
section
variable(L:Lc)(S:aV)
end
section
variable(L:Lc)(S:aV)
end
section
variable{L:Lc}{S:aV}
@[simp high] theorem Ro(d:D):gm 0 (some d::L) S=some (d,S):=rfl
@[simp high] theorem Uc(a:Option D)(i:Nat):gm (i+1) (a::L) S=gm i L S:=rfl
@[simp ↓ high] theorem Ua{h a:Type}(x y:a):(if few ([]:List h)=true then x else y)=x:=rfl
@[simp ↓ high] theorem T'{h e:Type}(a:h)(x y:e):(if few ([a]:List h)=true then x else y)=x:=rfl
@[simp ↓ high] theorem T_{h s:Type}(a e:h)(x y:s):(if few ([a,e]:List h)=true then x else y)=x:=rfl
@[simp ↓ high] theorem T9{h n:Type}(a e s:h)(x y:n):(if few ([a,e,s]:List h)=true then x else y)=x:=rfl
@[simp ↓ high] theorem T8{h k:Type}(a e s n:h)(x y:k):(if few ([a,e,s,n]:List h)=true then x else y)=x:=rfl
@[simp ↓ high] theorem T7{h f:Type}(a e s n k:h)(x y:f):(if few ([a,e,s,n,k]:List h)=true then x else y)=x:=rfl
@[simp ↓ high] theorem T6{h b:Type}(a e s n k f:h)(x y:b):(if few ([a,e,s,n,k,f]:List h)=true then x else y)=x:=rfl
@[simp ↓ high] theorem T5{h c:Type}(a e s n k f b:h)(x y:c):(if few ([a,e,s,n,k,f,b]:List h)=true then x else y)=x:=rfl
@[simp high] theorem Ur(v:P)(S:aV):uH 9 (.p v) S=some (v,S):=rfl
@[simp ↓ high] theorem So{h e:Type}(x:Option (h×aV))(f:h->aV->Option e):cY x f=match x with|some (a,S)=>f a S|none=>none:=rfl
@[simp ↓ high] theorem TY{h:Type}(x y:h):(if true=true then x else y)=x:=rfl
@[simp ↓ high] theorem TZ{h:Type}(x y:h):(if false=true then x else y)=y:=rfl
end
end Ev
namespace Ev
open PySem L2
section
variable(L:Lc)(S:aV)
@[simp] theorem Ph(s:List (Str×P))(b:EV):n7 s b L S=cY (b L S) λy h=>match y with | .str k=>(s.lookup k).map λv=>(v,h)|_=>none:=rfl
@[simp] theorem QM:Mx L S=some (.ct,L,S):=rfl
@[simp] theorem Mw:bD L S=none:=rfl
@[simp] theorem Og:cW L S=some (none,S):=rfl
@[simp] theorem Of(a:EV):bM a L S=cY (a L S) λv h=>match v with | .int i=>some (some i,h)|_=>none:=rfl
@[simp] theorem PC(r:EE):j_ r L S=cY (r L S) λd h=>match gH d h with
 |some (i,s)=>match s[s.length-1]? with
  |some x=>some (x,h.set i (.lst s.dropLast))
  |none=>none
 |none=>none:=rfl
@[simp] theorem Pn(i:Nat)(v:EV):Bs i v L S=match L[i]? with
 |some (some (.p (.int a)))=>cY (v L S) λy h=>match y with
  | .int b=>some (.nx,L.set i (some (.p (.int (a+b)))),h)
  |_=>none
 |_=>none:=rfl
@[simp] theorem NK(A:Str->Str->Bool)(o:EE)(f:Str)(v:EV):nR A o f v L S=cY (o L S) λd h=>match d with
 | .ref i=>match h[i]? with
  | some (.ins c m n)=>if A c f=true then (match fq f m n with
   |some (.p (.int a))=>cY (v L h) λy x=>match y,x[i]? with
    | .int b,some (.ins e k s)=>if (decide (e=c) && decide (k.length < 900))=true then some (.nx,L,x.set i (.ins c (putK f k) (rB f (.p (.int (a+b))) k s))) else none
    |_,_=>none
   |_=>none) else none
  |_=>none
 |_=>none:=rfl
end
theorem p0{c:EB}{b:ES}{n:Nat}{L L2:Lc}{S h x:aV}(a:c L S=some (true,h))(e:b L h=some (.ct,L2,x)):aY c b (n+1) L S=aY c b n L2 x:=by simp[aY,a,e]
theorem pZ{c:EB}{b:ES}{n:Nat}{L L2:Lc}{S h x:aV}{d:D}(a:c L S=some (true,h))(e:b L h=some (.rt d,L2,x)):aY c b (n+1) L S=some (.rt d,L2,x):=by simp[aY,a,e]
theorem xF{c:EB}{b:ES}{n:Nat}{L:Lc}{S h:aV}(x:c L S=some (true,h))(a:b L h=none):aY c b (n+1) L S=none:=by simp[aY,x,a]
theorem Bi{c:EB}{b:ES}{a:EX}{n:Nat}{L L2:Lc}{S h x:aV}(e:c L S=some (true,h))(s:b L h=some (.nx,L2,x)):dW c b a (n+1) L S=dW c b a n L2 x:=by simp[dW,e,s]
theorem CN{c:EB}{b:ES}{x:EX}{n:Nat}{L:Lc}{S h:aV}(a:c L S=some (true,h))(e:b L h=none):dW c b x (n+1) L S=x L h:=by simp[dW,a,e]
@[simp] theorem QX(a b:String):(Str.ofString a=Str.ofString b)=(a=b):=by rw[yz,yz];exact propext ⟨λh=>String.toList_inj.mp ((List.map_inj_right λ_ _=>Char.toNat_inj.mp).mp (by simpa using h)),λh=>by rw[h]⟩
end Ev
set_option tactic.hygienic false
namespace My
theorem dN{n:Nat}(h:2≤n):∃m,n=m+2:=⟨n-2,by lia⟩
variable{n:Nat}
theorem Ub(h:4≤n):∃m,n=m+4:=⟨n-4,by lia⟩
open PySem L2 Ev
noncomputable abbrev qp(x:P):Option D:=some (.p x)
noncomputable abbrev qi(x:Int):Option D:=some (.p (.int x))
noncomputable abbrev qs(x:Str):Option D:=some (.p (.str x))
noncomputable abbrev ql(x:List P):Option D:=some (.p (.lst x))
noncomputable abbrev qt(x:List P):Option D:=some (.p (.tup x))
noncomputable abbrev qr(x:Nat):Option D:=some (.ref x)
@[simp] abbrev vv(k:Nat):EV:=vE (gm k)
@[simp] abbrev vi(i:Int):EV:=vC (.int i)
@[simp] abbrev vt(x:Str):EV:=vC (.str x)
@[simp] abbrev v1(a:EV):jR:=aZ a gu
@[simp] abbrev v2(a b:EV):jR:=aZ a (aZ b gu)
@[simp] abbrev v3(a b c:EV):jR:=aZ a (aZ b (aZ c gu))
@[simp] abbrev v4(a b c d:EV):jR:=aZ a (aZ b (aZ c (aZ d gu)))
@[simp] abbrev v6(a b c d e f:EV):jR:=aZ a (aZ b (aZ c (aZ d (aZ e (aZ f gu)))))
@[simp] abbrev v8(a b c d e f g h:EV):jR:=aZ a (aZ b (aZ c (aZ d (aZ e (aZ f (aZ g (aZ h gu)))))))
@[simp] abbrev fS(a:EE):pK:=gX a a'
@[simp] abbrev rh(a b:EE):pK:=gX a (gX b a')
@[simp] abbrev IN(a b c:EE):pK:=gX a (gX b (gX c a'))
@[simp] abbrev R1(a b c d:EE):pK:=gX a (gX b (gX c (gX d a')))
@[simp] abbrev aJ(a b:EE):EB:=bV (cQ BN a b)
@[simp] abbrev dc(a b:EE):EB:=bV (cQ MB a b)
@[simp] abbrev bo:EV->EV->EV:=rg vq
@[simp] abbrev z_:EV->EV->EV:=rg Ry
@[simp] abbrev CL:EV->EV->EV:=rg LR
@[simp] abbrev lG:EV->EV->EV:=rg LQ
@[simp] abbrev bf:EV->EV->EV:=rg Ig
@[simp] abbrev eN:EV->EV->EV:=rg kF
@[simp] abbrev ac:EV->EV->EV:=rg bH
@[simp] abbrev aL:EV->EV->EV:=rg lT
@[simp] abbrev cy:EV->EV->EV:=rg Rv
@[simp] abbrev CM:EV->EV->EV:=rg Rw
@[simp] abbrev jf:EV->EV->EV:=rg PM
@[simp] abbrev dS(g:GF):jR->EV:=cU (hZ g)
@[simp] abbrev cr:EV:=vE (gm 0)
@[simp] abbrev ck:EV:=vE (gm 1)
@[simp] abbrev je:EV:=vE (gm 3)
@[simp] abbrev n6:EV:=vE (gm 4)
@[simp] abbrev hG:EV:=vE (gm 2)
@[simp] abbrev rW:EV:=vE (gm 6)
@[simp] abbrev cz:EV:=vC (.int 1)
@[simp] abbrev hI:EV:=vC (.int 2)
@[simp] abbrev ii:EV:=vC (.int 0)
@[simp] abbrev rX:EV:=vC (.int 3)
@[simp] abbrev lf:EV:=vC (.int 4)
@[simp] abbrev Ac:EV:=vC (.int 6)
@[simp] abbrev ib:EE:=gm 2
@[simp] abbrev nl:EE:=gm 3
@[simp] abbrev aC:EE:=gm 0
@[simp] abbrev dD:EE:=gm 1
@[simp] abbrev rf:EE:=gm 5
@[simp] abbrev Bh:EE:=gm 4
noncomputable def aK(i:Nat):Stmt:=PySem.Challenge.pw_roadsall_k04_no_conditions.main.body.getD i (.Pass ⟨0,0,0,0⟩)
noncomputable def Gv(x:Str):Option P:=if x=("COMPARISONS":Str) then some (.tup [.str "=",.str "!=",.str "<",.str "<=",.str ">",.str ">="]) else if x=("FIGURES":Str) then some (.str "0123456789") else if x=("IS_LEVEL":Str) then some (.int 4) else if x=("KINDS":Str) then some (.dct [.inr "or",.inr "and",.inr "+",.inr "-",.inr "*"] [.str "or",.str "and",.str "plus",.str "minus",.str "times"]) else if x=("LETTERS":Str) then some (.str "abcdefghijklmnopqrstuvwxyz") else if x=("MARK_LEVELS":Str) then some (.dct [.inr "(",.inr "[",.inr "or",.inr "and",.inr "not",.inr "=",.inr "!=",.inr "<",.inr "<=",.inr ">",.inr ">=",.inr "+",.inr "-",.inr "*"] [.int 0,.int 0,.int 1,.int 2,.int 3,.int 4,.int 4,.int 4,.int 4,.int 4,.int 4,.int 5,.int 5,.int 6]) else if x=("MOST_FIGURES":Str) then some (.int 3) else if x=("MOST_LETTERS":Str) then some (.int 10) else if x=("OR_LEVEL":Str) then some (.int 1) else if x=("PLUS_LEVEL":Str) then some (.int 5) else if x=("SUM_KINDS":Str) then some (.tup [.str "number",.str "name",.str "plus",.str "minus",.str "times"]) else if x=("WORDS":Str) then some (.tup [.str "or",.str "and",.str "not",.str "true"]) else none
noncomputable def iD:LS:=["_law_operand","_law_part","_law_done","_law_behind","_law_refused","Reader.run_of","Reader.skip_blanks","Reader.fold","Reader.has_sum","Reader.last_mark","Reader.read_end","Reader.touches","Reader.keep","Reader.read_number","Reader.push","Reader.read_letters","Reader.read_beginning","Reader.read_sign","Reader.read_comparison","Reader.read_joint","Reader.read_round_end","Reader.read_square_end","Reader.read_behind","Reader.read","Reader.__init__"]
def w6:Df:=⟨"_law_mix","_law_mix","",(aK 29),["_law_number","_law_place","_law_turn","_law_part_here"],["_law_number","_law_place"],[],[],iD⟩
def rQ:Df:=⟨"_law_level","_law_level","",(aK 40),["_law_tree"],["_law_tree"],[],[],iD⟩
def oj:Df:=⟨"_law_written","_law_written","",(aK 41),["_law_tree","_law_number","_law_found","_law_gap","_law_one","_law_other"],["_law_tree","_law_number"],[],[],iD⟩
def mX:Df:=⟨"_law_otherwise","_law_otherwise","",(aK 51),["_law_tree","_law_number","_law_gap","_law_found","_law_one","_law_other"],["_law_tree","_law_number"],[],[],iD⟩
def yk:Df:=⟨"_law_at","_law_at","",(aK 28),["_law_script","_law_k"],["_law_script","_law_k"],[],[],iD⟩
def rO:Df:=⟨"_law_named","_law_named","",(aK 32),["_law_k","_law_number","_law_place"],["_law_k","_law_number"],[],[],iD⟩
def qX:Df:=⟨"_law_folded","_law_folded","",(aK 35),["_law_stack","_law_words","_law_shorter","_law_k"],["_law_stack","_law_words"],["_law_shorter"],[],iD⟩
def vl:Df:=⟨"_law_leaf","_law_leaf","",(aK 34),["_law_names","_law_number"],["_law_names","_law_number"],[],[],iD⟩
def rM:Df:=⟨"_law_small","_law_small","",(aK 37),["_law_names","_law_number","_law_one"],["_law_names","_law_number"],[],[],iD⟩
def vg:Df:=⟨"_law_test","_law_test","",(aK 38),["_law_names","_law_number","_law_other","_law_word"],["_law_names","_law_number","_law_other"],[],[],iD⟩
def rR:Df:=⟨"_law_depth","_law_depth","",(aK 33),["_law_tree","_law_found","_law_part_here"],["_law_tree"],[],[],iD⟩
def mY:Df:=⟨"_law_condition","_law_condition","",(aK 39),["_law_names","_law_cells","_law_most","_law_denied","_law_words","_law_stack","_law_many","_law_nots","_law_cell","_law_number","_law_deep","_law_other"],["_law_names","_law_cells","_law_most","_law_denied"],["_law_stack"],[],iD⟩
def w5:Df:=⟨"_law_run","_law_run","",(aK 42),["_law_written_here","_law_at_here","_law_end"],["_law_written_here","_law_at_here"],[],[],iD⟩
def om:Df:=⟨"_law_operand","_law_operand","",(aK 43),["_law_written_here","_law_at_here","_law_opened","_law_end","_law_run_here"],["_law_written_here","_law_at_here","_law_opened"],["_law_opened"],[],iD⟩
def vj:Df:=⟨"_law_part","_law_part","",(aK 47),["_law_written_here","_law_at_here","_law_opened","_law_run_here"],["_law_written_here","_law_at_here","_law_opened"],["_law_opened"],[],iD⟩
def vk:Df:=⟨"_law_link","_law_link","",(aK 44),["_law_written_here","_law_at_here","_law_word","_law_sign"],["_law_written_here","_law_at_here"],[],[],iD⟩
def vm:Df:=⟨"_law_done","_law_done","",(aK 46),["_law_written_here","_law_at_here","_law_opened"],["_law_written_here","_law_at_here","_law_opened"],["_law_opened"],[],iD⟩
def qY:Df:=⟨"_law_behind","_law_behind","",(aK 45),["_law_written_here","_law_at_here","_law_opened","_law_kind","_law_sign"],["_law_written_here","_law_at_here","_law_opened","_law_kind"],["_law_opened"],[],iD⟩
def vh:Df:=⟨"_law_stop","_law_stop","",(aK 48),["_law_written_here","_law_state","_law_opened","_law_at_here","_law_wordy","_law_kind","_law_found"],["_law_written_here","_law_state"],["_law_opened"],[],iD⟩
def rL:Df:=⟨"_law_whole","_law_whole","",(aK 30),["_law_found"],["_law_found"],[],[],iD⟩
def ol:Df:=⟨"_law_refused","_law_refused","",(aK 50),["_law_kept","_law_place"],["_law_kept","_law_place"],["_law_kept"],[],iD⟩
def mZ:Df:=⟨"Reader.run_of","run_of","Reader",(L2.aa (aK 24) 13),["self","signs","end"],["self","signs"],["self"],[],iD⟩
def jL:Df:=⟨"Reader.skip_blanks","skip_blanks","Reader",(L2.aa (aK 24) 12),["self"],["self"],["self"],[],iD⟩
def oy:Df:=⟨"Reader.fold","fold","Reader",(L2.aa (aK 24) 19),["self","level","mark","other","one"],["self","level"],["self"],["self"],iD⟩
def lS:Df:=⟨"Reader.has_sum","has_sum","Reader",(L2.aa (aK 24) 15),["self"],["self"],["self"],[],iD⟩
def kD:Df:=⟨"Reader.last_mark","last_mark","Reader",(L2.aa (aK 24) 16),["self"],["self"],["self"],[],iD⟩
def lj:Df:=⟨"Reader.read_end","read_end","Reader",(L2.aa (aK 24) 11),["self"],["self"],["self"],[],iD⟩
def lR:Df:=⟨"Reader.touches","touches","Reader",(L2.aa (aK 24) 14),["self"],["self"],["self"],[],iD⟩
def ou:Df:=⟨"Reader.keep","keep","Reader",(L2.aa (aK 24) 18),["self","tree","length"],["self","tree","length"],["self"],["self"],iD⟩
def jM:Df:=⟨"Reader.read_number","read_number","Reader",(L2.aa (aK 24) 3),["self","figures","length"],["self"],["self"],[],iD⟩
def oq:Df:=⟨"Reader.push","push","Reader",(L2.aa (aK 24) 17),["self","mark","wanted"],["self","mark","wanted"],["self"],["self"],iD⟩
def jp:Df:=⟨"Reader.read_letters","read_letters","Reader",(L2.aa (aK 24) 4),["self","letters"],["self"],["self"],[],iD⟩
def iH:Df:=⟨"Reader.read_beginning","read_beginning","Reader",(L2.aa (aK 24) 2),["self","sign"],["self","sign"],["self"],[],iD⟩
def kC:Df:=⟨"Reader.read_sign","read_sign","Reader",(L2.aa (aK 24) 6),["self","sign"],["self","sign"],["self"],[],iD⟩
def iA:Df:=⟨"Reader.read_comparison","read_comparison","Reader",(L2.aa (aK 24) 7),["self","sign","mark","word"],["self","sign"],["self"],[],iD⟩
def mW:Df:=⟨"shared_length","shared_length","",(aK 25),["one","other","length"],["one","other"],[],[],iD⟩
def j':Df:=⟨"Reader.read_joint","read_joint","Reader",(L2.aa (aK 24) 8),["self","word","letters"],["self","word"],["self"],[],iD⟩
def iG:Df:=⟨"Reader.read_round_end","read_round_end","Reader",(L2.aa (aK 24) 9),["self"],["self"],["self"],["self"],iD⟩
def iz:Df:=⟨"Reader.read_square_end","read_square_end","Reader",(L2.aa (aK 24) 10),["self"],["self"],["self"],["self"],iD⟩
def jN:Df:=⟨"Reader.read_behind","read_behind","Reader",(L2.aa (aK 24) 5),["self","sign"],["self","sign"],["self"],[],iD⟩
def on:Df:=⟨"Reader.read","read","Reader",(L2.aa (aK 24) 1),["self"],["self"],["self"],[],iD⟩
def ow:Df:=⟨"Reader.__init__","__init__","Reader",(L2.aa (aK 24) 0),["self","text","wanted"],["self","text","wanted"],["self"],[],iD⟩
def lQ:Df:=⟨"read_condition","read_condition","",(aK 26),["text"],["text"],[],[],iD⟩
def rN:Df:=⟨"_law_right","_law_right","",(aK 52),["_law_written_here","_law_place","_law_kept","_law_found","e"],["_law_written_here"],[],[],iD⟩
def vn:Df:=⟨"_law_bent","_law_bent","",(aK 49),["_law_written_here","_law_number","_law_cell","_law_some","_law_mark","_law_words","_law_at_here","_law_way"],["_law_written_here","_law_number","_law_cell"],[],[],iD⟩
def vo:Df:=⟨"law","law","",(aK 53),["_law_script","_law_number","_law_names","_law_written_here","_law_k","_law_bent_here"],["_law_script"],[],[],iD⟩
noncomputable def Att:At:=[("Reader",["marks","sought","spot","text","trees","wanted"])]
noncomputable def Y:Ex:=[("RoadError",["RoadError","ValueError"]),("NoText",["NoText","RoadError","ValueError"]),("NoPlan",["NoPlan","RoadError","ValueError"]),("NoLine",["NoLine","RoadError","ValueError"]),("NoDeed",["NoDeed","RoadError","ValueError"]),("NotPossible",["NotPossible","RoadError","ValueError"]),("TooMany",["TooMany","RoadError","ValueError"]),("NoFact",["NoFact","RoadError","ValueError"]),("NoRow",["NoRow","RoadError","ValueError"]),("NoThing",["NoThing","RoadError","ValueError"])]
noncomputable def Rs:LS:=["NoText"]
def Tb:List Df:=[w6,rQ,oj,mX,yk,rO,qX,vl,rM,vg,rR,mY,w5,om,vj,vk,vm,qY,vh,rL,ol,mZ,jL,oy,lS,kD,lj,lR,ou,jM,oq,jp,iH,kC,iA,mW,j',iG,iz,jN,on,ow,lQ,rN,vn,vo]
def iC(s h:Str->GF)(k:Str->GX):ES:=(aG 0 (U (bo cr (vi 2147483648))))
def kK (s h:Str->GF) (k:Str->GX):ES:=(ag (bY (bV (z_ cr (CL (vi 10) (vi 12)))) (ag (aG 0 (U (lG (bo cr (CL (vi 10) (vi 12))) cz)))
  (ag (uP (yd (bf ck (vi 61))) (gI 2) (iC s h k))
  (br (U (bf cr (vi 2147483648)))))) df)
  (ag (aG 3 (U (bf (eN (ac (ac (bf cr (vi 2147483629)) ck) cz) (ac (eN (eN (vi 8) ck) ck) (vi 48271))) (vi 2147483647))))
  (ag (aG 3 (U (bf (eN je je) (vi 2147483587))))
  (br (U (bf (eN je (ac je hI)) (vi 2147483579)))))))
theorem nX(n:Nat):ax Gv Att Y Rs Tb (n+2) "_law_mix"=bE 2 4 (kK (ax Gv Att Y Rs Tb (n+1)) (ax Gv Att Y Rs Tb n) (di Gv Att Y Rs Tb (n+1))):=by kernel_rfl
def jd(s h:Str->GF)(k:Str->GX):ES:=(br (U (CZ (mn (eC "plus" cz (eC "minus" cz (eC "times" hI (eC "or" cz (eC "and" hI vp)))))) (aL cr ii) rX)))
theorem ly(n:Nat):ax Gv Att Y Rs Tb (n+2) "_law_level"=bE 1 1 (jd (ax Gv Att Y Rs Tb (n+1)) (ax Gv Att Y Rs Tb n) (di Gv Att Y Rs Tb (n+1))):=by kernel_rfl
def dB (s h:Str->GF) (k:Str->GX):ES:=(ag (bY (aJ (U (aL cr ii)) (U (vt "number"))) (aG 2 (U (cU n3 (v1 (aL cr cz))))) (bY (aJ (U (aL cr ii)) (U (vt "name"))) (aG 2 (U (aL cr cz))) (ag (aG 3 (U (eN (vt " ") (aL (fm (v4 ii cz cz hI)) (bf (dS (s "_law_mix") (v2 ck cz)) lf)))))
  (ag (aG 4 (U (dS (s "_law_written") (v2 (aL cr cz) (dS (s "_law_mix") (v2 ck hI))))))
  (ag (aG 5 (U (dS (s "_law_written") (v2 (aL cr hI) (dS (s "_law_mix") (v2 ck rX))))))
  (ag (bY (bV (cy (dS (s "_law_level") (v1 (aL cr cz))) (dS (s "_law_level") (v1 cr)))) (aG 4 (U (ac (ac (vt "(") n6) (vt ")")))) df)
  (ag (bY (cH (bV (CM (dS (s "_law_level") (v1 (aL cr hI))) (dS (s "_law_level") (v1 cr)))) (bV (cy (dS (s "_law_level") (v1 (aL cr hI))) rX))) (aG 5 (U (ac (ac (vt "( ") (vv 5)) (vt ")")))) df)
  (aG 2 (U (ac (ac (ac (ac n6 je) (aL (mn (eC "plus" (vt "+") (eC "minus" (vt "-") (eC "times" (vt "*") vp)))) (aL cr ii))) je) (vv 5)))))))))))
  (ag (bY (aJ (U (bf ck (vi 7))) (U ii)) (br (U (ac (ac (vt "(") hG) (vt " )")))) df)
  (br ib)))
theorem gS(n:Nat):ax Gv Att Y Rs Tb (n+2) "_law_written"=bE 2 6 (dB (ax Gv Att Y Rs Tb (n+1)) (ax Gv Att Y Rs Tb n) (di Gv Att Y Rs Tb (n+1))):=by kernel_rfl
def bx (s h:Str->GF) (k:Str->GX):ES:=(bY (bV (cQ gk (U (aL cr ii)) (U (cf (v2 (vt "and") (vt "or")))))) (ag (aG 5 (U (dS (s "_law_otherwise") (v2 (aL cr hI) (dS (s "_law_mix") (v2 ck (vi 8)))))))
  (ag (bY (bV (CM (dS (s "_law_level") (v1 (aL cr hI))) (dS (s "_law_level") (v1 cr)))) (aG 5 (U (ac (ac (ac (vt "[") (vv 5)) hG) (vt "]")))) df)
  (aG 3 (U (ac (ac (ac (ac (ac (ac n6 (vt " ")) hG) (aL cr ii)) hG) (vt " ")) (vv 5)))))) df)
def iU (s h:Str->GF) (k:Str->GX):ES:=(ag (aG 2 (U (eN (vt " ") (aL (fm (v3 ii cz hI)) (bf (dS (s "_law_mix") (v2 ck lf)) rX)))))
  (ag (bY (aJ (U (aL cr ii)) (U (vt "true"))) (aG 3 (U (vt "true"))) (bY (aJ (U (aL cr ii)) (U (vt "is"))) (ag (aG 4 (U (dS (s "_law_written") (v2 (aL cr hI) (dS (s "_law_mix") (v2 ck (vi 5)))))))
  (aG 3 (U (ac (ac (ac (ac n6 hG) (aL cr cz)) hG) (dS (s "_law_written") (v2 (aL cr rX) (dS (s "_law_mix") (v2 ck Ac)))))))) (ag (aG 4 (U (dS (s "_law_otherwise") (v2 (aL cr cz) (dS (s "_law_mix") (v2 ck (vi 7)))))))
  (ag (bY (bV (cy (dS (s "_law_level") (v1 (aL cr cz))) (dS (s "_law_level") (v1 cr)))) (aG 4 (U (ac (ac (ac (vt "[") hG) n6) (vt "]")))) df)
  (aG 3 (U (ac (ac (vt "not ") hG) n6)))))))
  (ag (bx s h k)
  (ag (bY (aJ (U (bf ck (vi 7))) (U ii)) (br (U (ac (ac (vt "[") je) (vt "]")))) df)
  (br nl)))))
theorem mP(n:Nat):ax Gv Att Y Rs Tb (n+2) "_law_otherwise"=bE 2 6 (iU (ax Gv Att Y Rs Tb (n+1)) (ax Gv Att Y Rs Tb n) (di Gv Att Y Rs Tb (n+1))):=by kernel_rfl
def lW (s h:Str->GF) (k:Str->GX):ES:=(ag (bY (bV (cy ck (b9 aC))) (br (U (aL cr ck))) df)
  (br (U (ac (eN (vi 23) ck) Ac))))
theorem qV(n:Nat):ax Gv Att Y Rs Tb (n+2) "_law_at"=bE 2 2 (lW (ax Gv Att Y Rs Tb (n+1)) (ax Gv Att Y Rs Tb n) (di Gv Att Y Rs Tb (n+1))):=by kernel_rfl
def jc (s h:Str->GF) (k:Str->GX):ES:=(ag (bY (aJ (U (bf ck hI)) (U ii)) (br (U (ac (eN (aL (vt "abcdefgh") cr) (ac cz (bf (bo ck hI) (vi 9)))) (aL (vt "xvz") (bf (bo ck (vi 18)) rX))))) df)
  (ag (aG 2 (U (bf (bo ck hI) (vi 10))))
  (br (U (ac (ac (eN (vt "m") hG) (aL (vt "abcdefgh") cr)) (eN (vt "m") (lG (vi 9) hG)))))))
theorem lx(n:Nat):ax Gv Att Y Rs Tb (n+2) "_law_named"=bE 2 3 (jc (ax Gv Att Y Rs Tb (n+1)) (ax Gv Att Y Rs Tb n) (di Gv Att Y Rs Tb (n+1))):=by kernel_rfl
def dG(s h:Str->GF)(k:Str->GX):ES:=(aU (dw ib (U (cf (v3 (aL ck (bf je (b9 dD))) (aL cr je) (aL cr (ac je cz)))))))
def gf (s h:Str->GF) (k:Str->GX):ES:=(ag (aG 2 (mS gu))
  (ag (uP (yc ii (lG (b9 aC) cz) hI) (gI 3) (dG s h k))
  (ag (bY (aJ (U (bf (b9 aC) hI)) (U cz)) (aU (dw ib (U (aL cr (xh kE cz))))) df)
  (aG 0 ib))))
def kL (s h:Str->GF) (k:Str->GX):ES:=(ag (eD 1000 (bV (jf (b9 aC) cz)) (gf s h k))
  (br (U (aL cr ii))))
theorem qT(n:Nat):ax Gv Att Y Rs Tb (n+2) "_law_folded"=bE 2 4 (kL (ax Gv Att Y Rs Tb (n+1)) (ax Gv Att Y Rs Tb n) (di Gv Att Y Rs Tb (n+1))):=by kernel_rfl
def h_ (s h:Str->GF) (k:Str->GX):ES:=(ag (bY (aJ (U (bf ck hI)) (U ii)) (br (U (cf (v2 (vt "name") (aL cr (bf (bo ck hI) (b9 aC))))))) df)
  (br (U (cf (v2 (vt "number") (aL (fm (v2 (bf (bo ck hI) (vi 10)) (bf (bo ck (vi 20)) (vi 1000)))) (bo (bf (bo ck (vi 16)) lf) rX)))))))
theorem jJ(n:Nat):ax Gv Att Y Rs Tb (n+2) "_law_leaf"=bE 2 2 (h_ (ax Gv Att Y Rs Tb (n+1)) (ax Gv Att Y Rs Tb n) (di Gv Att Y Rs Tb (n+1))):=by kernel_rfl
def ja (s h:Str->GF) (k:Str->GX):ES:=(ag (aG 2 (U (dS (s "_law_leaf") (v2 cr (bo ck lf)))))
  (ag (bY (bV (jf (bf ck lf) ii)) (br ib) df)
  (br (U (cf (v3 (aL (fm (v3 (vt "plus") (vt "minus") (vt "times"))) (bf (bo ck (vi 4096)) rX)) hG (dS (s "_law_leaf") (v2 cr (bo ck (vi 16384))))))))))
theorem lw(n:Nat):ax Gv Att Y Rs Tb (n+2) "_law_small"=bE 2 3 (ja (ax Gv Att Y Rs Tb (n+1)) (ax Gv Att Y Rs Tb n) (di Gv Att Y Rs Tb (n+1))):=by kernel_rfl
def jO (s h:Str->GF) (k:Str->GX):ES:=(ag (bY (aJ (U (bf ck (vi 8))) (U ii)) (br (U (cf (v1 (vt "true"))))) df)
  (ag (aG 3 (U (aL (fm (v6 (vt "=") (vt "!=") (vt "<") (vt "<=") (vt ">") (vt ">="))) (bf (bo ck (vi 8)) Ac))))
  (br (U (cf (v4 (vt "is") je (dS (s "_law_small") (v2 cr (bo ck (vi 64)))) (dS (s "_law_small") (v2 cr hG))))))))
theorem mN(n:Nat):ax Gv Att Y Rs Tb (n+2) "_law_test"=bE 3 4 (jO (ax Gv Att Y Rs Tb (n+1)) (ax Gv Att Y Rs Tb n) (di Gv Att Y Rs Tb (n+1))):=by kernel_rfl
def cD(s h:Str->GF)(k:Str->GX):ES:=(bY (bT (U (xI "tuple" ib))) (aG 1 (U (cU jV (v2 ck (dS (s "_law_depth") (v1 hG)))))) df)
def dh (s h:Str->GF) (k:Str->GX):ES:=(ag (aG 1 (U ii))
  (ag (uP (Lm (gQ cr (bM cz) cW)) (gI 2) (cD s h k))
  (br (U (ac cz ck)))))
theorem dL(n:Nat):ax Gv Att Y Rs Tb (n+2) "_law_depth"=bE 1 3 (dh (ax Gv Att Y Rs Tb (n+1)) (ax Gv Att Y Rs Tb n) (di Gv Att Y Rs Tb (n+1))):=by kernel_rfl
def dH (s h:Str->GF) (k:Str->GX):ES:=(ag (aG 9 (U (dS (s "_law_mix") (v2 (vv 8) lf))))
  (ag (aG 10 (U (dS (s "_law_depth") (v1 (vE (mU rf (xh kE cz)))))))
  (bY (cH (bV (cy (bf (vv 9) Ac) hI)) (cH (bV (cy (vv 7) je)) (bV (cy (vv 10) Ac)))) (ag (aU (dw rf (U (cf (v2 (vt "not") (vE (j_ rf)))))))
  (aG 7 (U (ac (vv 7) cz)))) (bY (cH (bV (jf (b9 rf) cz)) (cH (bV (cy (bf (vv 9) Ac) lf)) (bV (cy (cU jV (v2 (vv 10) (dS (s "_law_depth") (v1 (vE (mU rf (xh kE hI))))))) (vi 7))))) (ag (aG 11 (j_ rf))
  (aU (dw rf (U (cf (v3 (aL n6 (bf (bo (vv 9) Ac) hI)) (vE (j_ rf)) (vv 11))))))) (bY (bV (cy rW hG)) (ag (aG 6 (U (ac rW cz)))
  (aU (dw rf (U (dS (s "_law_test") (v3 cr (bo (vv 9) Ac) (dS (s "_law_mix") (v2 (vv 8) (vi 5))))))))) df)))))
def iV (s h:Str->GF) (k:Str->GX):ES:=(ag (aG 4 (U (fm (v2 (vt "or") (vt "and")))))
  (ag (aG 5 (mS (v1 (dS (s "_law_test") (v3 cr (dS (s "_law_mix") (v2 (b9 dD) (vi 8))) (vi 5))))))
  (ag (aG 6 (U cz))
  (ag (aG 7 (U ii))
  (ag (uP (Lm ck) (gI 8) (dH s h k))
  (br (U (dS (s "_law_folded") (v2 (vv 5) n6)))))))))
theorem mQ(n:Nat):ax Gv Att Y Rs Tb (n+2) "_law_condition"=bE 4 12 (iV (ax Gv Att Y Rs Tb (n+1)) (ax Gv Att Y Rs Tb n) (di Gv Att Y Rs Tb (n+1))):=by kernel_rfl
def iB(s h:Str->GF)(k:Str->GX):ES:=(aG 2 (U (ac hG cz)))
def n4 (s h:Str->GF) (k:Str->GX):ES:=(ag (aG 2 dD)
  (ag (eD 1000 (cH (bV (cy hG (b9 aC))) (bV (cQ gk (U (aL cr hG)) (U (vt "abcdefghijklmnopqrstuvwxyz"))))) (iB s h k))
  (br (U (gQ cr (bM ck) (bM hG))))))
theorem wX(n:Nat):ax Gv Att Y Rs Tb (n+2) "_law_run"=bE 2 3 (n4 (ax Gv Att Y Rs Tb (n+1)) (ax Gv Att Y Rs Tb n) (di Gv Att Y Rs Tb (n+1))):=by kernel_rfl
def ep(s h:Str->GF)(k:Str->GX):ES:=(aG 3 (U (ac je cz)))
def cu (s h:Str->GF) (k:Str->GX):ES:=(ag (bY (aJ (U (aL cr ck)) (U (vt "("))) (ag (aU (dw ib (U (vt "("))))
  (br (U (cf (v3 (vt "operand") (ac ck cz) (vC (.bl false))))))) df)
  (ag (bY (bV (cQ gk (U (aL cr ck)) (U (vt "0123456789")))) (ag (aG 3 (U (ac ck cz)))
  (ag (eD 1000 (cH (dc (U (aL cr ck)) (U (vt "0"))) (cH (bV (cy je (cU gw (v2 (b9 aC) (ac ck rX))))) (bV (cQ gk (U (aL cr je)) (U (vt "0123456789")))))) (ep s h k))
  (br (U (cf (v3 (vt "behind") je (vC (.bl true)))))))) df)
  (ag (aG 4 (U (dS (s "_law_run") (v2 cr ck))))
  (ag (bY (aJ Bh (U (vt ""))) (br (U (cf (v3 (vt "no") ck (vC (.bl false)))))) df)
  (ag (bY (bV (cQ gk Bh (U (cf (v4 (vt "or") (vt "and") (vt "not") (vt "true")))))) (br (U (cf (v3 (vt "no") (ac ck (b9 Bh)) (vC (.bl false)))))) df)
  (ag (bY (bV (jf (b9 Bh) (vi 10))) (br (U (cf (v3 (vt "no") (ac ck (vi 10)) (vC (.bl false)))))) df)
  (br (U (cf (v3 (vt "behind") (ac ck (b9 Bh)) (vC (.bl true))))))))))))
theorem gU(n:Nat):ax Gv Att Y Rs Tb (n+2) "_law_operand"=bE 3 5 (cu (ax Gv Att Y Rs Tb (n+1)) (ax Gv Att Y Rs Tb n) (di Gv Att Y Rs Tb (n+1))):=by kernel_rfl
def gd (s h:Str->GF) (k:Str->GX):ES:=(ag (aG 3 (U (dS (s "_law_run") (v2 cr ck))))
  (ag (bY (aJ (U (aL cr ck)) (U (vt "["))) (ag (aU (dw ib (U (vt "["))))
  (br (U (cf (v3 (vt "part") (ac ck cz) (vC (.bl false))))))) df)
  (ag (bY (aJ nl (U (vt "true"))) (br (U (cf (v3 (vt "done") (ac ck lf) (vC (.bl true)))))) df)
  (ag (bY (aJ nl (U (vt "not"))) (br (U (cf (v3 (vt "part") (ac ck rX) (vC (.bl true)))))) df)
  (br (U (fZ (s "_law_operand") (IN aC dD ib))))))))
theorem mO(n:Nat):ax Gv Att Y Rs Tb (n+2) "_law_part"=bE 3 4 (gd (ax Gv Att Y Rs Tb (n+1)) (ax Gv Att Y Rs Tb n) (di Gv Att Y Rs Tb (n+1))):=by kernel_rfl
def cS (s h:Str->GF) (k:Str->GX):ES:=(ag (bY (pJ (bV (z_ ck (b9 aC))) (dc (U (aL cr ck)) nl)) (br (U (cf (v3 (vt "no") ck (vC (.bl false)))))) df)
  (aG 1 (U (ac ck cz))))
def jP (s h:Str->GF) (k:Str->GX):ES:=(ag (aG 2 (U (aL (mn (eC "a" (vt "and") (eC "o" (vt "or") vp))) (aL cr ck))))
  (ag (uP (Lm hG) (gI 3) (cS s h k))
  (br (U (cf (v3 (vt "part") ck (vC (.bl true))))))))
theorem vd(n:Nat):ax Gv Att Y Rs Tb (n+2) "_law_link"=bE 2 4 (jP (ax Gv Att Y Rs Tb (n+1)) (ax Gv Att Y Rs Tb n) (di Gv Att Y Rs Tb (n+1))):=by kernel_rfl
def gh (s h:Str->GF) (k:Str->GX):ES:=(ag (bY (bV (cQ gk (U (aL cr ck)) (U (vt "ao")))) (br (U (dS (s "_law_link") (v2 cr ck)))) df)
  (ag (bY (cH (aJ (U (aL cr ck)) (U (vt "]"))) (aJ (U (rj ib (bM (xh kE cz)) cW)) (U (fm (v1 (vt "[")))))) (ag (aU (j_ ib))
  (br (U (cf (v3 (vt "done") (ac ck cz) (vC (.bl false))))))) df)
  (br (U (cf (v3 (vt "no") ck (vC (.bl false))))))))
theorem ve(n:Nat):ax Gv Att Y Rs Tb (n+2) "_law_done"=bE 3 3 (gh (ax Gv Att Y Rs Tb (n+1)) (ax Gv Att Y Rs Tb n) (di Gv Att Y Rs Tb (n+1))):=by kernel_rfl
def aS (s h:Str->GF) (k:Str->GX):ES:=(bY (cH (aJ nl (U (vt "first"))) (cH (dc (U (rj ib (bM (xh kE cz)) cW)) (U (fm (v1 (vt "("))))) (bV (cQ gk Bh (U (vt "=<>!")))))) (ag (bY (cH (aJ (U (gQ cr (bM (ac ck cz)) (bM (ac ck hI)))) (U (vt "="))) (dc Bh (U (vt "=")))) (br (U (cf (v3 (vt "second") (ac ck hI) (vC (.bl false)))))) df)
  (br (U (aL (fm (v2 (cf (v3 (vt "second") (ac ck cz) (vC (.bl false)))) (cf (v3 (vt "no") (ac ck cz) (vC (.bl false)))))) (cU fK (v1 (cQ BN Bh (U (vt "!"))))))))) df)
def bv (s h:Str->GF) (k:Str->GX):ES:=(ag (aG 4 (U (aL cr ck)))
  (ag (bY (bV (cQ gk Bh (U (vt "+-*")))) (br (U (cf (v3 (vt "operand") (ac ck cz) (vC (.bl false)))))) df)
  (ag (bY (cH (aJ Bh (U (vt ")"))) (aJ (U (rj ib (bM (xh kE cz)) cW)) (U (fm (v1 (vt "(")))))) (ag (aU (j_ ib))
  (br (U (cf (v3 (vt "behind") (ac ck cz) (vC (.bl false))))))) df)
  (ag (aS s h k)
  (ag (bY (cH (aJ nl (U (vt "second"))) (dc (U (rj ib (bM (xh kE cz)) cW)) (U (fm (v1 (vt "(")))))) (br (U (fZ (s "_law_done") (IN aC dD ib)))) df)
  (br (U (cf (v3 (vt "no") ck (vC (.bl false)))))))))))
theorem qU(n:Nat):ax Gv Att Y Rs Tb (n+2) "_law_behind"=bE 4 5 (bv (ax Gv Att Y Rs Tb (n+1)) (ax Gv Att Y Rs Tb n) (di Gv Att Y Rs Tb (n+1))):=by kernel_rfl
def aQ (s h:Str->GF) (k:Str->GX):ES:=(ag (bY (aJ (U (aL cr je)) (U (vt " "))) (ag (aG 4 (U (vC (.bl false))))
  (ag (aG 3 (U (ac je cz)))
  Mx)) df)
  (ag (bY (cH (bT Bh) (bV (cQ gk (U (aL cr je)) (U (vt "abcdefghijklmnopqrstuvwxyz0123456789"))))) (br nl) df)
  (ag (bY (aJ dD (U (vt "part"))) (ag (aG 5 (U (vt "first")))
  (aG 6 (U (fZ (s "_law_part") (IN aC nl ib))))) (bY (aJ dD (U (vt "operand"))) (aG 6 (U (fZ (s "_law_operand") (IN aC nl ib)))) (bY (aJ dD (U (vt "behind"))) (aG 6 (U (fZ (s "_law_behind") (R1 aC nl ib rf)))) (aG 6 (U (fZ (s "_law_done") (IN aC nl ib)))))))
  (ag (G8 (wU [gI 1,gI 3,gI 4]) rW)
  (ag (bY (aJ dD (U (vt "no"))) (br nl) df)
  (bY (aJ dD (U (vt "second"))) (ag (aG 5 (U (vt "second")))
  (aG 1 (U (vt "operand")))) df))))))
def m7 (s h:Str->GF) (k:Str->GX):ES:=(ag (aG 2 (mS gu))
  (ag (aG 3 (U ii))
  (ag (aG 4 (U (vC (.bl false))))
  (ag (aG 5 (U (aL (fm (v2 (vt "first") (vt "only"))) (cU fK (v1 (cQ BN dD (U (vt "operand"))))))))
  (ag (eD 1000 (bV (cy je (b9 aC))) (aQ s h k))
  (ag (bY (cH (aJ ib (U (fm gu))) (pJ (aJ dD (U (vt "done"))) (cH (aJ dD (U (vt "behind"))) (dc rf (U (vt "first")))))) (br (U (vC (.non)))) df)
  (br (U (b9 aC)))))))))
theorem vc(n:Nat):ax Gv Att Y Rs Tb (n+2) "_law_stop"=bE 2 7 (m7 (ax Gv Att Y Rs Tb (n+1)) (ax Gv Att Y Rs Tb n) (di Gv Att Y Rs Tb (n+1))):=by kernel_rfl
def lA(s h:Str->GF)(k:Str->GX):ES:=(br (U (vB (cH (bV (xI "int" aC)) (ll (bV (xI "bool" aC)))))))
theorem rJ(n:Nat):ax Gv Att Y Rs Tb (n+2) "_law_whole"=bE 1 1 (lA (ax Gv Att Y Rs Tb (n+1)) (ax Gv Att Y Rs Tb n) (di Gv Att Y Rs Tb (n+1))):=by kernel_rfl
def jW (s h:Str->GF) (k:Str->GX):ES:=(ag (bY (pJ (ll (bT (U (mm (nc Y Rs "NoText") aC)))) (ll (bT (U (mm (nc Y Rs "ValueError") aC))))) (br (U (vC (.bl false)))) df)
  (ag (bY (bT (U (mm (nP Y Rs ["NoDeed","NoFact","NoLine","NoPlan","NoRow","NoThing","NotPossible","TooMany"]) aC))) (br (U (vC (.bl false)))) df)
  (br (U (vB (cH (bV (dS (s "_law_whole") (v1 (vE (PB FM aC "place"))))) (aJ (PB FM aC "place") dD)))))))
theorem n9(n:Nat):ax Gv Att Y Rs Tb (n+2) "_law_refused"=bE 2 2 (jW (ax Gv Att Y Rs Tb (n+1)) (ax Gv Att Y Rs Tb n) (di Gv Att Y Rs Tb (n+1))):=by kernel_rfl
def e7(s h:Str->GF)(k:Str->GX):ES:=(Bs 2 cz)
def iW (s h:Str->GF) (k:Str->GX):ES:=(ag (aG 2 (aM (aT Att) aC "spot"))
  (ag (eD 1000 (cH (bV (cy hG (b9 (aM (aT Att) aC "text")))) (bV (cQ gk (mU (aM (aT Att) aC "text") hG) dD))) (e7 s h k))
  (br (U (rj (aM (aT Att) aC "text") (bM (vE (aM (aT Att) aC "spot"))) (bM hG))))))
theorem mR(n:Nat):ax Gv Att Y Rs Tb (n+2) "Reader.run_of"=bE 2 3 (iW (ax Gv Att Y Rs Tb (n+1)) (ax Gv Att Y Rs Tb n) (di Gv Att Y Rs Tb (n+1))):=by kernel_rfl
def gi(s h:Str->GF)(k:Str->GX):ES:=(nR (aT Att) aC "spot" (b9 (aH (mT Tb s) aC "run_of" (fS (U (vt " "))))))
theorem jK(n:Nat):ax Gv Att Y Rs Tb (n+2) "Reader.skip_blanks"=bE 1 1 (gi (ax Gv Att Y Rs Tb (n+1)) (ax Gv Att Y Rs Tb n) (di Gv Att Y Rs Tb (n+1))):=by kernel_rfl
def dt (s h:Str->GF) (k:Str->GX):ES:=(ag (aG 2 (j_ (aM (aT Att) aC "marks")))
  (ag (aG 3 (j_ (aM (aT Att) aC "trees")))
  (ag (bY (aJ ib (U (vt "not"))) (ag (aU (dw (aM (aT Att) aC "trees") (U (cf (v2 (vt "not") je)))))
  Mx) df)
  (ag (aG 4 (j_ (aM (aT Att) aC "trees")))
  (bY (bV (cQ gk ib (U (vC (.tup [.str "=",.str "!=",.str "<",.str "<=",.str ">",.str ">="]))))) (aU (dw (aM (aT Att) aC "trees") (U (cf (v4 (vt "is") hG n6 je))))) (aU (dw (aM (aT Att) aC "trees") (U (cf (v3 (n7 [("or",.str "or"),("and",.str "and"),("+",.str "plus"),("-",.str "minus"),("*",.str "times")] hG) n6 je))))))))))
def j5(s h:Str->GF)(k:Str->GX):ES:=(eD 1000 (cH (bT (aM (aT Att) aC "marks")) (bV (z_ (n7 [("(",.int 0),("[",.int 0),("or",.int 1),("and",.int 2),("not",.int 3),("=",.int 4),("!=",.int 4),("<",.int 4),("<=",.int 4),(">",.int 4),(">=",.int 4),("+",.int 5),("-",.int 5),("*",.int 6)] (vE (mU (aM (aT Att) aC "marks") (xh kE cz)))) ck))) (dt s h k))
theorem oh(n:Nat):ax Gv Att Y Rs Tb (n+2) "Reader.fold"=bE 2 5 (j5 (ax Gv Att Y Rs Tb (n+1)) (ax Gv Att Y Rs Tb n) (di Gv Att Y Rs Tb (n+1))):=by kernel_rfl
def fM(s h:Str->GF)(k:Str->GX):ES:=(br (U (cQ gk (mU (mU (aM (aT Att) aC "trees") (xh kE cz)) ii) (U (vC (.tup [.str "number",.str "name",.str "plus",.str "minus",.str "times"]))))))
theorem iy(n:Nat):ax Gv Att Y Rs Tb (n+2) "Reader.has_sum"=bE 1 1 (fM (ax Gv Att Y Rs Tb (n+1)) (ax Gv Att Y Rs Tb n) (di Gv Att Y Rs Tb (n+1))):=by kernel_rfl
def ff(s h:Str->GF)(k:Str->GX):ES:=(br (U (IT (bT (aM (aT Att) aC "marks")) (vE (mU (aM (aT Att) aC "marks") (xh kE cz))) (vt ""))))
theorem gK(n:Nat):ax Gv Att Y Rs Tb (n+2) "Reader.last_mark"=bE 1 1 (ff (ax Gv Att Y Rs Tb (n+1)) (ax Gv Att Y Rs Tb n) (di Gv Att Y Rs Tb (n+1))):=by kernel_rfl
def dU (s h:Str->GF) (k:Str->GX):ES:=(ag (aU (aH (mT Tb s) aC "fold" (fS (U lf))))
  (ag (bY (cH (aJ (aM (aT Att) aC "sought") (U (vt "part"))) (bT (aH (mT Tb s) aC "has_sum" a'))) bD df)
  (ag (aU (aH (mT Tb s) aC "fold" (fS (U cz))))
  (ag (bY (dc (aH (mT Tb s) aC "last_mark" a') (U (vt ""))) bD df)
  (br (mU (aM (aT Att) aC "trees") ii))))))
theorem g0(n:Nat):ax Gv Att Y Rs Tb (n+2) "Reader.read_end"=bE 1 1 (dU (ax Gv Att Y Rs Tb (n+1)) (ax Gv Att Y Rs Tb n) (di Gv Att Y Rs Tb (n+1))):=by kernel_rfl
def eT (s h:Str->GF) (k:Str->GX):EX:=(dM (aU (aH (mT Tb s) aC "fold" (fS (U lf)))) (bp (wT Tb k) aC "fold" (fS (U lf)))
  (dM (bY (cH (aJ (aM (aT Att) aC "sought") (U (vt "part"))) (bT (aH (mT Tb s) aC "has_sum" a'))) bD df) (fB (cH (aJ (aM (aT Att) aC "sought") (U (vt "part"))) (bT (aH (mT Tb s) aC "has_sum" a'))) (cL "NoText" "place" (vE (aM (aT Att) aC "spot"))) j9)
  (dM (aU (aH (mT Tb s) aC "fold" (fS (U cz)))) (bp (wT Tb k) aC "fold" (fS (U cz)))
  (dM (bY (dc (aH (mT Tb s) aC "last_mark" a') (U (vt ""))) bD df) (fB (dc (aH (mT Tb s) aC "last_mark" a') (U (vt ""))) (cL "NoText" "place" (vE (aM (aT Att) aC "spot"))) j9)
  j9))))
theorem kh(n:Nat):di Gv Att Y Rs Tb (n+2) "Reader.read_end"=a_ Rs (fnX 1 1 (eT (ax Gv Att Y Rs Tb (n+1)) (ax Gv Att Y Rs Tb n) (di Gv Att Y Rs Tb (n+1)))):=by kernel_rfl
def dq(s h:Str->GF)(k:Str->GX):ES:=(br (U (vB (cH (bV (jf (vE (aM (aT Att) aC "spot")) ii)) (bV (cQ gk (mU (aM (aT Att) aC "text") (lG (vE (aM (aT Att) aC "spot")) cz)) (U (ac (vt "abcdefghijklmnopqrstuvwxyz") (vt "0123456789")))))))))
theorem iw(n:Nat):ax Gv Att Y Rs Tb (n+2) "Reader.touches"=bE 1 1 (dq (ax Gv Att Y Rs Tb (n+1)) (ax Gv Att Y Rs Tb n) (di Gv Att Y Rs Tb (n+1))):=by kernel_rfl
def jZ (s h:Str->GF) (k:Str->GX):ES:=(ag (aU (dw (aM (aT Att) aC "trees") dD))
  (ag (nR (aT Att) aC "spot" hG)
  (km (aT Att) aC "wanted" (U (vt "")))))
theorem oa(n:Nat):ax Gv Att Y Rs Tb (n+2) "Reader.keep"=bE 3 3 (jZ (ax Gv Att Y Rs Tb (n+1)) (ax Gv Att Y Rs Tb n) (di Gv Att Y Rs Tb (n+1))):=by kernel_rfl
def bU (s h:Str->GF) (k:Str->GX):ES:=(ag (bY (bT (aH (mT Tb s) aC "touches" a')) bD df)
  (ag (aG 1 (aH (mT Tb s) aC "run_of" (fS (U (vt "0123456789")))))
  (ag (aG 2 (U (IT (aJ (U (aL ck ii)) (U (vt "0"))) cz (cU gw (v2 (b9 dD) rX)))))
  (ag (bY (bV (cy hG (b9 dD))) bD df)
  (aU (aH (mT Tb s) aC "keep" (rh (U (cf (v2 (vt "number") (cU fK (v1 ck))))) ib)))))))
theorem ej(n:Nat):ax Gv Att Y Rs Tb (n+2) "Reader.read_number"=bE 1 3 (bU (ax Gv Att Y Rs Tb (n+1)) (ax Gv Att Y Rs Tb n) (di Gv Att Y Rs Tb (n+1))):=by kernel_rfl
def cK (s h:Str->GF) (k:Str->GX):EX:=(dM (bY (bT (aH (mT Tb s) aC "touches" a')) bD df) (fB (bT (aH (mT Tb s) aC "touches" a')) (cL "NoText" "place" (vE (aM (aT Att) aC "spot"))) j9)
  (dM (aG 1 (aH (mT Tb s) aC "run_of" (fS (U (vt "0123456789"))))) j9
  (dM (aG 2 (U (IT (aJ (U (aL ck ii)) (U (vt "0"))) cz (cU gw (v2 (b9 dD) rX))))) j9
  (dM (bY (bV (cy hG (b9 dD))) bD df) (fB (bV (cy hG (b9 dD))) (cL "NoText" "place" (ac (vE (aM (aT Att) aC "spot")) hG)) j9)
  (bp (wT Tb k) aC "keep" (rh (U (cf (v2 (vt "number") (cU fK (v1 ck))))) ib))))))
theorem fN(n:Nat):di Gv Att Y Rs Tb (n+2) "Reader.read_number"=a_ Rs (fnX 1 3 (cK (ax Gv Att Y Rs Tb (n+1)) (ax Gv Att Y Rs Tb n) (di Gv Att Y Rs Tb (n+1)))):=by kernel_rfl
def jY (s h:Str->GF) (k:Str->GX):ES:=(ag (aU (dw (aM (aT Att) aC "marks") dD))
  (ag (nR (aT Att) aC "spot" (b9 dD))
  (km (aT Att) aC "wanted" ib)))
theorem n_(n:Nat):ax Gv Att Y Rs Tb (n+2) "Reader.push"=bE 3 3 (jY (ax Gv Att Y Rs Tb (n+1)) (ax Gv Att Y Rs Tb n) (di Gv Att Y Rs Tb (n+1))):=by kernel_rfl
def bw (s h:Str->GF) (k:Str->GX):ES:=(ag (aG 1 (aH (mT Tb s) aC "run_of" (fS (U (vt "abcdefghijklmnopqrstuvwxyz")))))
  (ag (bY (bV (jf (b9 dD) (vi 10))) bD df)
  (bY (cH (aJ dD (U (vt "true"))) (aJ (aM (aT Att) aC "wanted") (U (vt "part")))) (aU (aH (mT Tb s) aC "keep" (rh (U (cf (v1 (vt "true")))) (U (b9 dD))))) (bY (cH (aJ dD (U (vt "not"))) (aJ (aM (aT Att) aC "wanted") (U (vt "part")))) (aU (aH (mT Tb s) aC "push" (rh (U (vt "not")) (U (vt "part"))))) (bY (bV (cQ gk dD (U (vC (.tup [.str "or",.str "and",.str "not",.str "true"]))))) bD (aU (aH (mT Tb s) aC "keep" (rh (U (cf (v2 (vt "name") ck))) (U (b9 dD))))))))))
theorem cO(n:Nat):ax Gv Att Y Rs Tb (n+2) "Reader.read_letters"=bE 1 2 (bw (ax Gv Att Y Rs Tb (n+1)) (ax Gv Att Y Rs Tb n) (di Gv Att Y Rs Tb (n+1))):=by kernel_rfl
def cE (s h:Str->GF) (k:Str->GX):EX:=(dM (aG 1 (aH (mT Tb s) aC "run_of" (fS (U (vt "abcdefghijklmnopqrstuvwxyz"))))) j9
  (dM (bY (bV (jf (b9 dD) (vi 10))) bD df) (fB (bV (jf (b9 dD) (vi 10))) (cL "NoText" "place" (ac (vE (aM (aT Att) aC "spot")) (vi 10))) j9)
  (fB (cH (aJ dD (U (vt "true"))) (aJ (aM (aT Att) aC "wanted") (U (vt "part")))) (bp (wT Tb k) aC "keep" (rh (U (cf (v1 (vt "true")))) (U (b9 dD)))) (fB (cH (aJ dD (U (vt "not"))) (aJ (aM (aT Att) aC "wanted") (U (vt "part")))) (bp (wT Tb k) aC "push" (rh (U (vt "not")) (U (vt "part")))) (fB (bV (cQ gk dD (U (vC (.tup [.str "or",.str "and",.str "not",.str "true"]))))) (cL "NoText" "place" (ac (vE (aM (aT Att) aC "spot")) (b9 dD))) (bp (wT Tb k) aC "keep" (rh (U (cf (v2 (vt "name") ck))) (U (b9 dD)))))))))
theorem i6(n:Nat):di Gv Att Y Rs Tb (n+2) "Reader.read_letters"=a_ Rs (fnX 1 2 (cE (ax Gv Att Y Rs Tb (n+1)) (ax Gv Att Y Rs Tb n) (di Gv Att Y Rs Tb (n+1)))):=by kernel_rfl
def aW(s h:Str->GF)(k:Str->GX):ES:=(bY (bV (cQ gk dD (U (vt "0123456789")))) (aU (aH (mT Tb s) aC "read_number" a')) (bY (bV (cQ gk dD (U (vt "abcdefghijklmnopqrstuvwxyz")))) (aU (aH (mT Tb s) aC "read_letters" a')) (bY (aJ dD (U (vt "("))) (aU (aH (mT Tb s) aC "push" (rh (U (vt "(")) (U (vt "factor"))))) (bY (cH (aJ dD (U (vt "["))) (aJ (aM (aT Att) aC "wanted") (U (vt "part")))) (aU (aH (mT Tb s) aC "push" (rh (U (vt "[")) (U (vt "part"))))) bD))))
theorem bm(n:Nat):ax Gv Att Y Rs Tb (n+2) "Reader.read_beginning"=bE 2 2 (aW (ax Gv Att Y Rs Tb (n+1)) (ax Gv Att Y Rs Tb n) (di Gv Att Y Rs Tb (n+1))):=by kernel_rfl
def bQ(s h:Str->GF)(k:Str->GX):EX:=(fB (bV (cQ gk dD (U (vt "0123456789")))) (bp (wT Tb k) aC "read_number" a') (fB (bV (cQ gk dD (U (vt "abcdefghijklmnopqrstuvwxyz")))) (bp (wT Tb k) aC "read_letters" a') (fB (aJ dD (U (vt "("))) (bp (wT Tb k) aC "push" (rh (U (vt "(")) (U (vt "factor")))) (fB (cH (aJ dD (U (vt "["))) (aJ (aM (aT Att) aC "wanted") (U (vt "part")))) (bp (wT Tb k) aC "push" (rh (U (vt "[")) (U (vt "part")))) (cL "NoText" "place" (vE (aM (aT Att) aC "spot")))))))
theorem dj(n:Nat):di Gv Att Y Rs Tb (n+2) "Reader.read_beginning"=a_ Rs (fnX 2 2 (bQ (ax Gv Att Y Rs Tb (n+1)) (ax Gv Att Y Rs Tb n) (di Gv Att Y Rs Tb (n+1)))):=by kernel_rfl
def e_ (s h:Str->GF) (k:Str->GX):ES:=(ag (bY (ll (bT (aH (mT Tb s) aC "has_sum" a'))) bD df)
  (ag (aU (aH (mT Tb s) aC "fold" (fS (U (n7 [("(",.int 0),("[",.int 0),("or",.int 1),("and",.int 2),("not",.int 3),("=",.int 4),("!=",.int 4),("<",.int 4),("<=",.int 4),(">",.int 4),(">=",.int 4),("+",.int 5),("-",.int 5),("*",.int 6)] ck)))))
  (aU (aH (mT Tb s) aC "push" (rh dD (U (vt "factor")))))))
theorem gJ(n:Nat):ax Gv Att Y Rs Tb (n+2) "Reader.read_sign"=bE 2 2 (e_ (ax Gv Att Y Rs Tb (n+1)) (ax Gv Att Y Rs Tb n) (di Gv Att Y Rs Tb (n+1))):=by kernel_rfl
def gp (s h:Str->GF) (k:Str->GX):EX:=(dM (bY (ll (bT (aH (mT Tb s) aC "has_sum" a'))) bD df) (fB (ll (bT (aH (mT Tb s) aC "has_sum" a'))) (cL "NoText" "place" (vE (aM (aT Att) aC "spot"))) j9)
  (dM (aU (aH (mT Tb s) aC "fold" (fS (U (n7 [("(",.int 0),("[",.int 0),("or",.int 1),("and",.int 2),("not",.int 3),("=",.int 4),("!=",.int 4),("<",.int 4),("<=",.int 4),(">",.int 4),(">=",.int 4),("+",.int 5),("-",.int 5),("*",.int 6)] ck))))) (bp (wT Tb k) aC "fold" (fS (U (n7 [("(",.int 0),("[",.int 0),("or",.int 1),("and",.int 2),("not",.int 3),("=",.int 4),("!=",.int 4),("<",.int 4),("<=",.int 4),(">",.int 4),(">=",.int 4),("+",.int 5),("-",.int 5),("*",.int 6)] ck))))
  (bp (wT Tb k) aC "push" (rh dD (U (vt "factor"))))))
theorem j8(n:Nat):di Gv Att Y Rs Tb (n+2) "Reader.read_sign"=a_ Rs (fnX 2 2 (gp (ax Gv Att Y Rs Tb (n+1)) (ax Gv Att Y Rs Tb n) (di Gv Att Y Rs Tb (n+1)))):=by kernel_rfl
def bg (s h:Str->GF) (k:Str->GX):ES:=(ag (aU (aH (mT Tb s) aC "fold" (fS (U (vi 5)))))
  (ag (aG 2 (aH (mT Tb s) aC "last_mark" a'))
  (ag (bY (pJ (aJ (aM (aT Att) aC "sought") (U (vt "factor"))) (pJ (ll (bT (aH (mT Tb s) aC "has_sum" a'))) (pJ (aJ ib (U (vt "("))) (bV (cQ gk ib (U (vC (.tup [.str "=",.str "!=",.str "<",.str "<=",.str ">",.str ">="])))))))) bD df)
  (ag (aG 3 (U (rj (aM (aT Att) aC "text") (bM (vE (aM (aT Att) aC "spot"))) (bM (ac (vE (aM (aT Att) aC "spot")) hI)))))
  (ag (bY (bV (cQ iu nl (U (vC (.tup [.str "=",.str "!=",.str "<",.str "<=",.str ">",.str ">="]))))) (aG 3 dD) df)
  (ag (bY (bV (cQ iu nl (U (vC (.tup [.str "=",.str "!=",.str "<",.str "<=",.str ">",.str ">="]))))) bD df)
  (aU (aH (mT Tb s) aC "push" (rh nl (U (vt "factor")))))))))))
theorem dm(n:Nat):ax Gv Att Y Rs Tb (n+2) "Reader.read_comparison"=bE 2 4 (bg (ax Gv Att Y Rs Tb (n+1)) (ax Gv Att Y Rs Tb n) (di Gv Att Y Rs Tb (n+1))):=by kernel_rfl
def bG (s h:Str->GF) (k:Str->GX):EX:=(dM (aU (aH (mT Tb s) aC "fold" (fS (U (vi 5))))) (bp (wT Tb k) aC "fold" (fS (U (vi 5))))
  (dM (aG 2 (aH (mT Tb s) aC "last_mark" a')) j9
  (dM (bY (pJ (aJ (aM (aT Att) aC "sought") (U (vt "factor"))) (pJ (ll (bT (aH (mT Tb s) aC "has_sum" a'))) (pJ (aJ ib (U (vt "("))) (bV (cQ gk ib (U (vC (.tup [.str "=",.str "!=",.str "<",.str "<=",.str ">",.str ">="])))))))) bD df) (fB (pJ (aJ (aM (aT Att) aC "sought") (U (vt "factor"))) (pJ (ll (bT (aH (mT Tb s) aC "has_sum" a'))) (pJ (aJ ib (U (vt "("))) (bV (cQ gk ib (U (vC (.tup [.str "=",.str "!=",.str "<",.str "<=",.str ">",.str ">="])))))))) (cL "NoText" "place" (vE (aM (aT Att) aC "spot"))) j9)
  (dM (aG 3 (U (rj (aM (aT Att) aC "text") (bM (vE (aM (aT Att) aC "spot"))) (bM (ac (vE (aM (aT Att) aC "spot")) hI))))) j9
  (dM (bY (bV (cQ iu nl (U (vC (.tup [.str "=",.str "!=",.str "<",.str "<=",.str ">",.str ">="]))))) (aG 3 dD) df) (fB (bV (cQ iu nl (U (vC (.tup [.str "=",.str "!=",.str "<",.str "<=",.str ">",.str ">="]))))) j9 j9)
  (dM (bY (bV (cQ iu nl (U (vC (.tup [.str "=",.str "!=",.str "<",.str "<=",.str ">",.str ">="]))))) bD df) (fB (bV (cQ iu nl (U (vC (.tup [.str "=",.str "!=",.str "<",.str "<=",.str ">",.str ">="]))))) (cL "NoText" "place" (ac (vE (aM (aT Att) aC "spot")) cz)) j9)
  (bp (wT Tb k) aC "push" (rh nl (U (vt "factor"))))))))))
theorem eO(n:Nat):di Gv Att Y Rs Tb (n+2) "Reader.read_comparison"=a_ Rs (fnX 2 4 (bG (ax Gv Att Y Rs Tb (n+1)) (ax Gv Att Y Rs Tb n) (di Gv Att Y Rs Tb (n+1)))):=by kernel_rfl
def e6(s h:Str->GF)(k:Str->GX):ES:=(Bs 2 cz)
def iT (s h:Str->GF) (k:Str->GX):ES:=(ag (aG 2 (U ii))
  (ag (eD 1000 (cH (aJ (U (gQ cr cW (bM (ac hG cz)))) (U (gQ ck cW (bM (ac hG cz))))) (bV (cy hG (cU gw (v2 (b9 aC) (b9 dD)))))) (e6 s h k))
  (br ib)))
theorem mM(n:Nat):ax Gv Att Y Rs Tb (n+2) "shared_length"=bE 2 3 (iT (ax Gv Att Y Rs Tb (n+1)) (ax Gv Att Y Rs Tb n) (di Gv Att Y Rs Tb (n+1))):=by kernel_rfl
def cB (s h:Str->GF) (k:Str->GX):ES:=(ag (aU (aH (mT Tb s) aC "fold" (fS (U lf))))
  (ag (bY (pJ (bT (aH (mT Tb s) aC "touches" a')) (bT (aH (mT Tb s) aC "has_sum" a'))) bD df)
  (ag (aG 2 (aH (mT Tb s) aC "run_of" (fS (U (vt "abcdefghijklmnopqrstuvwxyz")))))
  (ag (bY (dc ib dD) bD df)
  (ag (aU (aH (mT Tb s) aC "fold" (fS (U (n7 [("(",.int 0),("[",.int 0),("or",.int 1),("and",.int 2),("not",.int 3),("=",.int 4),("!=",.int 4),("<",.int 4),("<=",.int 4),(">",.int 4),(">=",.int 4),("+",.int 5),("-",.int 5),("*",.int 6)] ck)))))
  (aU (aH (mT Tb s) aC "push" (rh dD (U (vt "part"))))))))))
theorem eG(n:Nat):ax Gv Att Y Rs Tb (n+2) "Reader.read_joint"=bE 2 3 (cB (ax Gv Att Y Rs Tb (n+1)) (ax Gv Att Y Rs Tb n) (di Gv Att Y Rs Tb (n+1))):=by kernel_rfl
def db (s h:Str->GF) (k:Str->GX):EX:=(dM (aU (aH (mT Tb s) aC "fold" (fS (U lf)))) (bp (wT Tb k) aC "fold" (fS (U lf)))
  (dM (bY (pJ (bT (aH (mT Tb s) aC "touches" a')) (bT (aH (mT Tb s) aC "has_sum" a'))) bD df) (fB (pJ (bT (aH (mT Tb s) aC "touches" a')) (bT (aH (mT Tb s) aC "has_sum" a'))) (cL "NoText" "place" (vE (aM (aT Att) aC "spot"))) j9)
  (dM (aG 2 (aH (mT Tb s) aC "run_of" (fS (U (vt "abcdefghijklmnopqrstuvwxyz"))))) j9
  (dM (bY (dc ib dD) bD df) (fB (dc ib dD) (cL "NoText" "place" (ac (vE (aM (aT Att) aC "spot")) (dS (s "shared_length") (v2 hG ck)))) j9)
  (dM (aU (aH (mT Tb s) aC "fold" (fS (U (n7 [("(",.int 0),("[",.int 0),("or",.int 1),("and",.int 2),("not",.int 3),("=",.int 4),("!=",.int 4),("<",.int 4),("<=",.int 4),(">",.int 4),(">=",.int 4),("+",.int 5),("-",.int 5),("*",.int 6)] ck))))) (bp (wT Tb k) aC "fold" (fS (U (n7 [("(",.int 0),("[",.int 0),("or",.int 1),("and",.int 2),("not",.int 3),("=",.int 4),("!=",.int 4),("<",.int 4),("<=",.int 4),(">",.int 4),(">=",.int 4),("+",.int 5),("-",.int 5),("*",.int 6)] ck))))
  (bp (wT Tb k) aC "push" (rh dD (U (vt "part")))))))))
theorem fY(n:Nat):di Gv Att Y Rs Tb (n+2) "Reader.read_joint"=a_ Rs (fnX 2 3 (db (ax Gv Att Y Rs Tb (n+1)) (ax Gv Att Y Rs Tb n) (di Gv Att Y Rs Tb (n+1)))):=by kernel_rfl
def dA (s h:Str->GF) (k:Str->GX):ES:=(ag (aU (aH (mT Tb s) aC "fold" (fS (U (vi 5)))))
  (ag (bY (dc (aH (mT Tb s) aC "last_mark" a') (U (vt "("))) bD df)
  (ag (aU (j_ (aM (aT Att) aC "marks")))
  (nR (aT Att) aC "spot" cz))))
theorem fw(n:Nat):ax Gv Att Y Rs Tb (n+2) "Reader.read_round_end"=bE 1 1 (dA (ax Gv Att Y Rs Tb (n+1)) (ax Gv Att Y Rs Tb n) (di Gv Att Y Rs Tb (n+1))):=by kernel_rfl
def eS (s h:Str->GF) (k:Str->GX):EX:=(dM (aU (aH (mT Tb s) aC "fold" (fS (U (vi 5))))) (bp (wT Tb k) aC "fold" (fS (U (vi 5))))
  (dM (bY (dc (aH (mT Tb s) aC "last_mark" a') (U (vt "("))) bD df) (fB (dc (aH (mT Tb s) aC "last_mark" a') (U (vt "("))) (cL "NoText" "place" (vE (aM (aT Att) aC "spot"))) j9)
  (dM (aU (j_ (aM (aT Att) aC "marks"))) (bp (wT Tb k) (aM (aT Att) aC "marks") "pop" a')
  j9)))
theorem ij(n:Nat):di Gv Att Y Rs Tb (n+2) "Reader.read_round_end"=a_ Rs (fnX 1 1 (eS (ax Gv Att Y Rs Tb (n+1)) (ax Gv Att Y Rs Tb n) (di Gv Att Y Rs Tb (n+1)))):=by kernel_rfl
def cq (s h:Str->GF) (k:Str->GX):ES:=(ag (aU (aH (mT Tb s) aC "fold" (fS (U lf))))
  (ag (bY (bT (aH (mT Tb s) aC "has_sum" a')) bD df)
  (ag (aU (aH (mT Tb s) aC "fold" (fS (U cz))))
  (ag (bY (dc (aH (mT Tb s) aC "last_mark" a') (U (vt "["))) bD df)
  (ag (aU (j_ (aM (aT Att) aC "marks")))
  (nR (aT Att) aC "spot" cz))))))
theorem eZ(n:Nat):ax Gv Att Y Rs Tb (n+2) "Reader.read_square_end"=bE 1 1 (cq (ax Gv Att Y Rs Tb (n+1)) (ax Gv Att Y Rs Tb n) (di Gv Att Y Rs Tb (n+1))):=by kernel_rfl
def da (s h:Str->GF) (k:Str->GX):EX:=(dM (aU (aH (mT Tb s) aC "fold" (fS (U lf)))) (bp (wT Tb k) aC "fold" (fS (U lf)))
  (dM (bY (bT (aH (mT Tb s) aC "has_sum" a')) bD df) (fB (bT (aH (mT Tb s) aC "has_sum" a')) (cL "NoText" "place" (vE (aM (aT Att) aC "spot"))) j9)
  (dM (aU (aH (mT Tb s) aC "fold" (fS (U cz)))) (bp (wT Tb k) aC "fold" (fS (U cz)))
  (dM (bY (dc (aH (mT Tb s) aC "last_mark" a') (U (vt "["))) bD df) (fB (dc (aH (mT Tb s) aC "last_mark" a') (U (vt "["))) (cL "NoText" "place" (vE (aM (aT Att) aC "spot"))) j9)
  (dM (aU (j_ (aM (aT Att) aC "marks"))) (bp (wT Tb k) (aM (aT Att) aC "marks") "pop" a')
  j9)))))
theorem hP(n:Nat):di Gv Att Y Rs Tb (n+2) "Reader.read_square_end"=a_ Rs (fnX 1 1 (da (ax Gv Att Y Rs Tb (n+1)) (ax Gv Att Y Rs Tb n) (di Gv Att Y Rs Tb (n+1)))):=by kernel_rfl
def aw(s h:Str->GF)(k:Str->GX):ES:=(bY (bV (cQ gk dD (U (vt "+-*")))) (aU (aH (mT Tb s) aC "read_sign" (fS dD))) (bY (bV (cQ gk dD (U (vt "=!<>")))) (aU (aH (mT Tb s) aC "read_comparison" (fS dD))) (bY (bV (cQ gk dD (U (vt "abcdefghijklmnopqrstuvwxyz")))) (aU (aH (mT Tb s) aC "read_joint" (fS (U (IT (aJ dD (U (vt "a"))) (vt "and") (vt "or")))))) (bY (aJ dD (U (vt ")"))) (aU (aH (mT Tb s) aC "read_round_end" a')) (bY (aJ dD (U (vt "]"))) (aU (aH (mT Tb s) aC "read_square_end" a')) bD)))))
theorem aB(n:Nat):ax Gv Att Y Rs Tb (n+2) "Reader.read_behind"=bE 2 2 (aw (ax Gv Att Y Rs Tb (n+1)) (ax Gv Att Y Rs Tb n) (di Gv Att Y Rs Tb (n+1))):=by kernel_rfl
def bh(s h:Str->GF)(k:Str->GX):EX:=(fB (bV (cQ gk dD (U (vt "+-*")))) (bp (wT Tb k) aC "read_sign" (fS dD)) (fB (bV (cQ gk dD (U (vt "=!<>")))) (bp (wT Tb k) aC "read_comparison" (fS dD)) (fB (bV (cQ gk dD (U (vt "abcdefghijklmnopqrstuvwxyz")))) (bp (wT Tb k) aC "read_joint" (fS (U (IT (aJ dD (U (vt "a"))) (vt "and") (vt "or"))))) (fB (aJ dD (U (vt ")"))) (bp (wT Tb k) aC "read_round_end" a') (fB (aJ dD (U (vt "]"))) (bp (wT Tb k) aC "read_square_end" a') (cL "NoText" "place" (vE (aM (aT Att) aC "spot"))))))))
theorem bt(n:Nat):di Gv Att Y Rs Tb (n+2) "Reader.read_behind"=a_ Rs (fnX 2 2 (bh (ax Gv Att Y Rs Tb (n+1)) (ax Gv Att Y Rs Tb n) (di Gv Att Y Rs Tb (n+1)))):=by kernel_rfl
def aO (s h:Str->GF) (k:Str->GX):ES:=(ag (bY (aJ (aM (aT Att) aC "spot") (U (b9 (aM (aT Att) aC "text")))) bD df)
  (ag (bY (dc (aM (aT Att) aC "wanted") (U (vt ""))) (aU (aH (mT Tb s) aC "read_beginning" (fS (mU (aM (aT Att) aC "text") (vE (aM (aT Att) aC "spot")))))) (aU (aH (mT Tb s) aC "read_behind" (fS (mU (aM (aT Att) aC "text") (vE (aM (aT Att) aC "spot")))))))
  (aU (aH (mT Tb s) aC "skip_blanks" a'))))
def jX (s h:Str->GF) (k:Str->GX):ES:=(ag (aU (aH (mT Tb s) aC "skip_blanks" a'))
  (ag (eD 1000 (pJ (dc (aM (aT Att) aC "wanted") (U (vt ""))) (bV (cy (vE (aM (aT Att) aC "spot")) (b9 (aM (aT Att) aC "text"))))) (aO s h k))
  (br (aH (mT Tb s) aC "read_end" a'))))
theorem gW(n:Nat):ax Gv Att Y Rs Tb (n+2) "Reader.read"=bE 1 1 (jX (ax Gv Att Y Rs Tb (n+1)) (ax Gv Att Y Rs Tb n) (di Gv Att Y Rs Tb (n+1))):=by kernel_rfl
def kJ (s h:Str->GF) (k:Str->GX):ES:=(ag (bY (aJ (aM (aT Att) aC "spot") (U (b9 (aM (aT Att) aC "text")))) bD df)
  (ag (bY (dc (aM (aT Att) aC "wanted") (U (vt ""))) (aU (aH (mT Tb s) aC "read_beginning" (fS (mU (aM (aT Att) aC "text") (vE (aM (aT Att) aC "spot")))))) (aU (aH (mT Tb s) aC "read_behind" (fS (mU (aM (aT Att) aC "text") (vE (aM (aT Att) aC "spot")))))))
  (aU (aH (mT Tb s) aC "skip_blanks" a'))))
def kI (s h:Str->GF) (k:Str->GX):ES:=(ag (bY (aJ (aM (aT Att) aC "spot") (U (b9 (aM (aT Att) aC "text")))) bD df)
  (ag (bY (dc (aM (aT Att) aC "wanted") (U (vt ""))) (aU (aH (mT Tb s) aC "read_beginning" (fS (mU (aM (aT Att) aC "text") (vE (aM (aT Att) aC "spot")))))) (aU (aH (mT Tb s) aC "read_behind" (fS (mU (aM (aT Att) aC "text") (vE (aM (aT Att) aC "spot")))))))
  (aU (aH (mT Tb s) aC "skip_blanks" a'))))
def jh (s h:Str->GF) (k:Str->GX):EX:=(dM (aU (aH (mT Tb s) aC "skip_blanks" a')) (bp (wT Tb k) aC "skip_blanks" a')
  (dM (eD 1000 (pJ (dc (aM (aT Att) aC "wanted") (U (vt ""))) (bV (cy (vE (aM (aT Att) aC "spot")) (b9 (aM (aT Att) aC "text"))))) (kJ s h k)) (xD 1000 (pJ (dc (aM (aT Att) aC "wanted") (U (vt ""))) (bV (cy (vE (aM (aT Att) aC "spot")) (b9 (aM (aT Att) aC "text"))))) (kI s h k) (dM (bY (aJ (aM (aT Att) aC "spot") (U (b9 (aM (aT Att) aC "text")))) bD df) (fB (aJ (aM (aT Att) aC "spot") (U (b9 (aM (aT Att) aC "text")))) (cL "NoText" "place" (vE (aM (aT Att) aC "spot"))) j9)
  (dM (bY (dc (aM (aT Att) aC "wanted") (U (vt ""))) (aU (aH (mT Tb s) aC "read_beginning" (fS (mU (aM (aT Att) aC "text") (vE (aM (aT Att) aC "spot")))))) (aU (aH (mT Tb s) aC "read_behind" (fS (mU (aM (aT Att) aC "text") (vE (aM (aT Att) aC "spot"))))))) (fB (dc (aM (aT Att) aC "wanted") (U (vt ""))) (bp (wT Tb k) aC "read_beginning" (fS (mU (aM (aT Att) aC "text") (vE (aM (aT Att) aC "spot"))))) (bp (wT Tb k) aC "read_behind" (fS (mU (aM (aT Att) aC "text") (vE (aM (aT Att) aC "spot"))))))
  (bp (wT Tb k) aC "skip_blanks" a'))))
  (bp (wT Tb k) aC "read_end" a')))
theorem jg(n:Nat):di Gv Att Y Rs Tb (n+2) "Reader.read"=a_ Rs (fnX 1 1 (jh (ax Gv Att Y Rs Tb (n+1)) (ax Gv Att Y Rs Tb n) (di Gv Att Y Rs Tb (n+1)))):=by kernel_rfl
def j0 (s h:Str->GF) (k:Str->GX):ES:=(ag (km (aT Att) aC "text" dD)
  (ag (km (aT Att) aC "spot" (U ii))
  (ag (km (aT Att) aC "sought" ib)
  (ag (km (aT Att) aC "wanted" ib)
  (ag (km (aT Att) aC "trees" (mS gu))
  (km (aT Att) aC "marks" (mS gu)))))))
theorem og(n:Nat):ax Gv Att Y Rs Tb (n+2) "Reader.__init__"=bE 3 3 (j0 (ax Gv Att Y Rs Tb (n+1)) (ax Gv Att Y Rs Tb n) (di Gv Att Y Rs Tb (n+1))):=by kernel_rfl
def fL(s h:Str->GF)(k:Str->GX):ES:=(br (aH (mT Tb s) (wY (h "Reader.__init__") "Reader" (rh aC (U (vt "part")))) "read" a'))
theorem iv(n:Nat):ax Gv Att Y Rs Tb (n+2) "read_condition"=bE 1 1 (fL (ax Gv Att Y Rs Tb (n+1)) (ax Gv Att Y Rs Tb n) (di Gv Att Y Rs Tb (n+1))):=by kernel_rfl
def gZ(s h:Str->GF)(k:Str->GX):EX:=(bp (wT Tb k) (wY (h "Reader.__init__") "Reader" (rh aC (U (vt "part")))) "read" a')
theorem lg(n:Nat):di Gv Att Y Rs Tb (n+2) "read_condition"=a_ Rs (fnX 1 1 (gZ (ax Gv Att Y Rs Tb (n+1)) (ax Gv Att Y Rs Tb n) (di Gv Att Y Rs Tb (n+1)))):=by kernel_rfl
def jb (s h:Str->GF) (k:Str->GX):ES:=(ag (aG 1 (U (dS (s "_law_stop") (v2 cr (vt "part")))))
  (ag (aG 2 (U (vC (.non))))
  (ag (aG 3 (U (vC (.non))))
  (ag (xT (aG 3 (U (dS (s "read_condition") (v1 cr)))) (pY (k "read_condition") (fS aC)) (fun c=>Rs.contains c && (Y.lookup c).any fun a=>a.contains "RoadError") 4 (aG 2 Bh))
  (ag (bY (bV (cQ LA dD (U (vC (.non))))) (br (U (vB (cH (bV (cQ LA ib (U (vC (.non))))) (bV (xI "tuple" nl)))))) df)
  (br (U (fZ (s "_law_refused") (rh ib dD)))))))))
theorem rK(n:Nat):ax Gv Att Y Rs Tb (n+2) "_law_right"=bE 1 5 (jb (ax Gv Att Y Rs Tb (n+1)) (ax Gv Att Y Rs Tb n) (di Gv Att Y Rs Tb (n+1))):=by kernel_rfl
def m9 (s h:Str->GF) (k:Str->GX):ES:=(ag (aG 3 (U (vt " !\"#$&'()*+,-./0123456789:;<=>?@ABCDEFGHIJKLMNOPQRSTUVWXYZ[\\]^_`")))
  (ag (aG 3 (U (ac je (vt "abcdefghijklmnopqrstuvwxyz{|}~"))))
  (ag (aG 4 (U (aL je (bf hG (vi 94)))))
  (ag (bY (bV (jf (bf ck lf) ii)) (ag (aG 5 (U (fm (aZ (vt "a") (aZ (vt "o") (aZ (vt "0") (aZ (vt "9") (aZ (vt "+") (aZ (vt "-") (aZ (vt "*") (aZ (vt "(") (aZ (vt ")") (aZ (vt "[") (v8 (vt "]") (vt "=") (vt "<") (vt "!") (vt " ") (vt "or") (vt "not") (vt "true")))))))))))))))
  (aG 4 (U (aL (vv 5) (bf (bo ck lf) (vi 18)))))) df)
  (ag (aG 6 (U (bf (bo ck (vi 128)) (ac (b9 aC) cz))))
  (ag (aG 7 (U (bf (bo ck (vi 524288)) lf)))
  (ag (bY (aJ (gm 7) (U ii)) (br (U (gQ cr cW (bM rW)))) df)
  (ag (bY (aJ (gm 7) (U cz)) (br (U (ac (ac (gQ cr cW (bM rW)) n6) (gQ cr (bM rW) cW)))) df)
  (ag (bY (aJ (gm 7) (U hI)) (br (U (ac (ac (gQ cr cW (bM rW)) n6) (gQ cr (bM (ac rW cz)) cW)))) df)
  (br (U (ac (gQ cr cW (bM rW)) (gQ cr (bM (ac rW cz)) cW)))))))))))))
theorem vf(n:Nat):ax Gv Att Y Rs Tb (n+2) "_law_bent"=bE 3 8 (m9 (ax Gv Att Y Rs Tb (n+1)) (ax Gv Att Y Rs Tb n) (di Gv Att Y Rs Tb (n+1))):=by kernel_rfl
def lX (s h:Str->GF) (k:Str->GX):ES:=(ag (aG 5 (U (dS (s "_law_bent") (v3 je (dS (s "_law_mix") (v2 (dS (s "_law_at") (v2 cr (ac hI n6))) (vi 9))) (dS (s "_law_at") (v2 cr (ac hI n6)))))))
  (bY (pJ (ll (bT (U (dS (s "_law_right") (v1 (vv 5)))))) (ll (bT (U (dS (s "_law_right") (v1 (vv 5))))))) (br (U (vC (.bl false)))) df))
def A9 (s h:Str->GF) (k:Str->GX):ES:=(ag (aG 1 (U (dS (s "_law_mix") (v2 (dS (s "_law_at") (v2 cr ii)) cz))))
  (ag (aG 2 (U (mq (yd (ac cz (bf ck lf))) [4] 0 (gI 4) Fu (dS (s "_law_named") (v2 n6 (bo ck lf))))))
  (ag (aG 3 (U (dS (s "_law_otherwise") (v2 (dS (s "_law_condition") (v4 hG (gQ cr (bM hI) (bM (vi 32))) lf rX)) (dS (s "_law_mix") (v2 (dS (s "_law_at") (v2 cr cz)) (vi 5)))))))
  (ag (bY (ll (bT (U (dS (s "_law_right") (v1 je))))) (br (U (vC (.bl false)))) df)
  (ag (uP (yd rX) (gI 4) (lX s h k))
  (br (U (vC (.bl true)))))))))
theorem H_(n:Nat):ax Gv Att Y Rs Tb (n+2) "law"=bE 1 6 (A9 (ax Gv Att Y Rs Tb (n+1)) (ax Gv Att Y Rs Tb n) (di Gv Att Y Rs Tb (n+1))):=by kernel_rfl
variable{t:Type}{r:List t}
theorem xj(h:r.length=1):∃a,r=[a]:=by
 match r,h with
 | [a],_=>exact⟨a,rfl⟩
theorem rF(h:r.length=2):∃a b,r=[a,b]:=by
 match r,h with
 | [a,b],_=>exact⟨a,b,rfl⟩
theorem Jf(h:r.length=3):∃a b c,r=[a,b,c]:=by
 match r,h with
 | [a,b,c],_=>exact⟨a,b,c,rfl⟩
theorem Sa(h:r.length=4):∃a b c d,r=[a,b,c,d]:=by
 match r,h with
 | [a,b,c,d],_=>exact⟨a,b,c,d,rfl⟩
theorem sc:Tb.all Pm=true:=by decide +kernel
theorem un:(Tb.map (·.name)).Nodup:=by decide +kernel
set_option tactic.hygienic true in
theorem EN(h:FM.lookup c=some f):c=("NoText":Str)/\f=("place":Str):=by
 unfold FM dP at h;split at h
 .rename_i e;cases h;exact⟨eq_of_beq e,rfl⟩
 .cases h
def Uf(K:FG)(C:Addr):Prop:=∃f t N o x kV d p a c h s,K.lookup C=some o/\Kx.XO o C N t /\
 xq K Kx.HD t=true/\xn K N=true/\bN K N "__init__"=some (some (.ref f))/\K.lookup f=some ⟨.type "function",x,.func (lE "__init__" "NoText.__init__" (aN (L2.aa (aK 2) 0)) (aD (L2.aa (aK 2) 0)) (af (L2.aa (aK 2) 0)) .none kV d p a c h),s⟩/\s0 K c "NoText.__init__"=true/\gO K (.ref f)=true
theorem HS(st:ExcSt K C "place")(H:Uf K C):vJ K C "place":=by
 obtain⟨f,v,N,o,S,kV,y,F,g,i,j,A,b,c,m,t,p,x,a,n⟩:=H;have q:aD (L2.aa (aK 2) 0)=[.Assign [.Attribute (.Name "self" ⟨7,8,7,12⟩) "place" ⟨7,8,7,18⟩] (.Name "place" ⟨7,21,7,26⟩) ⟨7,8,7,26⟩]:=by kernel_rfl
 refine⟨st,f,_,["self","place"],⟨v,N,o,_,b,c,m,t,λh X=>K5 X p,x,rfl⟩,λP w z base=>BL (aq (st:=(L2.aa (aK 2) 0)) x a n) (Dr (d:=⟨"","","",(L2.aa (aK 2) 0),["self","place"],["self","place"],[],[],[]⟩) (by decide +kernel)) q (λe k=>⟨.inl (by rw[k];decide +kernel),.inl (by rw[k];decide +kernel)⟩) (by decide +kernel) (by decide +kernel) (by decide +kernel) (by decide +kernel) λ_=>rfl,λs e u X=>?_⟩;exact(aq (st:=(L2.aa (aK 2) 0)) x a n).binds (ps:=["self","place"]) (λ_ _ _ _ _ _ r l=>by obtain⟨_,_,rfl⟩:=rF l;rfl) s [.ref e,u] X rfl
theorem LI{K:FG}{h:Heap}{mg:SV}(X:K.In h)(G:h.Ns mainGlobals mg){E0 E V W Z E5 E6 E7 E8 E9:Addr}
  (n:bN K mainGlobals "RoadError"=some (some (.ref E0))) (en0:bO K (.type "NoneType") (.ref E0)=some false)
  (s:bN K mainGlobals "NoText"=some (some (.ref E))) (en1:bO K (.type "NoneType") (.ref E)=some false)
  (k:bN K mainGlobals "NoPlan"=some (some (.ref V))) (en2:bO K (.type "NoneType") (.ref V)=some false)
  (b:bN K mainGlobals "NoLine"=some (some (.ref W))) (en3:bO K (.type "NoneType") (.ref W)=some false)
  (m:bN K mainGlobals "NoDeed"=some (some (.ref Z))) (en4:bO K (.type "NoneType") (.ref Z)=some false)
  (p:bN K mainGlobals "NotPossible"=some (some (.ref E5))) (en5:bO K (.type "NoneType") (.ref E5)=some false)
  (q:bN K mainGlobals "TooMany"=some (some (.ref E6))) (en6:bO K (.type "NoneType") (.ref E6)=some false)
  (v:bN K mainGlobals "NoFact"=some (some (.ref E7))) (en7:bO K (.type "NoneType") (.ref E7)=some false)
  (d:bN K mainGlobals "NoRow"=some (some (.ref E8))) (en8:bO K (.type "NoneType") (.ref E8)=some false)
  (w:bN K mainGlobals "NoThing"=some (some (.ref E9))) (en9:bO K (.type "NoneType") (.ref E9)=some false)
  (ev:bN K mainGlobals "ValueError"=some none) (env:bO K (.type "NoneType") (.type "ValueError")=some false)
  (L:d_ K (.ref E) "__getattribute__"=some (some (.builtin "BaseException.__getattribute__"))) (M:d_ K (.ref E) "__getattr__"=some none) (dD:pR K E (.type "BaseException")=some true) (I:d_ K (.ref E) "__class__"=some (some (.builtin "object.__class__"))) (D:tm K (.builtin "object.__class__") "__get__"=some (some (.builtin "getset_descriptor.__get__"))) (fS:xt K (.builtin "object.__class__")=some true) (N:pR K E (.type "object")=some true) (cz:(sY K E).isSome=true) (xs1:pS K (.ref E) (.ref E)=some true) (ck:bO K (.ref E) (.type "ValueError")=some true)
  (xr1:vJ K E "place")
  (u:bO K (.ref E) (.ref E0)=some true)
  (A:nv K (.ref E) (.ref E0)=some true)
  (g:bO K (.ref E) (.ref E)=some true)
  (B:nv K (.ref E) (.ref E)=some true)
  (i:bO K (.ref E) (.ref V)=some false)
  (j:bO K (.ref E) (.ref W)=some false)
  (l:bO K (.ref E) (.ref Z)=some false)
  (o:bO K (.ref E) (.ref E5)=some false)
  (H:bO K (.ref E) (.ref E6)=some false)
  (S:bO K (.ref E) (.ref E7)=some false)
  (F:bO K (.ref E) (.ref E8)=some false)
  (P:bO K (.ref E) (.ref E9)=some false)
  : ExsOk K mg Y Rs:=by
 have y:∀c:Str,(Y.any λx=>decide (x.1=c))=true->c=("RoadError":Str)\/c=("NoText":Str)\/c=("NoPlan":Str)\/c=("NoLine":Str)\/c=("NoDeed":Str)\/c=("NotPossible":Str)\/c=("TooMany":Str)\/c=("NoFact":Str)\/c=("NoRow":Str)\/c=("NoThing":Str):=λc a=>by
  simp only[Y,fE,t4,oS,fD,gY]at a;rcases a with a|a|a|a|a|a|a|a|a|a
  .exact .inl a.symm
  .exact .inr (.inl a.symm)
  .exact .inr (.inr (.inl a.symm))
  .exact .inr (.inr (.inr (.inl a.symm)))
  .exact .inr (.inr (.inr (.inr (.inl a.symm))))
  .exact .inr (.inr (.inr (.inr (.inr (.inl a.symm)))))
  .exact .inr (.inr (.inr (.inr (.inr (.inr (.inl a.symm))))))
  .exact .inr (.inr (.inr (.inr (.inr (.inr (.inr (.inl a.symm)))))))
  .exact .inr (.inr (.inr (.inr (.inr (.inr (.inr (.inr (.inl a.symm))))))))
  .exact .inr (.inr (.inr (.inr (.inr (.inr (.inr (.inr (.inr (a.symm)))))))))
 have r:∀c:Str,Rs.contains c=true->c=("NoText":Str):=λc a=>by simpa[Rs] using a
 refine⟨λc a=>?_,Cm X G ev,λt C ht e=>?_,env,λc anc C R ea Q=>?_,λc R=>?_,λc C R hz Q=>?_,λc f hf=>?_,λc f C hf Q=>?_⟩
 .rcases y c a with rfl|rfl|rfl|rfl|rfl|rfl|rfl|rfl|rfl|rfl
  .exact⟨_,n,av X G n⟩
  .exact⟨_,s,av X G s⟩
  .exact⟨_,k,av X G k⟩
  .exact⟨_,b,av X G b⟩
  .exact⟨_,m,av X G m⟩
  .exact⟨_,p,av X G p⟩
  .exact⟨_,q,av X G q⟩
  .exact⟨_,v,av X G v⟩
  .exact⟨_,d,av X G d⟩
  .exact⟨_,w,av X G w⟩
 .rcases y t ht with rfl|rfl|rfl|rfl|rfl|rfl|rfl|rfl|rfl|rfl
  .cases (av X G n).symm.trans e;exact en0
  .cases (av X G s).symm.trans e;exact en1
  .cases (av X G k).symm.trans e;exact en2
  .cases (av X G b).symm.trans e;exact en3
  .cases (av X G m).symm.trans e;exact en4
  .cases (av X G p).symm.trans e;exact en5
  .cases (av X G q).symm.trans e;exact en6
  .cases (av X G v).symm.trans e;exact en7
  .cases (av X G d).symm.trans e;exact en8
  .cases (av X G w).symm.trans e;exact en9
 .rcases r c R with rfl
  .cases s.symm.trans Q;cases (show some (["NoText","RoadError","ValueError"]:LS)=some anc from ea);refine⟨⟨L,M,I,D,fS,N,dD,cz⟩,xs1,ck,λt T ht e=>?_⟩;rcases y t ht with rfl|rfl|rfl|rfl|rfl|rfl|rfl|rfl|rfl|rfl
   .cases (av X G n).symm.trans e;exact⟨u,λ_=>A⟩
   .cases (av X G s).symm.trans e;exact⟨g,λ_=>B⟩
   .cases (av X G k).symm.trans e;exact⟨i,λz=>nomatch z⟩
   .cases (av X G b).symm.trans e;exact⟨j,λz=>nomatch z⟩
   .cases (av X G m).symm.trans e;exact⟨l,λz=>nomatch z⟩
   .cases (av X G p).symm.trans e;exact⟨o,λz=>nomatch z⟩
   .cases (av X G q).symm.trans e;exact⟨H,λz=>nomatch z⟩
   .cases (av X G v).symm.trans e;exact⟨S,λz=>nomatch z⟩
   .cases (av X G d).symm.trans e;exact⟨F,λz=>nomatch z⟩
   .cases (av X G w).symm.trans e;exact⟨P,λz=>nomatch z⟩
 .rcases r c R with rfl<;>decide +kernel
 .rcases r c R with rfl
  .exact absurd hz (by decide +kernel)
 .obtain⟨rfl,rfl⟩:=EN hf;decide +kernel
 .obtain⟨rfl,rfl⟩:=EN hf;cases s.symm.trans Q;exact⟨⟨L,M,I,D,fS,N,dD,cz⟩,xr1⟩
open PySem.W in
theorem Ml{w:World}{K:Frag}{h:Heap}{mg:SV}(X:K.In h)(G:h.Ns mainGlobals mg)
  {C:Addr}
  {f0 f1 f2 f3 f4 f5 f6 f7 f8 f9 f10 f11 f12 f13 f14 f15 f16 f17 f18 f19 f20 N Q R T V W Z f28 f29 f30 f31 f32 f33 f34 f35 f36 f37 f38 f39 f40 f41 f42 f43 f44 f45:Addr}{od0 an0 od1 RR od2 RQ od3 RN od4 an4 od5 an5 od6 an6 od7 an7 od8 an8 od9 an9 od10 an10 od11 an11 od12 an12 od13 an13 od14 an14 od15 an15 od16 an16 od17 an17 od18 an18 od19 an19 od20 an20 od21 an21 od22 an22 od23 an23 od24 an24 od25 an25 od26 an26 od27 an27 od28 an28 od29 an29 od30 an30 od31 an31 od32 an32 od33 an33 od34 an34 od35 an35 od36 an36 od37 an37 od38 an38 od39 an39 od40 an40 od41 an41 od42 an42 od43 an43 od44 an44 od45 an45:Option Addr}{sl0 sl1 sl2 sl3 sl4 sl5 sl6 sl7 sl8 sl9 sl10 sl11 sl12 sl13 sl14 sl15 sl16 sl17 sl18 sl19 sl20 sl21 sl22 sl23 sl24 sl25 sl26 sl27 sl28 sl29 sl30 sl31 sl32 sl33 sl34 sl35 sl36 sl37 sl38 sl39 sl40 sl41 sl42 sl43 sl44 sl45:Array (OV)}{oc0 kV0 dc0 pm0 cd0 ct0 oc1 kV1 dc1 pm1 cd1 ct1 oc2 kV2 dc2 pm2 cd2 ct2 oc3 kV3 dc3 pm3 cd3 ct3 oc4 kV4 dc4 pm4 cd4 ct4 oc5 kV5 dc5 pm5 cd5 ct5 oc6 kV6 dc6 pm6 cd6 ct6 oc7 kV7 dc7 pm7 cd7 ct7 oc8 kV8 dc8 pm8 cd8 ct8 oc9 kV9 dc9 pm9 cd9 ct9 oc10 kV10 dc10 pm10 cd10 ct10 oc11 kV11 dc11 pm11 cd11 ct11 oc12 kV12 dc12 pm12 cd12 ct12 oc13 kV13 dc13 pm13 cd13 ct13 oc14 kV14 dc14 pm14 cd14 ct14 oc15 kV15 dc15 pm15 cd15 ct15 oc16 kV16 dc16 pm16 cd16 ct16 oc17 kV17 dc17 pm17 cd17 ct17 oc18 kV18 dc18 pm18 cd18 ct18 oc19 kV19 dc19 pm19 cd19 ct19 oc20 kV20 dc20 pm20 cd20 ct20 oc21 kV21 dc21 pm21 cd21 ct21 oc22 kV22 dc22 pm22 cd22 ct22 oc23 kV23 dc23 pm23 cd23 ct23 oc24 kV24 dc24 pm24 cd24 ct24 oc25 kV25 dc25 pm25 cd25 ct25 oc26 kV26 dc26 pm26 cd26 ct26 oc27 kV27 dc27 pm27 cd27 ct27 oc28 kV28 dc28 pm28 cd28 ct28 oc29 kV29 dc29 pm29 cd29 ct29 oc30 kV30 dc30 pm30 cd30 ct30 oc31 kV31 dc31 pm31 cd31 ct31 oc32 kV32 dc32 pm32 cd32 ct32 oc33 kV33 dc33 pm33 cd33 ct33 oc34 kV34 dc34 pm34 cd34 ct34 oc35 kV35 dc35 pm35 cd35 ct35 oc36 kV36 dc36 pm36 cd36 ct36 oc37 kV37 dc37 pm37 cd37 ct37 oc38 kV38 dc38 pm38 cd38 ct38 oc39 kV39 dc39 pm39 cd39 ct39 oc40 kV40 dc40 pm40 cd40 ct40 oc41 kV41 dc41 pm41 cd41 ct41 oc42 kV42 dc42 pm42 cd42 ct42 oc43 kV43 dc43 pm43 cd43 ct43 oc44 kV44 dc44 pm44 cd44 ct44 oc45 kV45 dc45 pm45 cd45 ct45:Value}
  (s:nsIn K mainGlobals "Reader"=some (some (.ref C))) (b:plainGet K C Str.empty=true) (k:hasDictIn K C=true) (n:plainOver K C=true) (m:findIn K (.ref C) "__setattr__"=some (some (.builtin "object.__setattr__"))) (cf0:makesIn K C=true) (cg0:keepIn K (.ref C)=true)
  (na0_0:findIn K (.ref C) "marks"=some none)
  (na0_1:findIn K (.ref C) "sought"=some none)
  (na0_2:findIn K (.ref C) "spot"=some none)
  (na0_3:findIn K (.ref C) "text"=some none)
  (na0_4:findIn K (.ref C) "trees"=some none)
  (na0_5:findIn K (.ref C) "wanted"=some none)
  (a0:nsIn K mainGlobals "_law_mix"=some (some (.ref f0)))
  (l0:K.lookup f0=some ⟨oc0,od0,.func (fnOf "_law_mix" "_law_mix" (aN (aK 29)) (aD (aK 29)) (af (aK 29)) .none kV0 dc0 pm0 an0 cd0 ct0),sl0⟩) (c0:codeIn K cd0 "_law_mix"=true) (k0:keepIn K (.ref f0)=true)
  (a1:nsIn K mainGlobals "_law_level"=some (some (.ref f1)))
  (l1:K.lookup f1=some ⟨oc1,od1,.func (fnOf "_law_level" "_law_level" (aN (aK 40)) (aD (aK 40)) (af (aK 40)) .none kV1 dc1 pm1 RR cd1 ct1),sl1⟩) (c1:codeIn K cd1 "_law_level"=true) (k1:keepIn K (.ref f1)=true)
  (a2:nsIn K mainGlobals "_law_written"=some (some (.ref f2)))
  (l2:K.lookup f2=some ⟨oc2,od2,.func (fnOf "_law_written" "_law_written" (aN (aK 41)) (aD (aK 41)) (af (aK 41)) .none kV2 dc2 pm2 RQ cd2 ct2),sl2⟩) (c2:codeIn K cd2 "_law_written"=true) (k2:keepIn K (.ref f2)=true)
  (a3:nsIn K mainGlobals "_law_otherwise"=some (some (.ref f3)))
  (l3:K.lookup f3=some ⟨oc3,od3,.func (fnOf "_law_otherwise" "_law_otherwise" (aN (aK 51)) (aD (aK 51)) (af (aK 51)) .none kV3 dc3 pm3 RN cd3 ct3),sl3⟩) (c3:codeIn K cd3 "_law_otherwise"=true) (k3:keepIn K (.ref f3)=true)
  (a4:nsIn K mainGlobals "_law_at"=some (some (.ref f4)))
  (l4:K.lookup f4=some ⟨oc4,od4,.func (fnOf "_law_at" "_law_at" (aN (aK 28)) (aD (aK 28)) (af (aK 28)) .none kV4 dc4 pm4 an4 cd4 ct4),sl4⟩) (c4:codeIn K cd4 "_law_at"=true) (k4:keepIn K (.ref f4)=true)
  (a5:nsIn K mainGlobals "_law_named"=some (some (.ref f5)))
  (l5:K.lookup f5=some ⟨oc5,od5,.func (fnOf "_law_named" "_law_named" (aN (aK 32)) (aD (aK 32)) (af (aK 32)) .none kV5 dc5 pm5 an5 cd5 ct5),sl5⟩) (c5:codeIn K cd5 "_law_named"=true) (k5:keepIn K (.ref f5)=true)
  (a6:nsIn K mainGlobals "_law_folded"=some (some (.ref f6)))
  (l6:K.lookup f6=some ⟨oc6,od6,.func (fnOf "_law_folded" "_law_folded" (aN (aK 35)) (aD (aK 35)) (af (aK 35)) .none kV6 dc6 pm6 an6 cd6 ct6),sl6⟩) (c6:codeIn K cd6 "_law_folded"=true) (k6:keepIn K (.ref f6)=true)
  (a7:nsIn K mainGlobals "_law_leaf"=some (some (.ref f7)))
  (l7:K.lookup f7=some ⟨oc7,od7,.func (fnOf "_law_leaf" "_law_leaf" (aN (aK 34)) (aD (aK 34)) (af (aK 34)) .none kV7 dc7 pm7 an7 cd7 ct7),sl7⟩) (c7:codeIn K cd7 "_law_leaf"=true) (k7:keepIn K (.ref f7)=true)
  (a8:nsIn K mainGlobals "_law_small"=some (some (.ref f8)))
  (l8:K.lookup f8=some ⟨oc8,od8,.func (fnOf "_law_small" "_law_small" (aN (aK 37)) (aD (aK 37)) (af (aK 37)) .none kV8 dc8 pm8 an8 cd8 ct8),sl8⟩) (c8:codeIn K cd8 "_law_small"=true) (k8:keepIn K (.ref f8)=true)
  (a9:nsIn K mainGlobals "_law_test"=some (some (.ref f9)))
  (l9:K.lookup f9=some ⟨oc9,od9,.func (fnOf "_law_test" "_law_test" (aN (aK 38)) (aD (aK 38)) (af (aK 38)) .none kV9 dc9 pm9 an9 cd9 ct9),sl9⟩) (c9:codeIn K cd9 "_law_test"=true) (k9:keepIn K (.ref f9)=true)
  (a10:nsIn K mainGlobals "_law_depth"=some (some (.ref f10)))
  (l10:K.lookup f10=some ⟨oc10,od10,.func (fnOf "_law_depth" "_law_depth" (aN (aK 33)) (aD (aK 33)) (af (aK 33)) .none kV10 dc10 pm10 an10 cd10 ct10),sl10⟩) (c10:codeIn K cd10 "_law_depth"=true) (k10:keepIn K (.ref f10)=true)
  (a11:nsIn K mainGlobals "_law_condition"=some (some (.ref f11)))
  (l11:K.lookup f11=some ⟨oc11,od11,.func (fnOf "_law_condition" "_law_condition" (aN (aK 39)) (aD (aK 39)) (af (aK 39)) .none kV11 dc11 pm11 an11 cd11 ct11),sl11⟩) (c11:codeIn K cd11 "_law_condition"=true) (k11:keepIn K (.ref f11)=true)
  (a12:nsIn K mainGlobals "_law_run"=some (some (.ref f12)))
  (l12:K.lookup f12=some ⟨oc12,od12,.func (fnOf "_law_run" "_law_run" (aN (aK 42)) (aD (aK 42)) (af (aK 42)) .none kV12 dc12 pm12 an12 cd12 ct12),sl12⟩) (c12:codeIn K cd12 "_law_run"=true) (k12:keepIn K (.ref f12)=true)
  (a13:nsIn K mainGlobals "_law_operand"=some (some (.ref f13)))
  (l13:K.lookup f13=some ⟨oc13,od13,.func (fnOf "_law_operand" "_law_operand" (aN (aK 43)) (aD (aK 43)) (af (aK 43)) .none kV13 dc13 pm13 an13 cd13 ct13),sl13⟩) (c13:codeIn K cd13 "_law_operand"=true) (k13:keepIn K (.ref f13)=true)
  (a14:nsIn K mainGlobals "_law_part"=some (some (.ref f14)))
  (l14:K.lookup f14=some ⟨oc14,od14,.func (fnOf "_law_part" "_law_part" (aN (aK 47)) (aD (aK 47)) (af (aK 47)) .none kV14 dc14 pm14 an14 cd14 ct14),sl14⟩) (c14:codeIn K cd14 "_law_part"=true) (k14:keepIn K (.ref f14)=true)
  (a15:nsIn K mainGlobals "_law_link"=some (some (.ref f15)))
  (l15:K.lookup f15=some ⟨oc15,od15,.func (fnOf "_law_link" "_law_link" (aN (aK 44)) (aD (aK 44)) (af (aK 44)) .none kV15 dc15 pm15 an15 cd15 ct15),sl15⟩) (c15:codeIn K cd15 "_law_link"=true) (k15:keepIn K (.ref f15)=true)
  (a16:nsIn K mainGlobals "_law_done"=some (some (.ref f16)))
  (l16:K.lookup f16=some ⟨oc16,od16,.func (fnOf "_law_done" "_law_done" (aN (aK 46)) (aD (aK 46)) (af (aK 46)) .none kV16 dc16 pm16 an16 cd16 ct16),sl16⟩) (c16:codeIn K cd16 "_law_done"=true) (k16:keepIn K (.ref f16)=true)
  (a17:nsIn K mainGlobals "_law_behind"=some (some (.ref f17)))
  (l17:K.lookup f17=some ⟨oc17,od17,.func (fnOf "_law_behind" "_law_behind" (aN (aK 45)) (aD (aK 45)) (af (aK 45)) .none kV17 dc17 pm17 an17 cd17 ct17),sl17⟩) (c17:codeIn K cd17 "_law_behind"=true) (k17:keepIn K (.ref f17)=true)
  (a18:nsIn K mainGlobals "_law_stop"=some (some (.ref f18)))
  (l18:K.lookup f18=some ⟨oc18,od18,.func (fnOf "_law_stop" "_law_stop" (aN (aK 48)) (aD (aK 48)) (af (aK 48)) .none kV18 dc18 pm18 an18 cd18 ct18),sl18⟩) (c18:codeIn K cd18 "_law_stop"=true) (k18:keepIn K (.ref f18)=true)
  (a19:nsIn K mainGlobals "_law_whole"=some (some (.ref f19)))
  (l19:K.lookup f19=some ⟨oc19,od19,.func (fnOf "_law_whole" "_law_whole" (aN (aK 30)) (aD (aK 30)) (af (aK 30)) .none kV19 dc19 pm19 an19 cd19 ct19),sl19⟩) (c19:codeIn K cd19 "_law_whole"=true) (k19:keepIn K (.ref f19)=true)
  (a20:nsIn K mainGlobals "_law_refused"=some (some (.ref f20)))
  (l20:K.lookup f20=some ⟨oc20,od20,.func (fnOf "_law_refused" "_law_refused" (aN (aK 50)) (aD (aK 50)) (af (aK 50)) .none kV20 dc20 pm20 an20 cd20 ct20),sl20⟩) (c20:codeIn K cd20 "_law_refused"=true) (k20:keepIn K (.ref f20)=true)
  (a21:findIn K (.ref C) "run_of"=some (some (.ref N))) (w21:isFn K (.ref N)=true)
  (l21:K.lookup N=some ⟨oc21,od21,.func (fnOf "run_of" "Reader.run_of" (aN (L2.aa (aK 24) 13)) (aD (L2.aa (aK 24) 13)) (af (L2.aa (aK 24) 13)) .none kV21 dc21 pm21 an21 cd21 ct21),sl21⟩) (c21:codeIn K cd21 "Reader.run_of"=true) (k21:keepIn K (.ref N)=true)
  (a22:findIn K (.ref C) "skip_blanks"=some (some (.ref Q))) (w22:isFn K (.ref Q)=true)
  (l22:K.lookup Q=some ⟨oc22,od22,.func (fnOf "skip_blanks" "Reader.skip_blanks" (aN (L2.aa (aK 24) 12)) (aD (L2.aa (aK 24) 12)) (af (L2.aa (aK 24) 12)) .none kV22 dc22 pm22 an22 cd22 ct22),sl22⟩) (c22:codeIn K cd22 "Reader.skip_blanks"=true) (k22:keepIn K (.ref Q)=true)
  (a23:findIn K (.ref C) "fold"=some (some (.ref R))) (w23:isFn K (.ref R)=true)
  (l23:K.lookup R=some ⟨oc23,od23,.func (fnOf "fold" "Reader.fold" (aN (L2.aa (aK 24) 19)) (aD (L2.aa (aK 24) 19)) (af (L2.aa (aK 24) 19)) .none kV23 dc23 pm23 an23 cd23 ct23),sl23⟩) (c23:codeIn K cd23 "Reader.fold"=true) (k23:keepIn K (.ref R)=true)
  (a24:findIn K (.ref C) "has_sum"=some (some (.ref T))) (w24:isFn K (.ref T)=true)
  (l24:K.lookup T=some ⟨oc24,od24,.func (fnOf "has_sum" "Reader.has_sum" (aN (L2.aa (aK 24) 15)) (aD (L2.aa (aK 24) 15)) (af (L2.aa (aK 24) 15)) .none kV24 dc24 pm24 an24 cd24 ct24),sl24⟩) (c24:codeIn K cd24 "Reader.has_sum"=true) (k24:keepIn K (.ref T)=true)
  (a25:findIn K (.ref C) "last_mark"=some (some (.ref V))) (w25:isFn K (.ref V)=true)
  (l25:K.lookup V=some ⟨oc25,od25,.func (fnOf "last_mark" "Reader.last_mark" (aN (L2.aa (aK 24) 16)) (aD (L2.aa (aK 24) 16)) (af (L2.aa (aK 24) 16)) .none kV25 dc25 pm25 an25 cd25 ct25),sl25⟩) (c25:codeIn K cd25 "Reader.last_mark"=true) (k25:keepIn K (.ref V)=true)
  (a26:findIn K (.ref C) "read_end"=some (some (.ref W))) (w26:isFn K (.ref W)=true)
  (l26:K.lookup W=some ⟨oc26,od26,.func (fnOf "read_end" "Reader.read_end" (aN (L2.aa (aK 24) 11)) (aD (L2.aa (aK 24) 11)) (af (L2.aa (aK 24) 11)) .none kV26 dc26 pm26 an26 cd26 ct26),sl26⟩) (c26:codeIn K cd26 "Reader.read_end"=true) (k26:keepIn K (.ref W)=true)
  (a27:findIn K (.ref C) "touches"=some (some (.ref Z))) (w27:isFn K (.ref Z)=true)
  (l27:K.lookup Z=some ⟨oc27,od27,.func (fnOf "touches" "Reader.touches" (aN (L2.aa (aK 24) 14)) (aD (L2.aa (aK 24) 14)) (af (L2.aa (aK 24) 14)) .none kV27 dc27 pm27 an27 cd27 ct27),sl27⟩) (c27:codeIn K cd27 "Reader.touches"=true) (k27:keepIn K (.ref Z)=true)
  (a28:findIn K (.ref C) "keep"=some (some (.ref f28))) (w28:isFn K (.ref f28)=true)
  (l28:K.lookup f28=some ⟨oc28,od28,.func (fnOf "keep" "Reader.keep" (aN (L2.aa (aK 24) 18)) (aD (L2.aa (aK 24) 18)) (af (L2.aa (aK 24) 18)) .none kV28 dc28 pm28 an28 cd28 ct28),sl28⟩) (c28:codeIn K cd28 "Reader.keep"=true) (k28:keepIn K (.ref f28)=true)
  (a29:findIn K (.ref C) "read_number"=some (some (.ref f29))) (w29:isFn K (.ref f29)=true)
  (l29:K.lookup f29=some ⟨oc29,od29,.func (fnOf "read_number" "Reader.read_number" (aN (L2.aa (aK 24) 3)) (aD (L2.aa (aK 24) 3)) (af (L2.aa (aK 24) 3)) .none kV29 dc29 pm29 an29 cd29 ct29),sl29⟩) (c29:codeIn K cd29 "Reader.read_number"=true) (k29:keepIn K (.ref f29)=true)
  (a30:findIn K (.ref C) "push"=some (some (.ref f30))) (w30:isFn K (.ref f30)=true)
  (l30:K.lookup f30=some ⟨oc30,od30,.func (fnOf "push" "Reader.push" (aN (L2.aa (aK 24) 17)) (aD (L2.aa (aK 24) 17)) (af (L2.aa (aK 24) 17)) .none kV30 dc30 pm30 an30 cd30 ct30),sl30⟩) (c30:codeIn K cd30 "Reader.push"=true) (k30:keepIn K (.ref f30)=true)
  (a31:findIn K (.ref C) "read_letters"=some (some (.ref f31))) (w31:isFn K (.ref f31)=true)
  (l31:K.lookup f31=some ⟨oc31,od31,.func (fnOf "read_letters" "Reader.read_letters" (aN (L2.aa (aK 24) 4)) (aD (L2.aa (aK 24) 4)) (af (L2.aa (aK 24) 4)) .none kV31 dc31 pm31 an31 cd31 ct31),sl31⟩) (c31:codeIn K cd31 "Reader.read_letters"=true) (k31:keepIn K (.ref f31)=true)
  (a32:findIn K (.ref C) "read_beginning"=some (some (.ref f32))) (w32:isFn K (.ref f32)=true)
  (l32:K.lookup f32=some ⟨oc32,od32,.func (fnOf "read_beginning" "Reader.read_beginning" (aN (L2.aa (aK 24) 2)) (aD (L2.aa (aK 24) 2)) (af (L2.aa (aK 24) 2)) .none kV32 dc32 pm32 an32 cd32 ct32),sl32⟩) (c32:codeIn K cd32 "Reader.read_beginning"=true) (k32:keepIn K (.ref f32)=true)
  (a33:findIn K (.ref C) "read_sign"=some (some (.ref f33))) (w33:isFn K (.ref f33)=true)
  (l33:K.lookup f33=some ⟨oc33,od33,.func (fnOf "read_sign" "Reader.read_sign" (aN (L2.aa (aK 24) 6)) (aD (L2.aa (aK 24) 6)) (af (L2.aa (aK 24) 6)) .none kV33 dc33 pm33 an33 cd33 ct33),sl33⟩) (c33:codeIn K cd33 "Reader.read_sign"=true) (k33:keepIn K (.ref f33)=true)
  (a34:findIn K (.ref C) "read_comparison"=some (some (.ref f34))) (w34:isFn K (.ref f34)=true)
  (l34:K.lookup f34=some ⟨oc34,od34,.func (fnOf "read_comparison" "Reader.read_comparison" (aN (L2.aa (aK 24) 7)) (aD (L2.aa (aK 24) 7)) (af (L2.aa (aK 24) 7)) .none kV34 dc34 pm34 an34 cd34 ct34),sl34⟩) (c34:codeIn K cd34 "Reader.read_comparison"=true) (k34:keepIn K (.ref f34)=true)
  (a35:nsIn K mainGlobals "shared_length"=some (some (.ref f35)))
  (l35:K.lookup f35=some ⟨oc35,od35,.func (fnOf "shared_length" "shared_length" (aN (aK 25)) (aD (aK 25)) (af (aK 25)) .none kV35 dc35 pm35 an35 cd35 ct35),sl35⟩) (c35:codeIn K cd35 "shared_length"=true) (k35:keepIn K (.ref f35)=true)
  (a36:findIn K (.ref C) "read_joint"=some (some (.ref f36))) (w36:isFn K (.ref f36)=true)
  (l36:K.lookup f36=some ⟨oc36,od36,.func (fnOf "read_joint" "Reader.read_joint" (aN (L2.aa (aK 24) 8)) (aD (L2.aa (aK 24) 8)) (af (L2.aa (aK 24) 8)) .none kV36 dc36 pm36 an36 cd36 ct36),sl36⟩) (c36:codeIn K cd36 "Reader.read_joint"=true) (k36:keepIn K (.ref f36)=true)
  (a37:findIn K (.ref C) "read_round_end"=some (some (.ref f37))) (w37:isFn K (.ref f37)=true)
  (l37:K.lookup f37=some ⟨oc37,od37,.func (fnOf "read_round_end" "Reader.read_round_end" (aN (L2.aa (aK 24) 9)) (aD (L2.aa (aK 24) 9)) (af (L2.aa (aK 24) 9)) .none kV37 dc37 pm37 an37 cd37 ct37),sl37⟩) (c37:codeIn K cd37 "Reader.read_round_end"=true) (k37:keepIn K (.ref f37)=true)
  (a38:findIn K (.ref C) "read_square_end"=some (some (.ref f38))) (w38:isFn K (.ref f38)=true)
  (l38:K.lookup f38=some ⟨oc38,od38,.func (fnOf "read_square_end" "Reader.read_square_end" (aN (L2.aa (aK 24) 10)) (aD (L2.aa (aK 24) 10)) (af (L2.aa (aK 24) 10)) .none kV38 dc38 pm38 an38 cd38 ct38),sl38⟩) (c38:codeIn K cd38 "Reader.read_square_end"=true) (k38:keepIn K (.ref f38)=true)
  (a39:findIn K (.ref C) "read_behind"=some (some (.ref f39))) (w39:isFn K (.ref f39)=true)
  (l39:K.lookup f39=some ⟨oc39,od39,.func (fnOf "read_behind" "Reader.read_behind" (aN (L2.aa (aK 24) 5)) (aD (L2.aa (aK 24) 5)) (af (L2.aa (aK 24) 5)) .none kV39 dc39 pm39 an39 cd39 ct39),sl39⟩) (c39:codeIn K cd39 "Reader.read_behind"=true) (k39:keepIn K (.ref f39)=true)
  (a40:findIn K (.ref C) "read"=some (some (.ref f40))) (w40:isFn K (.ref f40)=true)
  (l40:K.lookup f40=some ⟨oc40,od40,.func (fnOf "read" "Reader.read" (aN (L2.aa (aK 24) 1)) (aD (L2.aa (aK 24) 1)) (af (L2.aa (aK 24) 1)) .none kV40 dc40 pm40 an40 cd40 ct40),sl40⟩) (c40:codeIn K cd40 "Reader.read"=true) (k40:keepIn K (.ref f40)=true)
  (a41:findIn K (.ref C) "__init__"=some (some (.ref f41))) (w41:isFn K (.ref f41)=true)
  (l41:K.lookup f41=some ⟨oc41,od41,.func (fnOf "__init__" "Reader.__init__" (aN (L2.aa (aK 24) 0)) (aD (L2.aa (aK 24) 0)) (af (L2.aa (aK 24) 0)) .none kV41 dc41 pm41 an41 cd41 ct41),sl41⟩) (c41:codeIn K cd41 "Reader.__init__"=true) (k41:keepIn K (.ref f41)=true)
  (a42:nsIn K mainGlobals "read_condition"=some (some (.ref f42)))
  (l42:K.lookup f42=some ⟨oc42,od42,.func (fnOf "read_condition" "read_condition" (aN (aK 26)) (aD (aK 26)) (af (aK 26)) .none kV42 dc42 pm42 an42 cd42 ct42),sl42⟩) (c42:codeIn K cd42 "read_condition"=true) (k42:keepIn K (.ref f42)=true)
  (a43:nsIn K mainGlobals "_law_right"=some (some (.ref f43)))
  (l43:K.lookup f43=some ⟨oc43,od43,.func (fnOf "_law_right" "_law_right" (aN (aK 52)) (aD (aK 52)) (af (aK 52)) .none kV43 dc43 pm43 an43 cd43 ct43),sl43⟩) (c43:codeIn K cd43 "_law_right"=true) (k43:keepIn K (.ref f43)=true)
  (a44:nsIn K mainGlobals "_law_bent"=some (some (.ref f44)))
  (l44:K.lookup f44=some ⟨oc44,od44,.func (fnOf "_law_bent" "_law_bent" (aN (aK 49)) (aD (aK 49)) (af (aK 49)) .none kV44 dc44 pm44 an44 cd44 ct44),sl44⟩) (c44:codeIn K cd44 "_law_bent"=true) (k44:keepIn K (.ref f44)=true)
  (a45:nsIn K mainGlobals "law"=some (some (.ref f45)))
  (l45:K.lookup f45=some ⟨oc45,od45,.func (fnOf "law" "law" (aN (aK 53)) (aD (aK 53)) (af (aK 53)) .none kV45 dc45 pm45 an45 cd45 ct45),sl45⟩) (c45:codeIn K cd45 "law"=true) (k45:keepIn K (.ref f45)=true)
  {ga0:Addr}{gn0:Nat}{gs0:Array (OV)}{gt0_0 gt0_1 gt0_2 gt0_3 gt0_4 gt0_5:Tok} (glb0:nsIn K mainGlobals "COMPARISONS"=some (some (.ref ga0))) (glt0:K.lookup ga0=some ⟨.type "tuple",none,.seq #[.str "=" gt0_0,.str "!=" gt0_1,.str "<" gt0_2,.str "<=" gt0_3,.str ">" gt0_4,.str ">=" gt0_5] gn0,gs0⟩)
  {gt1:Tok} (glb1:nsIn K mainGlobals "FIGURES"=some (some (.str "0123456789" gt1)))
  {gt2:Tok} (glb2:nsIn K mainGlobals "IS_LEVEL"=some (some (.int 4 gt2)))
  {ga3:Addr}{gn3:Nat}{i j y o H:Int}{gt3_0 gu3_0 gt3_1 gu3_1 gt3_2 gu3_2 gt3_3 gu3_3 gt3_4 gu3_4:Tok} (glb3:nsIn K mainGlobals "KINDS"=some (some (.ref ga3))) (glt3:K.lookup ga3=some ⟨.type "dict",none,.dict #[⟨i,.str "or" gt3_0,.str "or" gu3_0⟩,⟨j,.str "and" gt3_1,.str "and" gu3_1⟩,⟨y,.str "+" gt3_2,.str "plus" gu3_2⟩,⟨o,.str "-" gt3_3,.str "minus" gu3_3⟩,⟨H,.str "*" gt3_4,.str "times" gu3_4⟩] gn3,#[]⟩)
  (gq3_0:i=hashStr w "or")
  (gq3_1:j=hashStr w "and")
  (gq3_2:y=hashStr w "+")
  (gq3_3:o=hashStr w "-")
  (gq3_4:H=hashStr w "*")
  {gt4:Tok} (glb4:nsIn K mainGlobals "LETTERS"=some (some (.str "abcdefghijklmnopqrstuvwxyz" gt4)))
  {ga5:Addr}{gn5:Nat}{S F P A B D E I L M g p q u:Int}{gt5_0 gu5_0 gt5_1 gu5_1 gt5_2 gu5_2 gt5_3 gu5_3 gt5_4 gu5_4 gt5_5 gu5_5 gt5_6 gu5_6 gt5_7 gu5_7 gt5_8 gu5_8 gt5_9 gu5_9 gt5_10 gu5_10 gt5_11 gu5_11 gt5_12 gu5_12 gt5_13 gu5_13:Tok} (glb5:nsIn K mainGlobals "MARK_LEVELS"=some (some (.ref ga5))) (glt5:K.lookup ga5=some ⟨.type "dict",none,.dict #[⟨S,.str "(" gt5_0,.int 0 gu5_0⟩,⟨F,.str "[" gt5_1,.int 0 gu5_1⟩,⟨P,.str "or" gt5_2,.int 1 gu5_2⟩,⟨A,.str "and" gt5_3,.int 2 gu5_3⟩,⟨B,.str "not" gt5_4,.int 3 gu5_4⟩,⟨D,.str "=" gt5_5,.int 4 gu5_5⟩,⟨E,.str "!=" gt5_6,.int 4 gu5_6⟩,⟨I,.str "<" gt5_7,.int 4 gu5_7⟩,⟨L,.str "<=" gt5_8,.int 4 gu5_8⟩,⟨M,.str ">" gt5_9,.int 4 gu5_9⟩,⟨g,.str ">=" gt5_10,.int 4 gu5_10⟩,⟨p,.str "+" gt5_11,.int 5 gu5_11⟩,⟨q,.str "-" gt5_12,.int 5 gu5_12⟩,⟨u,.str "*" gt5_13,.int 6 gu5_13⟩] gn5,#[]⟩)
  (gq5_0:S=hashStr w "(")
  (gq5_1:F=hashStr w "[")
  (gq5_2:P=hashStr w "or")
  (gq5_3:A=hashStr w "and")
  (gq5_4:B=hashStr w "not")
  (gq5_5:D=hashStr w "=")
  (gq5_6:E=hashStr w "!=")
  (gq5_7:I=hashStr w "<")
  (gq5_8:L=hashStr w "<=")
  (gq5_9:M=hashStr w ">")
  (gq5_10:g=hashStr w ">=")
  (gq5_11:p=hashStr w "+")
  (gq5_12:q=hashStr w "-")
  (gq5_13:u=hashStr w "*")
  {gt6:Tok} (glb6:nsIn K mainGlobals "MOST_FIGURES"=some (some (.int 3 gt6)))
  {gt7:Tok} (glb7:nsIn K mainGlobals "MOST_LETTERS"=some (some (.int 10 gt7)))
  {gt8:Tok} (glb8:nsIn K mainGlobals "OR_LEVEL"=some (some (.int 1 gt8)))
  {gt9:Tok} (glb9:nsIn K mainGlobals "PLUS_LEVEL"=some (some (.int 5 gt9)))
  {ga10:Addr}{gn10:Nat}{gs10:Array (OV)}{gt10_0 gt10_1 gt10_2 gt10_3 gt10_4:Tok} (glb10:nsIn K mainGlobals "SUM_KINDS"=some (some (.ref ga10))) (glt10:K.lookup ga10=some ⟨.type "tuple",none,.seq #[.str "number" gt10_0,.str "name" gt10_1,.str "plus" gt10_2,.str "minus" gt10_3,.str "times" gt10_4] gn10,gs10⟩)
  {ga11:Addr}{gn11:Nat}{gs11:Array (OV)}{gt11_0 gt11_1 gt11_2 gt11_3:Tok} (glb11:nsIn K mainGlobals "WORDS"=some (some (.ref ga11))) (glt11:K.lookup ga11=some ⟨.type "tuple",none,.seq #[.str "or" gt11_0,.str "and" gt11_1,.str "not" gt11_2,.str "true" gt11_3] gn11,gs11⟩)
  (z:∀x ∈ IC,nsIn K mainGlobals x=some none)
  (hex:ExsOk K mg Y Rs)
  : TOk w Gv Att Y Rs Tb K mg:=by
 refine⟨hex,λd a=>?_,sc,un,λx hx=>Cm X G (z x hx),λx v t=>?_,λc f hc=>?_⟩
 .rcases ay.mp a with a|a
  .subst a;exact⟨_,_,⟨aq (st:=(aK 29)) l0 c0 k0,(aq (st:=(aK 29)) l0 c0 k0).binds (ps:=["_law_number","_law_place"]) λ_ _ _ _ _ _ r l=>by obtain⟨_,_,rfl⟩:=rF l;rfl,λ_=>av X G a0,λh=>absurd h (by decide +kernel)⟩⟩
  rcases ay.mp a with a|a
  .subst a;exact⟨_,_,⟨aq (st:=(aK 40)) l1 c1 k1,(aq (st:=(aK 40)) l1 c1 k1).binds (ps:=["_law_tree"]) λ_ _ _ _ _ _ r l=>by obtain⟨_,rfl⟩:=xj l;rfl,λ_=>av X G a1,λh=>absurd h (by decide +kernel)⟩⟩
  rcases ay.mp a with a|a
  .subst a;exact⟨_,_,⟨aq (st:=(aK 41)) l2 c2 k2,(aq (st:=(aK 41)) l2 c2 k2).binds (ps:=["_law_tree","_law_number"]) λ_ _ _ _ _ _ r l=>by obtain⟨_,_,rfl⟩:=rF l;rfl,λ_=>av X G a2,λh=>absurd h (by decide +kernel)⟩⟩
  rcases ay.mp a with a|a
  .subst a;exact⟨_,_,⟨aq (st:=(aK 51)) l3 c3 k3,(aq (st:=(aK 51)) l3 c3 k3).binds (ps:=["_law_tree","_law_number"]) λ_ _ _ _ _ _ r l=>by obtain⟨_,_,rfl⟩:=rF l;rfl,λ_=>av X G a3,λh=>absurd h (by decide +kernel)⟩⟩
  rcases ay.mp a with a|a
  .subst a;exact⟨_,_,⟨aq (st:=(aK 28)) l4 c4 k4,(aq (st:=(aK 28)) l4 c4 k4).binds (ps:=["_law_script","_law_k"]) λ_ _ _ _ _ _ r l=>by obtain⟨_,_,rfl⟩:=rF l;rfl,λ_=>av X G a4,λh=>absurd h (by decide +kernel)⟩⟩
  rcases ay.mp a with a|a
  .subst a;exact⟨_,_,⟨aq (st:=(aK 32)) l5 c5 k5,(aq (st:=(aK 32)) l5 c5 k5).binds (ps:=["_law_k","_law_number"]) λ_ _ _ _ _ _ r l=>by obtain⟨_,_,rfl⟩:=rF l;rfl,λ_=>av X G a5,λh=>absurd h (by decide +kernel)⟩⟩
  rcases ay.mp a with a|a
  .subst a;exact⟨_,_,⟨aq (st:=(aK 35)) l6 c6 k6,(aq (st:=(aK 35)) l6 c6 k6).binds (ps:=["_law_stack","_law_words"]) λ_ _ _ _ _ _ r l=>by obtain⟨_,_,rfl⟩:=rF l;rfl,λ_=>av X G a6,λh=>absurd h (by decide +kernel)⟩⟩
  rcases ay.mp a with a|a
  .subst a;exact⟨_,_,⟨aq (st:=(aK 34)) l7 c7 k7,(aq (st:=(aK 34)) l7 c7 k7).binds (ps:=["_law_names","_law_number"]) λ_ _ _ _ _ _ r l=>by obtain⟨_,_,rfl⟩:=rF l;rfl,λ_=>av X G a7,λh=>absurd h (by decide +kernel)⟩⟩
  rcases ay.mp a with a|a
  .subst a;exact⟨_,_,⟨aq (st:=(aK 37)) l8 c8 k8,(aq (st:=(aK 37)) l8 c8 k8).binds (ps:=["_law_names","_law_number"]) λ_ _ _ _ _ _ r l=>by obtain⟨_,_,rfl⟩:=rF l;rfl,λ_=>av X G a8,λh=>absurd h (by decide +kernel)⟩⟩
  rcases ay.mp a with a|a
  .subst a;exact⟨_,_,⟨aq (st:=(aK 38)) l9 c9 k9,(aq (st:=(aK 38)) l9 c9 k9).binds (ps:=["_law_names","_law_number","_law_other"]) λ_ _ _ _ _ _ r l=>by obtain⟨_,_,_,rfl⟩:=Jf l;rfl,λ_=>av X G a9,λh=>absurd h (by decide +kernel)⟩⟩
  rcases ay.mp a with a|a
  .subst a;exact⟨_,_,⟨aq (st:=(aK 33)) l10 c10 k10,(aq (st:=(aK 33)) l10 c10 k10).binds (ps:=["_law_tree"]) λ_ _ _ _ _ _ r l=>by obtain⟨_,rfl⟩:=xj l;rfl,λ_=>av X G a10,λh=>absurd h (by decide +kernel)⟩⟩
  rcases ay.mp a with a|a
  .subst a;exact⟨_,_,⟨aq (st:=(aK 39)) l11 c11 k11,(aq (st:=(aK 39)) l11 c11 k11).binds (ps:=["_law_names","_law_cells","_law_most","_law_denied"]) λ_ _ _ _ _ _ r l=>by obtain⟨_,_,_,_,rfl⟩:=Sa l;rfl,λ_=>av X G a11,λh=>absurd h (by decide +kernel)⟩⟩
  rcases ay.mp a with a|a
  .subst a;exact⟨_,_,⟨aq (st:=(aK 42)) l12 c12 k12,(aq (st:=(aK 42)) l12 c12 k12).binds (ps:=["_law_written_here","_law_at_here"]) λ_ _ _ _ _ _ r l=>by obtain⟨_,_,rfl⟩:=rF l;rfl,λ_=>av X G a12,λh=>absurd h (by decide +kernel)⟩⟩
  rcases ay.mp a with a|a
  .subst a;exact⟨_,_,⟨aq (st:=(aK 43)) l13 c13 k13,(aq (st:=(aK 43)) l13 c13 k13).binds (ps:=["_law_written_here","_law_at_here","_law_opened"]) λ_ _ _ _ _ _ r l=>by obtain⟨_,_,_,rfl⟩:=Jf l;rfl,λ_=>av X G a13,λh=>absurd h (by decide +kernel)⟩⟩
  rcases ay.mp a with a|a
  .subst a;exact⟨_,_,⟨aq (st:=(aK 47)) l14 c14 k14,(aq (st:=(aK 47)) l14 c14 k14).binds (ps:=["_law_written_here","_law_at_here","_law_opened"]) λ_ _ _ _ _ _ r l=>by obtain⟨_,_,_,rfl⟩:=Jf l;rfl,λ_=>av X G a14,λh=>absurd h (by decide +kernel)⟩⟩
  rcases ay.mp a with a|a
  .subst a;exact⟨_,_,⟨aq (st:=(aK 44)) l15 c15 k15,(aq (st:=(aK 44)) l15 c15 k15).binds (ps:=["_law_written_here","_law_at_here"]) λ_ _ _ _ _ _ r l=>by obtain⟨_,_,rfl⟩:=rF l;rfl,λ_=>av X G a15,λh=>absurd h (by decide +kernel)⟩⟩
  rcases ay.mp a with a|a
  .subst a;exact⟨_,_,⟨aq (st:=(aK 46)) l16 c16 k16,(aq (st:=(aK 46)) l16 c16 k16).binds (ps:=["_law_written_here","_law_at_here","_law_opened"]) λ_ _ _ _ _ _ r l=>by obtain⟨_,_,_,rfl⟩:=Jf l;rfl,λ_=>av X G a16,λh=>absurd h (by decide +kernel)⟩⟩
  rcases ay.mp a with a|a
  .subst a;exact⟨_,_,⟨aq (st:=(aK 45)) l17 c17 k17,(aq (st:=(aK 45)) l17 c17 k17).binds (ps:=["_law_written_here","_law_at_here","_law_opened","_law_kind"]) λ_ _ _ _ _ _ r l=>by obtain⟨_,_,_,_,rfl⟩:=Sa l;rfl,λ_=>av X G a17,λh=>absurd h (by decide +kernel)⟩⟩
  rcases ay.mp a with a|a
  .subst a;exact⟨_,_,⟨aq (st:=(aK 48)) l18 c18 k18,(aq (st:=(aK 48)) l18 c18 k18).binds (ps:=["_law_written_here","_law_state"]) λ_ _ _ _ _ _ r l=>by obtain⟨_,_,rfl⟩:=rF l;rfl,λ_=>av X G a18,λh=>absurd h (by decide +kernel)⟩⟩
  rcases ay.mp a with a|a
  .subst a;exact⟨_,_,⟨aq (st:=(aK 30)) l19 c19 k19,(aq (st:=(aK 30)) l19 c19 k19).binds (ps:=["_law_found"]) λ_ _ _ _ _ _ r l=>by obtain⟨_,rfl⟩:=xj l;rfl,λ_=>av X G a19,λh=>absurd h (by decide +kernel)⟩⟩
  rcases ay.mp a with a|a
  .subst a;exact⟨_,_,⟨aq (st:=(aK 50)) l20 c20 k20,(aq (st:=(aK 50)) l20 c20 k20).binds (ps:=["_law_kept","_law_place"]) λ_ _ _ _ _ _ r l=>by obtain⟨_,_,rfl⟩:=rF l;rfl,λ_=>av X G a20,λh=>absurd h (by decide +kernel)⟩⟩
  rcases ay.mp a with a|a
  .subst a;exact⟨_,_,⟨aq (st:=(L2.aa (aK 24) 13)) l21 c21 k21,(aq (st:=(L2.aa (aK 24) 13)) l21 c21 k21).binds (ps:=["self","signs"]) λ_ _ _ _ _ _ r l=>by obtain⟨_,_,rfl⟩:=rF l;rfl,λh=>absurd h (by decide +kernel),λ_=>⟨_,s,av X G s,⟨b,k,n,m⟩,λh=>absurd h (by decide +kernel),λ_=>⟨a21,w21,k21⟩⟩⟩⟩
  rcases ay.mp a with a|a
  .subst a;exact⟨_,_,⟨aq (st:=(L2.aa (aK 24) 12)) l22 c22 k22,(aq (st:=(L2.aa (aK 24) 12)) l22 c22 k22).binds (ps:=["self"]) λ_ _ _ _ _ _ r l=>by obtain⟨_,rfl⟩:=xj l;rfl,λh=>absurd h (by decide +kernel),λ_=>⟨_,s,av X G s,⟨b,k,n,m⟩,λh=>absurd h (by decide +kernel),λ_=>⟨a22,w22,k22⟩⟩⟩⟩
  rcases ay.mp a with a|a
  .subst a;exact⟨_,_,⟨aq (st:=(L2.aa (aK 24) 19)) l23 c23 k23,(aq (st:=(L2.aa (aK 24) 19)) l23 c23 k23).binds (ps:=["self","level"]) λ_ _ _ _ _ _ r l=>by obtain⟨_,_,rfl⟩:=rF l;rfl,λh=>absurd h (by decide +kernel),λ_=>⟨_,s,av X G s,⟨b,k,n,m⟩,λh=>absurd h (by decide +kernel),λ_=>⟨a23,w23,k23⟩⟩⟩⟩
  rcases ay.mp a with a|a
  .subst a;exact⟨_,_,⟨aq (st:=(L2.aa (aK 24) 15)) l24 c24 k24,(aq (st:=(L2.aa (aK 24) 15)) l24 c24 k24).binds (ps:=["self"]) λ_ _ _ _ _ _ r l=>by obtain⟨_,rfl⟩:=xj l;rfl,λh=>absurd h (by decide +kernel),λ_=>⟨_,s,av X G s,⟨b,k,n,m⟩,λh=>absurd h (by decide +kernel),λ_=>⟨a24,w24,k24⟩⟩⟩⟩
  rcases ay.mp a with a|a
  .subst a;exact⟨_,_,⟨aq (st:=(L2.aa (aK 24) 16)) l25 c25 k25,(aq (st:=(L2.aa (aK 24) 16)) l25 c25 k25).binds (ps:=["self"]) λ_ _ _ _ _ _ r l=>by obtain⟨_,rfl⟩:=xj l;rfl,λh=>absurd h (by decide +kernel),λ_=>⟨_,s,av X G s,⟨b,k,n,m⟩,λh=>absurd h (by decide +kernel),λ_=>⟨a25,w25,k25⟩⟩⟩⟩
  rcases ay.mp a with a|a
  .subst a;exact⟨_,_,⟨aq (st:=(L2.aa (aK 24) 11)) l26 c26 k26,(aq (st:=(L2.aa (aK 24) 11)) l26 c26 k26).binds (ps:=["self"]) λ_ _ _ _ _ _ r l=>by obtain⟨_,rfl⟩:=xj l;rfl,λh=>absurd h (by decide +kernel),λ_=>⟨_,s,av X G s,⟨b,k,n,m⟩,λh=>absurd h (by decide +kernel),λ_=>⟨a26,w26,k26⟩⟩⟩⟩
  rcases ay.mp a with a|a
  .subst a;exact⟨_,_,⟨aq (st:=(L2.aa (aK 24) 14)) l27 c27 k27,(aq (st:=(L2.aa (aK 24) 14)) l27 c27 k27).binds (ps:=["self"]) λ_ _ _ _ _ _ r l=>by obtain⟨_,rfl⟩:=xj l;rfl,λh=>absurd h (by decide +kernel),λ_=>⟨_,s,av X G s,⟨b,k,n,m⟩,λh=>absurd h (by decide +kernel),λ_=>⟨a27,w27,k27⟩⟩⟩⟩
  rcases ay.mp a with a|a
  .subst a;exact⟨_,_,⟨aq (st:=(L2.aa (aK 24) 18)) l28 c28 k28,(aq (st:=(L2.aa (aK 24) 18)) l28 c28 k28).binds (ps:=["self","tree","length"]) λ_ _ _ _ _ _ r l=>by obtain⟨_,_,_,rfl⟩:=Jf l;rfl,λh=>absurd h (by decide +kernel),λ_=>⟨_,s,av X G s,⟨b,k,n,m⟩,λh=>absurd h (by decide +kernel),λ_=>⟨a28,w28,k28⟩⟩⟩⟩
  rcases ay.mp a with a|a
  .subst a;exact⟨_,_,⟨aq (st:=(L2.aa (aK 24) 3)) l29 c29 k29,(aq (st:=(L2.aa (aK 24) 3)) l29 c29 k29).binds (ps:=["self"]) λ_ _ _ _ _ _ r l=>by obtain⟨_,rfl⟩:=xj l;rfl,λh=>absurd h (by decide +kernel),λ_=>⟨_,s,av X G s,⟨b,k,n,m⟩,λh=>absurd h (by decide +kernel),λ_=>⟨a29,w29,k29⟩⟩⟩⟩
  rcases ay.mp a with a|a
  .subst a;exact⟨_,_,⟨aq (st:=(L2.aa (aK 24) 17)) l30 c30 k30,(aq (st:=(L2.aa (aK 24) 17)) l30 c30 k30).binds (ps:=["self","mark","wanted"]) λ_ _ _ _ _ _ r l=>by obtain⟨_,_,_,rfl⟩:=Jf l;rfl,λh=>absurd h (by decide +kernel),λ_=>⟨_,s,av X G s,⟨b,k,n,m⟩,λh=>absurd h (by decide +kernel),λ_=>⟨a30,w30,k30⟩⟩⟩⟩
  rcases ay.mp a with a|a
  .subst a;exact⟨_,_,⟨aq (st:=(L2.aa (aK 24) 4)) l31 c31 k31,(aq (st:=(L2.aa (aK 24) 4)) l31 c31 k31).binds (ps:=["self"]) λ_ _ _ _ _ _ r l=>by obtain⟨_,rfl⟩:=xj l;rfl,λh=>absurd h (by decide +kernel),λ_=>⟨_,s,av X G s,⟨b,k,n,m⟩,λh=>absurd h (by decide +kernel),λ_=>⟨a31,w31,k31⟩⟩⟩⟩
  rcases ay.mp a with a|a
  .subst a;exact⟨_,_,⟨aq (st:=(L2.aa (aK 24) 2)) l32 c32 k32,(aq (st:=(L2.aa (aK 24) 2)) l32 c32 k32).binds (ps:=["self","sign"]) λ_ _ _ _ _ _ r l=>by obtain⟨_,_,rfl⟩:=rF l;rfl,λh=>absurd h (by decide +kernel),λ_=>⟨_,s,av X G s,⟨b,k,n,m⟩,λh=>absurd h (by decide +kernel),λ_=>⟨a32,w32,k32⟩⟩⟩⟩
  rcases ay.mp a with a|a
  .subst a;exact⟨_,_,⟨aq (st:=(L2.aa (aK 24) 6)) l33 c33 k33,(aq (st:=(L2.aa (aK 24) 6)) l33 c33 k33).binds (ps:=["self","sign"]) λ_ _ _ _ _ _ r l=>by obtain⟨_,_,rfl⟩:=rF l;rfl,λh=>absurd h (by decide +kernel),λ_=>⟨_,s,av X G s,⟨b,k,n,m⟩,λh=>absurd h (by decide +kernel),λ_=>⟨a33,w33,k33⟩⟩⟩⟩
  rcases ay.mp a with a|a
  .subst a;exact⟨_,_,⟨aq (st:=(L2.aa (aK 24) 7)) l34 c34 k34,(aq (st:=(L2.aa (aK 24) 7)) l34 c34 k34).binds (ps:=["self","sign"]) λ_ _ _ _ _ _ r l=>by obtain⟨_,_,rfl⟩:=rF l;rfl,λh=>absurd h (by decide +kernel),λ_=>⟨_,s,av X G s,⟨b,k,n,m⟩,λh=>absurd h (by decide +kernel),λ_=>⟨a34,w34,k34⟩⟩⟩⟩
  rcases ay.mp a with a|a
  .subst a;exact⟨_,_,⟨aq (st:=(aK 25)) l35 c35 k35,(aq (st:=(aK 25)) l35 c35 k35).binds (ps:=["one","other"]) λ_ _ _ _ _ _ r l=>by obtain⟨_,_,rfl⟩:=rF l;rfl,λ_=>av X G a35,λh=>absurd h (by decide +kernel)⟩⟩
  rcases ay.mp a with a|a
  .subst a;exact⟨_,_,⟨aq (st:=(L2.aa (aK 24) 8)) l36 c36 k36,(aq (st:=(L2.aa (aK 24) 8)) l36 c36 k36).binds (ps:=["self","word"]) λ_ _ _ _ _ _ r l=>by obtain⟨_,_,rfl⟩:=rF l;rfl,λh=>absurd h (by decide +kernel),λ_=>⟨_,s,av X G s,⟨b,k,n,m⟩,λh=>absurd h (by decide +kernel),λ_=>⟨a36,w36,k36⟩⟩⟩⟩
  rcases ay.mp a with a|a
  .subst a;exact⟨_,_,⟨aq (st:=(L2.aa (aK 24) 9)) l37 c37 k37,(aq (st:=(L2.aa (aK 24) 9)) l37 c37 k37).binds (ps:=["self"]) λ_ _ _ _ _ _ r l=>by obtain⟨_,rfl⟩:=xj l;rfl,λh=>absurd h (by decide +kernel),λ_=>⟨_,s,av X G s,⟨b,k,n,m⟩,λh=>absurd h (by decide +kernel),λ_=>⟨a37,w37,k37⟩⟩⟩⟩
  rcases ay.mp a with a|a
  .subst a;exact⟨_,_,⟨aq (st:=(L2.aa (aK 24) 10)) l38 c38 k38,(aq (st:=(L2.aa (aK 24) 10)) l38 c38 k38).binds (ps:=["self"]) λ_ _ _ _ _ _ r l=>by obtain⟨_,rfl⟩:=xj l;rfl,λh=>absurd h (by decide +kernel),λ_=>⟨_,s,av X G s,⟨b,k,n,m⟩,λh=>absurd h (by decide +kernel),λ_=>⟨a38,w38,k38⟩⟩⟩⟩
  rcases ay.mp a with a|a
  .subst a;exact⟨_,_,⟨aq (st:=(L2.aa (aK 24) 5)) l39 c39 k39,(aq (st:=(L2.aa (aK 24) 5)) l39 c39 k39).binds (ps:=["self","sign"]) λ_ _ _ _ _ _ r l=>by obtain⟨_,_,rfl⟩:=rF l;rfl,λh=>absurd h (by decide +kernel),λ_=>⟨_,s,av X G s,⟨b,k,n,m⟩,λh=>absurd h (by decide +kernel),λ_=>⟨a39,w39,k39⟩⟩⟩⟩
  rcases ay.mp a with a|a
  .subst a;exact⟨_,_,⟨aq (st:=(L2.aa (aK 24) 1)) l40 c40 k40,(aq (st:=(L2.aa (aK 24) 1)) l40 c40 k40).binds (ps:=["self"]) λ_ _ _ _ _ _ r l=>by obtain⟨_,rfl⟩:=xj l;rfl,λh=>absurd h (by decide +kernel),λ_=>⟨_,s,av X G s,⟨b,k,n,m⟩,λh=>absurd h (by decide +kernel),λ_=>⟨a40,w40,k40⟩⟩⟩⟩
  rcases ay.mp a with a|a
  .subst a;exact⟨_,_,⟨aq (st:=(L2.aa (aK 24) 0)) l41 c41 k41,(aq (st:=(L2.aa (aK 24) 0)) l41 c41 k41).binds (ps:=["self","text","wanted"]) λ_ _ _ _ _ _ r l=>by obtain⟨_,_,_,rfl⟩:=Jf l;rfl,λh=>absurd h (by decide +kernel),λ_=>⟨_,s,av X G s,⟨b,k,n,m⟩,λ_=>⟨cf0,a41,w41,cg0⟩,λh=>absurd rfl h⟩⟩⟩
  rcases ay.mp a with a|a
  .subst a;exact⟨_,_,⟨aq (st:=(aK 26)) l42 c42 k42,(aq (st:=(aK 26)) l42 c42 k42).binds (ps:=["text"]) λ_ _ _ _ _ _ r l=>by obtain⟨_,rfl⟩:=xj l;rfl,λ_=>av X G a42,λh=>absurd h (by decide +kernel)⟩⟩
  rcases ay.mp a with a|a
  .subst a;exact⟨_,_,⟨aq (st:=(aK 52)) l43 c43 k43,(aq (st:=(aK 52)) l43 c43 k43).binds (ps:=["_law_written_here"]) λ_ _ _ _ _ _ r l=>by obtain⟨_,rfl⟩:=xj l;rfl,λ_=>av X G a43,λh=>absurd h (by decide +kernel)⟩⟩
  rcases ay.mp a with a|a
  .subst a;exact⟨_,_,⟨aq (st:=(aK 49)) l44 c44 k44,(aq (st:=(aK 49)) l44 c44 k44).binds (ps:=["_law_written_here","_law_number","_law_cell"]) λ_ _ _ _ _ _ r l=>by obtain⟨_,_,_,rfl⟩:=Jf l;rfl,λ_=>av X G a44,λh=>absurd h (by decide +kernel)⟩⟩
  rcases ay.mp a with a|a
  .subst a;exact⟨_,_,⟨aq (st:=(aK 53)) l45 c45 k45,(aq (st:=(aK 53)) l45 c45 k45).binds (ps:=["_law_script"]) λ_ _ _ _ _ _ r l=>by obtain⟨_,rfl⟩:=xj l;rfl,λ_=>av X G a45,λh=>absurd h (by decide +kernel)⟩⟩
  cases a
 .unfold Gv at t;by_cases e:x=("COMPARISONS":Str)
  .rw [ae e]at t;subst e;cases t;exact .plain (nM ["=","!=","<","<=",">",">="] (av X G glb0) glt0 (by show 6≤sizeLine;decide) (.cons ⟨_,rfl⟩ (.cons ⟨_,rfl⟩ (.cons ⟨_,rfl⟩ (.cons ⟨_,rfl⟩ (.cons ⟨_,rfl⟩ (.cons ⟨_,rfl⟩ (.nil)))))))) rfl
  rw[ai e]at t;clear e;by_cases e:x=("FIGURES":Str)
  .rw [ae e]at t;subst e;cases t;exact .plain ⟨_,.str "0123456789",av X G glb1,by first|exact rfl|exact⟨_,rfl⟩,λ_ _=>rfl⟩ rfl
  rw[ai e]at t;clear e;by_cases e:x=("IS_LEVEL":Str)
  .rw [ae e]at t;subst e;cases t;exact .plain ⟨_,.int 4,av X G glb2,by first|exact rfl|exact⟨_,rfl⟩,λ_ _=>rfl⟩ rfl
  rw[ai e]at t;clear e;by_cases e:x=("KINDS":Str)
  .rw [ae e]at t;subst e;cases t;exact iY.tab rfl ⟨_,_,_,_,av X G glb3,glt3,⟨rfl,rfl,rfl⟩,rfl,⟨⟨_,rfl⟩,gq3_0,⟨.str "or",⟨_,rfl⟩,λ_ _ _=>rfl⟩,⟨⟨_,rfl⟩,gq3_1,⟨.str "and",⟨_,rfl⟩,λ_ _ _=>rfl⟩,⟨⟨_,rfl⟩,gq3_2,⟨.str "plus",⟨_,rfl⟩,λ_ _ _=>rfl⟩,⟨⟨_,rfl⟩,gq3_3,⟨.str "minus",⟨_,rfl⟩,λ_ _ _=>rfl⟩,⟨⟨_,rfl⟩,gq3_4,⟨.str "times",⟨_,rfl⟩,λ_ _ _=>rfl⟩,trivial⟩⟩⟩⟩⟩,by decide +kernel⟩
  rw[ai e]at t;clear e;by_cases e:x=("LETTERS":Str)
  .rw [ae e]at t;subst e;cases t;exact .plain ⟨_,.str "abcdefghijklmnopqrstuvwxyz",av X G glb4,by first|exact rfl|exact⟨_,rfl⟩,λ_ _=>rfl⟩ rfl
  rw[ai e]at t;clear e;by_cases e:x=("MARK_LEVELS":Str)
  .rw [ae e]at t;subst e;cases t;exact iY.tab rfl ⟨_,_,_,_,av X G glb5,glt5,⟨rfl,rfl,rfl⟩,rfl,⟨⟨_,rfl⟩,gq5_0,⟨.int 0,⟨_,rfl⟩,λ_ _ _=>rfl⟩,⟨⟨_,rfl⟩,gq5_1,⟨.int 0,⟨_,rfl⟩,λ_ _ _=>rfl⟩,⟨⟨_,rfl⟩,gq5_2,⟨.int 1,⟨_,rfl⟩,λ_ _ _=>rfl⟩,⟨⟨_,rfl⟩,gq5_3,⟨.int 2,⟨_,rfl⟩,λ_ _ _=>rfl⟩,⟨⟨_,rfl⟩,gq5_4,⟨.int 3,⟨_,rfl⟩,λ_ _ _=>rfl⟩,⟨⟨_,rfl⟩,gq5_5,⟨.int 4,⟨_,rfl⟩,λ_ _ _=>rfl⟩,⟨⟨_,rfl⟩,gq5_6,⟨.int 4,⟨_,rfl⟩,λ_ _ _=>rfl⟩,⟨⟨_,rfl⟩,gq5_7,⟨.int 4,⟨_,rfl⟩,λ_ _ _=>rfl⟩,⟨⟨_,rfl⟩,gq5_8,⟨.int 4,⟨_,rfl⟩,λ_ _ _=>rfl⟩,⟨⟨_,rfl⟩,gq5_9,⟨.int 4,⟨_,rfl⟩,λ_ _ _=>rfl⟩,⟨⟨_,rfl⟩,gq5_10,⟨.int 4,⟨_,rfl⟩,λ_ _ _=>rfl⟩,⟨⟨_,rfl⟩,gq5_11,⟨.int 5,⟨_,rfl⟩,λ_ _ _=>rfl⟩,⟨⟨_,rfl⟩,gq5_12,⟨.int 5,⟨_,rfl⟩,λ_ _ _=>rfl⟩,⟨⟨_,rfl⟩,gq5_13,⟨.int 6,⟨_,rfl⟩,λ_ _ _=>rfl⟩,trivial⟩⟩⟩⟩⟩⟩⟩⟩⟩⟩⟩⟩⟩⟩,by decide +kernel⟩
  rw[ai e]at t;clear e;by_cases e:x=("MOST_FIGURES":Str)
  .rw [ae e]at t;subst e;cases t;exact .plain ⟨_,.int 3,av X G glb6,by first|exact rfl|exact⟨_,rfl⟩,λ_ _=>rfl⟩ rfl
  rw[ai e]at t;clear e;by_cases e:x=("MOST_LETTERS":Str)
  .rw [ae e]at t;subst e;cases t;exact .plain ⟨_,.int 10,av X G glb7,by first|exact rfl|exact⟨_,rfl⟩,λ_ _=>rfl⟩ rfl
  rw[ai e]at t;clear e;by_cases e:x=("OR_LEVEL":Str)
  .rw [ae e]at t;subst e;cases t;exact .plain ⟨_,.int 1,av X G glb8,by first|exact rfl|exact⟨_,rfl⟩,λ_ _=>rfl⟩ rfl
  rw[ai e]at t;clear e;by_cases e:x=("PLUS_LEVEL":Str)
  .rw [ae e]at t;subst e;cases t;exact .plain ⟨_,.int 5,av X G glb9,by first|exact rfl|exact⟨_,rfl⟩,λ_ _=>rfl⟩ rfl
  rw[ai e]at t;clear e;by_cases e:x=("SUM_KINDS":Str)
  .rw [ae e]at t;subst e;cases t;exact .plain (nM ["number","name","plus","minus","times"] (av X G glb10) glt10 (by show 5≤sizeLine;decide) (.cons ⟨_,rfl⟩ (.cons ⟨_,rfl⟩ (.cons ⟨_,rfl⟩ (.cons ⟨_,rfl⟩ (.cons ⟨_,rfl⟩ (.nil))))))) rfl
  rw[ai e]at t;clear e;by_cases e:x=("WORDS":Str)
  .rw [ae e]at t;subst e;cases t;exact .plain (nM ["or","and","not","true"] (av X G glb11) glt11 (by show 4≤sizeLine;decide) (.cons ⟨_,rfl⟩ (.cons ⟨_,rfl⟩ (.cons ⟨_,rfl⟩ (.cons ⟨_,rfl⟩ (.nil)))))) rfl
  rw[ai e]at t;clear e;cases t
 .obtain⟨x,hx,e⟩:=o_.mp hc;rw[aE]at e;have e1:=bP e.1;have e2:f ∈ x.2:=by simpa using e.2
  subst e1;rcases ay.mp hx with hx|hx
  .subst hx;simp only[ay,List.not_mem_nil,or_false]at e2;rcases e2 with rfl|rfl|rfl|rfl|rfl|rfl
   .exact⟨_,s,⟨b,k,n,m⟩,na0_0⟩
   .exact⟨_,s,⟨b,k,n,m⟩,na0_1⟩
   .exact⟨_,s,⟨b,k,n,m⟩,na0_2⟩
   .exact⟨_,s,⟨b,k,n,m⟩,na0_3⟩
   .exact⟨_,s,⟨b,k,n,m⟩,na0_4⟩
   .exact⟨_,s,⟨b,k,n,m⟩,na0_5⟩
  cases hx
noncomputable def O(u:List Nat):Str:=⟨u.toArray⟩
noncomputable def RK:LS:=["text","spot","sought","wanted","trees","marks"]
def St(g:Str)(u:List Nat)(i:Nat)(w:Str)(p:List P)(q:LS):aV:=
 [.ins "Reader" RK [.p (.str (O u)),.p (.int (i:Int)),.p (.str g),.p (.str w),.ref 1,.ref 2],.lst (p.map .p),.lst (q.map λm=>.p (.str m))]
section
variable(a b c d e f:D)(y:D)(s:Str->GF)(k:Str->GX)
@[simp] theorem UT:fq "text" RK [a,b,c,d,e,f]=some a:=by kernel_rfl
@[simp] theorem K7:fq "spot" RK [a,b,c,d,e,f]=some b:=by kernel_rfl
@[simp] theorem Sb:fq "sought" RK [a,b,c,d,e,f]=some c:=by kernel_rfl
@[simp] theorem US:fq "wanted" RK [a,b,c,d,e,f]=some d:=by kernel_rfl
@[simp] theorem UR:fq "trees" RK [a,b,c,d,e,f]=some e:=by kernel_rfl
@[simp] theorem UQ:fq "marks" RK [a,b,c,d,e,f]=some f:=by kernel_rfl
@[simp] theorem UE:putK "spot" RK=RK:=by kernel_rfl
@[simp] theorem UD:putK "wanted" RK=RK:=by kernel_rfl
@[simp] theorem UG:rB "spot" y RK [a,b,c,d,e,f]=[a,y,c,d,e,f]:=by kernel_rfl
@[simp] theorem UF:rB "wanted" y RK [a,b,c,d,e,f]=[a,b,c,y,e,f]:=by kernel_rfl
@[simp] theorem Ut:RK.length=6:=rfl
@[simp] theorem O3:aT Att "Reader" "text"=true:=by kernel_rfl
@[simp] theorem UY:aT Att "Reader" "spot"=true:=by kernel_rfl
@[simp] theorem UX:aT Att "Reader" "sought"=true:=by kernel_rfl
@[simp] theorem UW:aT Att "Reader" "wanted"=true:=by kernel_rfl
@[simp] theorem UV:aT Att "Reader" "trees"=true:=by kernel_rfl
@[simp] theorem UU:aT Att "Reader" "marks"=true:=by kernel_rfl
@[simp] theorem UP:mT Tb s "Reader" "run_of"=some (s "Reader.run_of"):=by kernel_rfl
@[simp] theorem UO:mT Tb s "Reader" "skip_blanks"=some (s "Reader.skip_blanks"):=by kernel_rfl
@[simp] theorem UN:mT Tb s "Reader" "fold"=some (s "Reader.fold"):=by kernel_rfl
@[simp] theorem UM:mT Tb s "Reader" "has_sum"=some (s "Reader.has_sum"):=by kernel_rfl
@[simp] theorem UL:mT Tb s "Reader" "last_mark"=some (s "Reader.last_mark"):=by kernel_rfl
@[simp] theorem UK:mT Tb s "Reader" "read_end"=some (s "Reader.read_end"):=by kernel_rfl
@[simp] theorem UJ:mT Tb s "Reader" "touches"=some (s "Reader.touches"):=by kernel_rfl
@[simp] theorem UI:mT Tb s "Reader" "keep"=some (s "Reader.keep"):=by kernel_rfl
@[simp] theorem UH:mT Tb s "Reader" "read_number"=some (s "Reader.read_number"):=by kernel_rfl
@[simp] theorem TM:mT Tb s "Reader" "push"=some (s "Reader.push"):=by kernel_rfl
@[simp] theorem TL:mT Tb s "Reader" "read_letters"=some (s "Reader.read_letters"):=by kernel_rfl
@[simp] theorem TK:mT Tb s "Reader" "read_beginning"=some (s "Reader.read_beginning"):=by kernel_rfl
@[simp] theorem TJ:mT Tb s "Reader" "read_sign"=some (s "Reader.read_sign"):=by kernel_rfl
@[simp] theorem TH:mT Tb s "Reader" "read_round_end"=some (s "Reader.read_round_end"):=by kernel_rfl
@[simp] theorem TF:mT Tb s "Reader" "read_behind"=some (s "Reader.read_behind"):=by kernel_rfl
@[simp] theorem TD:mT Tb s "Reader" "read"=some (s "Reader.read"):=by kernel_rfl
@[simp] theorem TC:mT Tb s "Reader" "read_comparison"=some (s "Reader.read_comparison"):=by kernel_rfl
@[simp] theorem TB:mT Tb s "Reader" "read_joint"=some (s "Reader.read_joint"):=by kernel_rfl
@[simp] theorem Tz:mT Tb s "Reader" "read_square_end"=some (s "Reader.read_square_end"):=by kernel_rfl
@[simp] theorem Tn:("read_comparison":Str) ∈ RK↔False:=by simp only[fU];decide +kernel
@[simp] theorem Tl:("read_joint":Str) ∈ RK↔False:=by simp only[fU];decide +kernel
@[simp] theorem Tj:("read_square_end":Str) ∈ RK↔False:=by simp only[fU];decide +kernel
@[simp] theorem Uq:wT Tb k "Reader" "run_of"=some (k "Reader.run_of"):=by kernel_rfl
@[simp] theorem Up:wT Tb k "Reader" "skip_blanks"=some (k "Reader.skip_blanks"):=by kernel_rfl
@[simp] theorem Uo:wT Tb k "Reader" "fold"=some (k "Reader.fold"):=by kernel_rfl
@[simp] theorem Um:wT Tb k "Reader" "has_sum"=some (k "Reader.has_sum"):=by kernel_rfl
@[simp] theorem Ul:wT Tb k "Reader" "last_mark"=some (k "Reader.last_mark"):=by kernel_rfl
@[simp] theorem Uk:wT Tb k "Reader" "read_end"=some (k "Reader.read_end"):=by kernel_rfl
@[simp] theorem Uj:wT Tb k "Reader" "touches"=some (k "Reader.touches"):=by kernel_rfl
@[simp] theorem Ui:wT Tb k "Reader" "keep"=some (k "Reader.keep"):=by kernel_rfl
@[simp] theorem Uh:wT Tb k "Reader" "read_number"=some (k "Reader.read_number"):=by kernel_rfl
@[simp] theorem S4:wT Tb k "Reader" "push"=some (k "Reader.push"):=by kernel_rfl
@[simp] theorem S0:wT Tb k "Reader" "read_letters"=some (k "Reader.read_letters"):=by kernel_rfl
@[simp] theorem SY:wT Tb k "Reader" "read_beginning"=some (k "Reader.read_beginning"):=by kernel_rfl
@[simp] theorem SX:wT Tb k "Reader" "read_sign"=some (k "Reader.read_sign"):=by kernel_rfl
@[simp] theorem SW:wT Tb k "Reader" "read_round_end"=some (k "Reader.read_round_end"):=by kernel_rfl
@[simp] theorem SU:wT Tb k "Reader" "read_behind"=some (k "Reader.read_behind"):=by kernel_rfl
@[simp] theorem SS:wT Tb k "Reader" "read"=some (k "Reader.read"):=by kernel_rfl
@[simp] theorem SR:wT Tb k "Reader" "read_comparison"=some (k "Reader.read_comparison"):=by kernel_rfl
@[simp] theorem SQ:wT Tb k "Reader" "read_joint"=some (k "Reader.read_joint"):=by kernel_rfl
@[simp] theorem SN:wT Tb k "Reader" "read_square_end"=some (k "Reader.read_square_end"):=by kernel_rfl
@[simp] theorem UC:("run_of":Str) ∈ RK↔False:=by simp only[fU];decide +kernel
@[simp] theorem UB:("skip_blanks":Str) ∈ RK↔False:=by simp only[fU];decide +kernel
@[simp] theorem UA:("fold":Str) ∈ RK↔False:=by simp only[fU];decide +kernel
@[simp] theorem Uz:("has_sum":Str) ∈ RK↔False:=by simp only[fU];decide +kernel
@[simp] theorem Uy:("last_mark":Str) ∈ RK↔False:=by simp only[fU];decide +kernel
@[simp] theorem Ux:("read_end":Str) ∈ RK↔False:=by simp only[fU];decide +kernel
@[simp] theorem Uw:("touches":Str) ∈ RK↔False:=by simp only[fU];decide +kernel
@[simp] theorem Uv:("keep":Str) ∈ RK↔False:=by simp only[fU];decide +kernel
@[simp] theorem Uu:("read_number":Str) ∈ RK↔False:=by simp only[fU];decide +kernel
@[simp] theorem Tv:("push":Str) ∈ RK↔False:=by simp only[fU];decide +kernel
@[simp] theorem Tu:("read_letters":Str) ∈ RK↔False:=by simp only[fU];decide +kernel
@[simp] theorem Tt:("read_beginning":Str) ∈ RK↔False:=by simp only[fU];decide +kernel
@[simp] theorem Ts:("read_sign":Str) ∈ RK↔False:=by simp only[fU];decide +kernel
@[simp] theorem Tq:("read_round_end":Str) ∈ RK↔False:=by simp only[fU];decide +kernel
@[simp] theorem Tp:("read_behind":Str) ∈ RK↔False:=by simp only[fU];decide +kernel
@[simp] theorem To:("read":Str) ∈ RK↔False:=by simp only[fU];decide +kernel
end
@[simp] theorem O2(s:List t)(x:t):L2.atI (s++[x]) (-1)=some x:=by
 have h:L2.Cg (s++[x]).length (-1)=some s.length:=by
  unfold L2.Cg;rw[ai (by decide)];rw[aI,me];first
   |(rw[ae (by lia)];congr 1;lia)
   |simp
 unfold L2.atI;rw[h];simp
variable{g w:Str}{u:List Nat}{i:Nat}{p:List P}{q:LS}
theorem la(e:2≤n)(m h:Str)(a:q.length≤1000)(l:m.length≤1000000):ax Gv Att Y Rs Tb n "Reader.push" [.ref 0,.p (.str m),.p (.str h)] (St g u i w p q)=some (.p .non,St g u (i+m.length) h p (q++[m])):=by
 obtain⟨n,rfl⟩:=dN (n:=n) (by first|assumption|lia);have x:q.length≤1000000:=by lia
 rw[n_];simp[bE,jY,St,gH,x,bR,cj,l]
theorem u5(x:2≤n)(t:P)(k:Nat)(m:p.length≤1000):ax Gv Att Y Rs Tb n "Reader.keep" [.ref 0,.p t,.p (.int (k:Int))] (St g u i w p q)=some (.p .non,St g u (i+k) "" (p++[t]) q):=by
 obtain⟨n,rfl⟩:=dN (n:=n) (by first|assumption|lia);have h:p.length≤1000000:=by lia
 rw[oa];simp[bE,jZ,St,gH,h]
theorem wF(h:2≤n):ax Gv Att Y Rs Tb n "Reader.last_mark" [.ref 0] (St g u i w p [])=some (.p (.str ""),St g u i w p []):=by obtain⟨n,rfl⟩:=dN (n:=n) (by first|assumption|lia);rw[gK];simp[bE,ff,St,rk]
theorem nH(h:2≤n)(m:Str):ax Gv Att Y Rs Tb n "Reader.last_mark" [.ref 0] (St g u i w p (q++[m]))=some (.p (.str m),St g u i w p (q++[m])):=by obtain⟨n,rfl⟩:=dN (n:=n) (by first|assumption|lia);rw[gK];simp[bE,ff,St,rk]
inductive Mk where
 |lp|lb|or|an|no|eq|ne|lt|le|gt|ge|pl|mi|ti
noncomputable def Mk.mks:Mk->Str
 | .lp=>"("
 | .lb=>"["
 | .or=>"or"
 | .an=>"and"
 | .no=>"not"
 | .eq=>"="
 | .ne=>"!="
 | .lt=>"<"
 | .le=>"<="
 | .gt=>">"
 | .ge=>">="
 | .pl=>"+"
 | .mi=>"-"
 | .ti=>"*"
noncomputable def Mk.mkl:Mk->Nat
 | .lp | .lb=>0
 | .or=>1
 | .an=>2
 | .no=>3
 | .eq | .ne | .lt | .le | .gt | .ge=>4
 | .pl | .mi=>5
 | .ti=>6
noncomputable def Mk.mkk:Mk->Str
 | .lp | .lb=>""
 | .or=>"or"
 | .an=>"and"
 | .no=>"not"
 | .eq | .ne | .lt | .le | .gt | .ge=>"is"
 | .pl=>"plus"
 | .mi=>"minus"
 | .ti=>"times"
def Mk.mkf(m:Mk)(e o:P):P:=if m.mkl=4 then .tup [.str "is",.str m.mks,e,o] else .tup [.str m.mkk,e,o]
def Mk.two(m:Mk):Bool:=!(m.mkl == 0 ||m.mkl == 3)
def cV:List Mk->Nat
 | []=>0
 |m::r=>cV r+(if m.two then 1 else 0)
def bu(l:Nat):List Mk->List P->List Mk×List P
 | m::q,o::p=>if l≤m.mkl then (if m.mkl=3 then bu l q (.tup [.str "not",o]::p) else match p with
   |e::p=>bu l q (m.mkf e o::p)
   | []=>(m::q,[o])) else (m::q,o::p)
 |q,p=>(q,p)
def Sr(g:Str)(u:List Nat)(i:Nat)(w:Str)(s:List Mk×List P):aV:=St g u i w s.2.reverse (s.1.reverse.map Mk.mks)
theorem Pt(m:Mk):dP m.mks [(("(":Str),P.int 0),("[",.int 0),("or",.int 1),("and",.int 2),("not",.int 3),("=",.int 4),("!=",.int 4),("<",.int 4),("<=",.int 4),(">",.int 4),(">=",.int 4),("+",.int 5),("-",.int 5),("*",.int 6)]=some (.int (m.mkl:Int)):=by cases m<;>kernel_rfl
variable{m:Mk}
theorem TR(h:m.two=true)(x:m.mkl≠4):dP m.mks [(("or":Str),P.str "or"),("and",.str "and"),("+",.str "plus"),("-",.str "minus"),("*",.str "times")]=some (.str m.mkk):=by cases m<;>first|exact absurd rfl x|exact absurd h (by decide)|kernel_rfl
theorem K2(h:m.mkl≠3):¬m.mks=("not":Str):=by cases m<;>first|exact absurd rfl h|decide +kernel
theorem Oh(h:m.mkl=3):m=.no:=by cases m<;>first|rfl|exact absurd h (by decide)
theorem x6(m:Mk)(S:aV):gk (.p (.str m.mks)) (.p (.tup [.str "=",.str "!=",.str "<",.str "<=",.str ">",.str ">="])) S=some (.bl (decide (m.mkl=4))):=by cases m<;>kernel_rfl
theorem va(s C:Str->GF)(k:Str->GX)(l:Nat)(I:1≤l):∀(q:List Mk)(p:List P)(f:Nat)(y z d:Option D),cV q < p.length->q.length < f->p.length≤1000 ->
  ∃a n b,aY (cH (bT (aM (aT Att) aC "marks")) (bV (z_ (n7 [("(",.int 0),("[",.int 0),("or",.int 1),("and",.int 2),("not",.int 3),("=",.int 4),("!=",.int 4),("<",.int 4),("<=",.int 4),(">",.int 4),(">=",.int 4),("+",.int 5),("-",.int 5),("*",.int 6)] (vE (mU (aM (aT Att) aC "marks") (xh kE cz)))) ck))) (dt s C k) f
   [qr 0,qi (l:Int),y,z,d] (Sr g u i w (q,p))=some (.nx,[qr 0,qi (l:Int),a,n,b],Sr g u i w (bu l q p))
 |q,p,0,y,z,d,_,h,_=>by lia
 | [],p,f+1,y,z,d,_,_,_=>by refine⟨y,z,d,?_⟩;rw[bq (h:=Sr g u i w ([],p)) (by simp[Sr,St,rk])];cases p<;>rfl
 |m::q,p,f+1,y,z,d,x,G,v=>by
  by_cases j:l≤m.mkl
  .have c:(l:Int)≤(m.mkl:Int):=by lia
   have F:=Pt m;by_cases H:m.mkl=3
   .have:=Oh H;subst this;match p,x,v with
    | [],x,_=>simp at x
    |o::p,x,v=>
     have r:cV (.no::q)=cV q:=rfl;rw[r]at x;simp only[aA]at x v G;obtain⟨a,n,b,B⟩:=va s C k l I q (.tup [.str "not",o]::p) f (qs Mk.no.mks) (qp o) d (by simpa using x) (by lia) (by simpa using v);refine⟨a,n,b,?_⟩;rw[show bu l (.no::q) (o::p)=bu l q (.tup [.str "not",o]::p) by simp only[bu];rw[ae j,ae H],<- B];have t:p.length≤1000000:=by lia
     have K:Mk.no.mks=("not":Str):=rfl;refine p0 (h:=Sr g u i w (.no::q,o::p)) ?_ ?_
     .simp [Sr,St,rk,F,c,j]
     .simp [dt,Sr,St,gH,K,t]
   .have E:m.two=true:=by
     have:m.mkl≠0:=by lia
     simp[Mk.two,this,H]
    have r:cV (m::q)=cV q+1:=by simp[cV,E]
    rw[r]at x;match p,x,v with
    | [o],x,_=>simp at x
    | [],x,_=>simp at x
    |o::e::p,x,v=>
     simp only[aA]at x v G;obtain⟨a,n,b,B⟩:=va s C k l I q (m.mkf e o::p) f (qs m.mks) (qp o) (qp e) (by simp;lia) (by lia) (by simp;lia);refine⟨a,n,b,?_⟩;rw[show bu l (m::q) (o::e::p)=bu l q (m.mkf e o::p) by simp only[bu];rw[ae j,ai H],<- B];have t:p.length≤1000000:=by lia
     have K:=K2 H;have A:=x6 m;refine dI (h:=Sr g u i w (m::q,o::e::p)) ?_ ?_
     .simp [Sr,St,rk,F,c,j]
     .by_cases S:m.mkl=4
      .simp only[S,decide_true]at A;simp[dt,Sr,St,gH,K,A,t,Mk.mkf,S]
      .simp only[S,decide_false]at A;have L:=TR E S;simp[dt,Sr,St,gH,L,K,A,t,Mk.mkf,S]
  .refine⟨y,z,d,?_⟩;have F:=Pt m;have c:¬(l:Int)≤(m.mkl:Int):=by lia
   rw[bq (h:=Sr g u i w (m::q,p)) (by simp[Sr,St,rk,F,c,j])];match p with
   | []=>rfl
   |o::p=>simp[bu,j]
theorem dF(x:2≤n)(l:Nat)(h:1≤l)(q:List Mk)(p:List P)(o:cV q < p.length)(m:q.length < 1000)(t:p.length≤1000):ax Gv Att Y Rs Tb n "Reader.fold" [.ref 0,.p (.int (l:Int))] (Sr g u i w (q,p))=some (.p .non,Sr g u i w (bu l q p)):=by obtain⟨n,rfl⟩:=dN (n:=n) (by first|assumption|lia);obtain⟨a,s,k,e⟩:=va (g:=g) (u:=u) (i:=i) (w:=w) (ax Gv Att Y Rs Tb (n+1)) (ax Gv Att Y Rs Tb n) (di Gv Att Y Rs Tb (n+1)) l h q p 1000 none none none o m t;rw[oh];unfold bE j5 eD;simp only[aA,eI,aX,ed,g9,dv,pq,List.replicate,pk,fW];rw[e];rfl
variable{g w:Str}{u:List Nat}{i:Nat}{p:List P}{q:LS}
noncomputable def eY(c:Nat)(y:Str):Bool:=!(oR y ⟨#[c]⟩ 0 y.length 1).isEmpty
theorem cn(c:Nat)(y:Str)(S:aV):gk (.p (.str ⟨#[c]⟩)) (.p (.str y)) S=some (.bl (eY c y)):=rfl
@[simp] theorem cM(u:List Nat):(O u).length=u.length:=by simp[O,kO]
@[simp] theorem ki(u:List Nat):(O u).cps.toList=u:=by simp[O]
theorem cP(p:List t)(c:t)(r:List t):L2.atI (p++c::r) (p.length:Int)=some c:=dY (by lia) (by simp)
theorem bZ{k:Int}(x:u.length≤1000000)(h:L2.atI u k=some c):lT (.str (O u)) (.int k)=some (.str ⟨#[c]⟩):=by simp only[lT,cM,ki,h];rw[ae (by rw[fJ];exact x)];rfl
theorem EJ(h:L[0]? = some (qr 0)):aM (aT Att) aC "spot" L (St g u i w p q)=some (.p (.int (i:Int)),St g u i w p q):=by simp[h,St]
theorem LH(h:L[0]? = some (qr 0)):aM (aT Att) aC "text" L (St g u i w p q)=some (.p (.str (O u)),St g u i w p q):=by simp[h,St]
theorem Du(s S:Str->GF)(k:Str->GX)(y:Str)(n:u.length≤1000000):∀(run a o:List Nat)(f:Nat),u=a++(run++o)->(∀c ∈ run,eY c y=true)->(∀c r,o=c::r->eY c y=false)->run.length < f ->
  aY (cH (bV (cy hG (b9 (aM (aT Att) aC "text")))) (bV (cQ gk (mU (aM (aT Att) aC "text") hG) dD))) (e7 s S k) f
   [qr 0,qs y,qi (a.length:Int)] (St g u i w p q)=some (.nx,[qr 0,qs y,qi ((a.length+run.length:Nat):Int)],St g u i w p q)
 |run,a,o,0,_,_,_,h=>by lia
 | [],a,o,f+1,b,_,z,_=>by
  cases o with
  |nil=>
   have t:u.length=a.length:=by rw[b];simp
   have m:a.length≤1000000:=by lia
   rw[bq (h:=St g u i w p q) (by simp[St,bR,cj,n,t,m])];simp
  |cons c r=>
   have t:a.length < u.length:=by rw[b];simp
   have l:(a.length:Int) < (u.length:Int):=by lia
   have v:L2.atI u (a.length:Int)=some c:=by rw[b];exact cP a c r
   have d:=bZ n v;have j:=z c r rfl;rw[bq (h:=St g u i w p q) (by simp[St,bR,cj,n,t,l,d,cn,j])];simp
 |c::run,a,o,f+1,b,H,z,F=>by
  have e:=Du s S k y n run (a++[c]) o f (by rw[b];simp) (λx v=>H x (bn _ v)) z (by simp at F;lia);have t:a.length < u.length:=by rw[b];simp
  have l:(a.length:Int) < (u.length:Int):=by lia
  have v:L2.atI u (a.length:Int)=some c:=by rw[b];exact cP a c _
  have d:=bZ n v;have j:=H c bi;rw[dI (h:=St g u i w p q) (L2:=[qr 0,qs y,qi ((a++[c]).length:Int)]) (x:=St g u i w p q) (by simp[St,bR,cj,n,t,l,d,cn,j]) (by simp[e7])];rw[e];simp;lia
theorem k_(p run o:List Nat):Txt.slice (O (p++(run++o))) (some (p.length:Int)) (some ((p.length+run.length:Nat):Int))=O run:=by
 have h:=FQ (x:=O (p++(run++o))) (i:=(p.length:Int)) (j:=((p.length+run.length:Nat):Int)) ⟨by lia,by lia,by simp;lia⟩;have e:Txt.slice (O (p++(run++o))) (some (p.length:Int)) (some ((p.length+run.length:Nat):Int))=g6 (O (p++(run++o))) (some (p.length:Int)) (some ((p.length+run.length:Nat):Int)):=rfl;rw[e,h];have a:((p.length:Int)).toNat=p.length:=by lia
 have s:(((p.length+run.length:Nat):Int)-(p.length:Int)).toNat=run.length:=by lia
 rw[a,s];simp[O]
theorem kn(l:2≤n)(y:Str)(h run o:List Nat)(a:(h++(run++o)).length≤1000000)(j:∀c ∈ run,eY c y=true)(v:∀c r,o=c::r->eY c y=false)(t:run.length < 1000) :
  ax Gv Att Y Rs Tb n "Reader.run_of" [.ref 0,.p (.str y)] (St g (h++(run++o)) h.length w p q)=some (.p (.str (O run)),St g (h++(run++o)) h.length w p q):=by
 obtain⟨n,rfl⟩:=dN (n:=n) (by first|assumption|lia);have e:=Du (g:=g) (w:=w) (i:=h.length) (p:=p) (q:=q) (ax Gv Att Y Rs Tb (n+1)) (ax Gv Att Y Rs Tb n) (di Gv Att Y Rs Tb (n+1)) y a run h o 1000 rfl j v t;have b:=k_ h run o;rw[mR];generalize m:h++(run++o)=u at *
 have x:u.length≤1000000:=a;have s:=EJ (g:=g) (u:=u) (i:=h.length) (w:=w) (p:=p) (q:=q) (L:=[qr 0,qs y,none]) rfl;have k:=EJ (g:=g) (u:=u) (i:=h.length) (w:=w) (p:=p) (q:=q) (L:=[qr 0,qs y,qi ((h.length+run.length:Nat):Int)]) rfl;have f:=LH (g:=g) (u:=u) (i:=h.length) (w:=w) (p:=p) (q:=q) (L:=[qr 0,qs y,qi ((h.length+run.length:Nat):Int)]) rfl;have d:fC (.str (O u)) (some (h.length:Int)) (some ((h.length+run.length:Nat):Int))=some (.str (O run)):=by simp only[fC,cM];rw[ae (by rw[fJ];exact x),b]
 simp only[bE,iW,eD,bz,IZ,ag,aG,br,U,rj,vE,bM,AR,aA,eI,aX,ed,g9,dv,pq,List.replicate,pk,fW,s,jq,zr,zt,e,k,f,C8,zz,zA,d,l_]
theorem G3(m:3≤n)(h o:List Nat)(k:Nat)(a:(h++(List.replicate k 32++o)).length≤1000000)(b:∀c r,o=c::r->eY c " "=false)(f:k < 1000) :
  ax Gv Att Y Rs Tb n "Reader.skip_blanks" [.ref 0] (St g (h++(List.replicate k 32++o)) h.length w p q)=some (.p .non,St g (h++(List.replicate k 32++o)) (h.length+k) w p q):=by
 obtain⟨n,rfl⟩:=dN (n:=n) (by first|assumption|lia);have e:=kn (g:=g) (w:=w) (p:=p) (q:=q) (n:=n+1) (by lia) " " h (List.replicate k 32) o a (λc s=>by rw[(zo.mp s).2];decide +kernel) b (by simpa using f);rw[jK];have x:k≤1000000:=by lia
 generalize h++(List.replicate k 32++o)=u at *
 simp only[St]at e;simp[bE,gi,St,e,bR,cj,x]
variable{g w:Str}{u:List Nat}{i:Nat}
inductive T where
 |num (n:Nat)|nam (c:List Nat)|bin (m:Mk) (l r:T)
def T.trp:T->P
 | .num n=>.tup [.str "number",.int (n:Int)]
 | .nam c=>.tup [.str "name",.str (O c)]
 | .bin m l r=>m.mkf l.trp r.trp
def ng(t:P):Prop:=∃k r,t=.tup (.str k::r)/\∀S,gk (.p (.str k)) (.p (.tup [.str "number",.str "name",.str "plus",.str "minus",.str "times"])) S=some (.bl true)
theorem vY(x:5≤m.mkl)(a b:P):ng (m.mkf a b):=by
 have h:¬m.mkl=4:=by lia
 exact⟨m.mkk,[a,b],by simp[Mk.mkf,h],λS=>by cases m<;>first|exact absurd x (by decide)|kernel_rfl⟩
def iX(t:P):Prop:=∃k r,t=.tup (.str k::r)/\∀S,gk (.p (.str k)) (.p (.tup [.str "number",.str "name",.str "plus",.str "minus",.str "times"])) S=some (.bl false)
theorem x0:iX (.tup [.str "true"]):=⟨_,_,rfl,λS=>by kernel_rfl⟩
theorem BD(a:P):iX (.tup [.str "not",a]):=⟨_,_,rfl,λS=>by kernel_rfl⟩
theorem si(x:1≤m.mkl)(e:m.mkl≤4)(a b:P):iX (m.mkf a b):=by
 by_cases h:m.mkl=4
 .exact⟨"is",[.str m.mks,a,b],by simp[Mk.mkf,h],λS=>by kernel_rfl⟩
 .exact⟨m.mkk,[a,b],by simp[Mk.mkf,h],λS=>by cases m<;>first|exact absurd x (by decide)|exact absurd e (by decide)|exact absurd rfl h|kernel_rfl⟩
theorem Dd(n:Int):ng (.tup [.str "number",.int n]):=⟨_,_,rfl,λS=>by kernel_rfl⟩
theorem De(x:Str):ng (.tup [.str "name",.str x]):=⟨_,_,rfl,λS=>by kernel_rfl⟩
theorem nL(a:2≤n)(q:List Mk)(t:P)(p:List P)(h:ng t):ax Gv Att Y Rs Tb n "Reader.has_sum" [.ref 0] (Sr g u i w (q,t::p))=some (.p (.bl true),Sr g u i w (q,t::p)):=by obtain⟨n,rfl⟩:=dN (n:=n) (by first|assumption|lia);obtain⟨k,r,rfl,x⟩:=h;rw[iy];simp[bE,fM,Sr,St,x]
theorem kz(a:2≤n)(q:List Mk)(t:P)(p:List P)(h:iX t):ax Gv Att Y Rs Tb n "Reader.has_sum" [.ref 0] (Sr g u i w (q,t::p))=some (.p (.bl false),Sr g u i w (q,t::p)):=by obtain⟨n,rfl⟩:=dN (n:=n) (by first|assumption|lia);obtain⟨k,r,rfl,x⟩:=h;rw[iy];simp[bE,fM,Sr,St,x]
theorem vW(r:2≤n)(a:u.length≤1000000)(h:i=0\/∃c,L2.atI u ((i:Int)-1)=some c/\eY c ("abcdefghijklmnopqrstuvwxyz"++"0123456789")=false) :
  ax Gv Att Y Rs Tb n "Reader.touches" [.ref 0] (St g u i w p q)=some (.p (.bl false),St g u i w p q):=by
 obtain⟨n,rfl⟩:=dN (n:=n) (by first|assumption|lia);rw[iw];by_cases e:i=0
 .subst e;simp[bE,dq,St]
 .rcases h with h|⟨c,k,f⟩
  .exact absurd h e
  .have d:=bZ a k;have m:(0:Int) < (i:Int):=by lia
   have x:0 < i:=by lia
   have b:bH (.str ("abcdefghijklmnopqrstuvwxyz":Str)) (.str ("0123456789":Str))=some (.str ("abcdefghijklmnopqrstuvwxyz"++"0123456789")):=by kernel_rfl
   have s:=λS=>cn c ("abcdefghijklmnopqrstuvwxyz"++"0123456789":Str) S;rw[f]at s;simp[bE,dq,St,d,m,x,-bF,b,s]
noncomputable def dg(n:Nat):List Nat:=(Nat.toDigits 10 n).map Char.toNat
structure Num(n:Int)(c:List Nat):Prop where
 lt:∀x ∈ c,x < 128
 ne:c≠[]
 le:c.length≤3
 al:∀x ∈ c,eY x "0123456789"=true
 nb:∀x ∈ c,eY x " "=false
 z:c[0]? = some 48->c.length=1
 v:fK [.str (O c)]=some (.int n)
theorem KW{n:Nat}(L:3≤n){q:List Mk}{p:List P}(k:Int)(e run o:List Nat)(N:Num k run)(h:(e++(run++o)).length≤1000000)(G:∀c r,o=c::r->eY c "0123456789"=false)(z:p.length≤1000)
  (f:e.length=0\/∃c,L2.atI (e++(run++o)) ((e.length:Int)-1)=some c/\eY c ("abcdefghijklmnopqrstuvwxyz"++"0123456789")=false) :
  ax Gv Att Y Rs Tb n "Reader.read_number" [.ref 0] (Sr g (e++(run++o)) e.length w (q,p))=some (.p .non,Sr g (e++(run++o)) (e.length+run.length) "" (q,.tup [.str "number",.int (k:Int)]::p)):=by
 obtain⟨n,rfl⟩:=dN (n:=n) (by first|assumption|lia);have D:=N.le;have m:=vW (g:=g) (w:=w) (n:=n+1) (by lia) (p:=p.reverse) (q:=q.reverse.map Mk.mks) h f;have v:=kn (g:=g) (w:=w) (n:=n+1) (by lia) (p:=p.reverse) (q:=q.reverse.map Mk.mks) "0123456789" e run o h N.al G (by lia);have s:=u5 (g:=g) (w:=w) (u:=e++(run++o)) (i:=e.length) (n:=n+1) (by lia) (p:=p.reverse) (q:=q.reverse.map Mk.mks) (.tup [.str "number",.int (k:Int)]) run.length (by simpa using z);have A:=N.v;rw[ej];obtain⟨d,F⟩:∃a,run[0]? = some a:=by
  cases run with
  |nil=>exact absurd rfl N.ne
  |cons a b=>exact⟨a,rfl⟩
 have K:lT (.str (O run)) (.int 0)=some (.str ⟨#[d]⟩):=bZ (by lia) (dY (by decide) F);have E:gw [.int (run.length:Int),.int 3]=some (.int (run.length:Int)):=by
  simp only[gw];first
   |(rw[ae (by lia)])
   |(rw[ai (by lia)])
   |(congr 2;lia)
 have l:run.length≤1000000:=by lia
 have S:=N.z;generalize C:e++(run++o)=u at *
 rw[show Sr g u (e.length+run.length) "" (q,.tup [.str "number",.int (k:Int)]::p)=St g u (e.length+run.length) "" (p.reverse++[.tup [.str "number",.int (k:Int)]]) (q.reverse.map Mk.mks) by simp[Sr]];unfold Sr;dsimp only;have I:p.reverse.length≤1000:=by simpa using z
 clear z;generalize p.reverse=Q at *
 generalize q.reverse.map Mk.mks=M at *
 have t:(O run).length=run.length:=cM run;generalize O run=tr at *
 by_cases H:(⟨#[d]⟩:Str)="0"
 .have j:d=48:=by
   have:=dz (λx:Str=>x.cps.toList) H;have B:(("0":Str)).cps.toList=[48]:=by decide +kernel
   rw[B]at this;simpa using this
  have y:run.length=1:=S (by rw[F,j]);rw[y]at s t ⊢;simp only[St]at m v s ⊢;simp at s;simp[bE,bU,m,v,K,H,bR,cj,t,A,s]
 .simp only[St]at m v s ⊢;simp at s;simp[bE,bU,m,v,K,H,bR,cj,t,l,E,A,s]
end My
namespace My
open PySem L2 Ev
variable{b w:Str}{f:List Nat}{i:Nat}
structure Nam(c:List Nat):Prop where
 lt:∀x ∈ c,x < 128
 ne:c≠[]
 le:c.length≤10
 al:∀x ∈ c,eY x "abcdefghijklmnopqrstuvwxyz"=true
 nf:∀x ∈ c,eY x "0123456789"=false
 nb:∀x ∈ c,eY x " "=false
 nw:∀S,gk (.p (.str (O c))) (.p (.tup [.str "or",.str "and",.str "not",.str "true"])) S=some (.bl false)
theorem D0(h:Nam c):¬O c=("true":Str)/\¬O c=("not":Str):=by
 constructor
 .intro e;have:=h.nw []
  rw[e]at this;have k:gk (.p (.str ("true":Str))) (.p (.tup [.str "or",.str "and",.str "not",.str "true"])) []=some (.bl true):=by kernel_rfl
  rw[k]at this;simp at this
 .intro e;have:=h.nw []
  rw[e]at this;have k:gk (.p (.str ("not":Str))) (.p (.tup [.str "or",.str "and",.str "not",.str "true"])) []=some (.bl true):=by kernel_rfl
  rw[k]at this;simp at this
theorem LG:¬("factor":Str)=("part":Str):=by decide +kernel
variable{n:Nat}{s:List Mk}{a:List P}
theorem K8(H:3≤n)(e run p:List Nat)(h:Nam run)(x:(e++(run++p)).length≤1000000)(y:∀c r,p=c::r->eY c "abcdefghijklmnopqrstuvwxyz"=false)(z:a.length≤1000) :
  ax Gv Att Y Rs Tb n "Reader.read_letters" [.ref 0] (Sr b (e++(run++p)) e.length w (s,a))=some (.p .non,Sr b (e++(run++p)) (e.length+run.length) "" (s,.tup [.str "name",.str (O run)]::a)):=by
 obtain⟨n,rfl⟩:=dN (n:=n) (by first|assumption|lia);have j:=h.le;have v:=kn (g:=b) (w:=w) (n:=n+1) (by lia) (p:=a.reverse) (q:=s.reverse.map Mk.mks) "abcdefghijklmnopqrstuvwxyz" e run p x h.al y (by lia);have k:=u5 (g:=b) (w:=w) (u:=e++(run++p)) (i:=e.length) (n:=n+1) (by lia) (p:=a.reverse) (q:=s.reverse.map Mk.mks) (.tup [.str "name",.str (O run)]) run.length (by simpa using z);have o:=h.nw;have t:=(D0 h).1;have m:=(D0 h).2;rw[cO];have l:run.length≤1000000:=by lia
 have u:¬(10:Int) < (run.length:Int):=by lia
 have g:¬10 < run.length:=by lia
 generalize d:e++(run++p)=f at *
 rw[show Sr b f (e.length+run.length) "" (s,.tup [.str "name",.str (O run)]::a)=St b f (e.length+run.length) "" (a.reverse++[.tup [.str "name",.str (O run)]]) (s.reverse.map Mk.mks) by simp[Sr]];unfold Sr;dsimp only;generalize a.reverse=F at *
 generalize s.reverse.map Mk.mks=S at *
 have q:(O run).length=run.length:=cM run;generalize O run=tr at *
 simp only[St]at v k ⊢;simp at k;simp[bE,bw,v,bR,cj,q,l,u,g,t,m,o,k]
theorem OT(S:aV):gk (.p (.str ⟨#[40]⟩)) (.p (.str "0123456789")) S=some (.bl false)/\gk (.p (.str ⟨#[40]⟩)) (.p (.str "abcdefghijklmnopqrstuvwxyz")) S=some (.bl false):=⟨by kernel_rfl,by kernel_rfl⟩
variable{S:aV}{c:Nat}
theorem IG(f:2≤n)(s:eY c "0123456789"=true)(a:∃k d,S[0]? = some (.ins "Reader" RK d)/\k=RK)(h:ax Gv Att Y Rs Tb (n-1) "Reader.read_number" [.ref 0] S=some (.p .non,e)) :
  ax Gv Att Y Rs Tb n "Reader.read_beginning" [.ref 0,.p (.str ⟨#[c]⟩)] S=some (.p .non,e):=by
 obtain⟨n,rfl⟩:=dN (n:=n) (by first|assumption|lia);obtain⟨_,d,x,_⟩:=a;have g:=λS=>cn c "0123456789" S;rw[s]at g;rw[show n+2-1=n+1 by lia]at h;rw[bm];simp[bE,aW,g,x,h]
theorem vG(m:2≤n)(f:eY c "0123456789"=false)(x:eY c "abcdefghijklmnopqrstuvwxyz"=true)(k:∃b d,S[0]? = some (.ins "Reader" RK d)/\b=RK)(h:ax Gv Att Y Rs Tb (n-1) "Reader.read_letters" [.ref 0] S=some (.p .non,e)) :
  ax Gv Att Y Rs Tb n "Reader.read_beginning" [.ref 0,.p (.str ⟨#[c]⟩)] S=some (.p .non,e):=by
 obtain⟨n,rfl⟩:=dN (n:=n) (by first|assumption|lia);obtain⟨_,d,s,_⟩:=k;have a:=λS=>cn c "0123456789" S;rw[f]at a;have g:=λS=>cn c "abcdefghijklmnopqrstuvwxyz" S;rw[x]at g;rw[show n+2-1=n+1 by lia]at h;rw[bm];simp[bE,aW,a,g,s,h]
theorem Q7:(⟨#[40]⟩:Str)="(":=by decide +kernel
theorem Mf(c:3≤n)(s:List Mk)(a:List P)(m:s.length≤1000):ax Gv Att Y Rs Tb n "Reader.read_beginning" [.ref 0,.p (.str ⟨#[40]⟩)] (Sr b f i w (s,a))=some (.p .non,Sr b f (i+1) "factor" (.lp::s,a)):=by
 obtain⟨n,rfl⟩:=dN (n:=n) (by first|assumption|lia);have e:=la (g:=b) (u:=f) (i:=i) (w:=w) (p:=a.reverse) (q:=s.reverse.map Mk.mks) (n:=n+1) (by lia) "(" "factor" (by simpa using m) (by decide +kernel);have l:("(":Str).length=1:=by decide +kernel
 rw[l]at e;rw[bm];rw[show Sr b f (i+1) "factor" (.lp::s,a)=St b f (i+1) "factor" a.reverse (s.reverse.map Mk.mks++[("(":Str)]) by simp[Sr,Mk.mks]];unfold Sr;dsimp only;generalize a.reverse=t at *
 generalize s.reverse.map Mk.mks=r at *
 have h:=λS=>(OT S).1;have x:=λS=>(OT S).2;have k:=Q7;rw[k]at h x;simp only[St]at e ⊢;simp at e;simp[bE,aW,h,x,k,e]
noncomputable def Mk.mkc:Mk->Nat
 | .lp=>40
 | .lb=>91
 | .or=>111
 | .an=>97
 | .no=>110
 | .eq=>61
 | .ne=>33
 | .lt | .le=>60
 | .gt | .ge=>62
 | .pl=>43
 | .mi=>45
 | .ti=>42
theorem Q6{m:Mk}(h:5≤m.mkl):(⟨#[m.mkc]⟩:Str)=m.mks:=by cases m<;>first|exact absurd h (by decide)|decide +kernel
theorem N1{m:Mk}(h:5≤m.mkl)(S:aV):gk (.p (.str m.mks)) (.p (.str "+-*")) S=some (.bl true):=by cases m<;>first|exact absurd h (by decide)|kernel_rfl
variable{m:Mk}
theorem D4(h:5≤m.mkl):m.mks.length=1:=by cases m<;>first|exact absurd h (by decide)|decide +kernel
theorem cC(l:Nat):∀(s:List Mk)(a:List P),(bu l s a).1.length≤s.length/\(bu l s a).2.length≤a.length
 | [],a=>by cases a<;>simp[bu]
 |m::s,[]=>by simp[bu]
 |m::s,[o]=>by
  unfold bu;split
  .split
   .have:=cC l s [.tup [.str "not",o]];simp only[aA]at this ⊢;lia
   .exact⟨ar _,ar _⟩
  .exact⟨ar _,ar _⟩
 |m::s,o::e::a=>by
  unfold bu;split
  .split
   .have:=cC l s (.tup [.str "not",o]::e::a);simp only[aA]at this ⊢;lia
   .have:=cC l s (m.mkf e o::a);simp only[aA]at this ⊢;lia
  .exact⟨ar _,ar _⟩
theorem G4{n:Nat}(z:3≤n){m:Mk}(d:5≤m.mkl)(s:List Mk)(t:P)(a:List P)(h:ng t)(o:cV s < (t::a).length)(v:s.length < 1000)(u:(t::a).length≤1000) :
  ax Gv Att Y Rs Tb n "Reader.read_sign" [.ref 0,.p (.str m.mks)] (Sr b f i w (s,t::a))=some (.p .non,Sr b f (i+1) "factor" (m::(bu m.mkl s (t::a)).1,(bu m.mkl s (t::a)).2)):=by
 obtain⟨n,rfl⟩:=dN (n:=n) (by first|assumption|lia);have k:=nL (g:=b) (u:=f) (i:=i) (w:=w) (n:=n+1) (by lia) s t a h;have c:=dF (g:=b) (u:=f) (i:=i) (w:=w) (n:=n+1) (by lia) m.mkl (by lia) s (t::a) o v u;have l:=(cC m.mkl s (t::a)).1;generalize bu m.mkl s (t::a)=r at *
 obtain⟨x,e⟩:=r;have q:x.length≤1000:=ce l (by lia);have p:=la (g:=b) (u:=f) (i:=i) (w:=w) (p:=e.reverse) (q:=x.reverse.map Mk.mks) (n:=n+1) (by lia) m.mks "factor" (by simpa using q) (by rw[D4 d];decide);rw[D4 d]at p;have g:=Pt m;rw[gJ];rw[show Sr b f (i+1) "factor" (m::(x,e).1,(x,e).2)=St b f (i+1) "factor" e.reverse (x.reverse.map Mk.mks++[m.mks]) by simp[Sr]];unfold Sr at k c ⊢;dsimp only at k c ⊢;generalize e.reverse=y at *
 generalize x.reverse.map Mk.mks=j at *
 generalize (t::a).reverse=S at *
 generalize s.reverse.map Mk.mks=H at *
 simp only[St]at k c p ⊢;simp at p;simp[bE,e_,k,g,c,p]
theorem Md{n:Nat}(p:4≤n){m:Mk}(x:5≤m.mkl)(s:List Mk)(t:P)(a:List P)(h:ng t)(o:cV s < (t::a).length)(k:s.length < 1000)(c:(t::a).length≤1000) :
  ax Gv Att Y Rs Tb n "Reader.read_behind" [.ref 0,.p (.str ⟨#[m.mkc]⟩)] (Sr b f i w (s,t::a))=some (.p .non,Sr b f (i+1) "factor" (m::(bu m.mkl s (t::a)).1,(bu m.mkl s (t::a)).2)):=by
 obtain⟨n,rfl⟩:=dN (n:=n) (by first|assumption|lia);have e:=G4 (b:=b) (f:=f) (i:=i) (w:=w) (n:=n+1) (by lia) x s t a h o k c;have r:=N1 x;rw[Q6 x,aB];generalize Sr b f (i+1) "factor" (m::(bu m.mkl s (t::a)).1,(bu m.mkl s (t::a)).2)=S at *
 unfold Sr at e ⊢;dsimp only at e ⊢;generalize (t::a).reverse=v at *
 generalize s.reverse.map Mk.mks=q at *
 simp only[St]at e ⊢;simp[bE,aw,r,e]
theorem L5(S:aV):gk (.p (.str ⟨#[41]⟩)) (.p (.str "+-*")) S=some (.bl false)/\gk (.p (.str ⟨#[41]⟩)) (.p (.str "=!<>")) S=some (.bl false)/\gk (.p (.str ⟨#[41]⟩)) (.p (.str "abcdefghijklmnopqrstuvwxyz")) S=some (.bl false):=⟨by kernel_rfl,by kernel_rfl,by kernel_rfl⟩
theorem QN:(⟨#[41]⟩:Str)=")":=by decide +kernel
theorem Ha(q:3≤n)(s:List Mk)(a:List P)(o:cV s < a.length)(x:s.length < 1000)(c:a.length≤1000)(m:List Mk)(t:List P)(k:bu 5 s a=(.lp::m,t)) :
  ax Gv Att Y Rs Tb n "Reader.read_round_end" [.ref 0] (Sr b f i w (s,a))=some (.p .non,Sr b f (i+1) w (m,t)):=by
 obtain⟨n,rfl⟩:=dN (n:=n) (by first|assumption|lia);have e:=dF (g:=b) (u:=f) (i:=i) (w:=w) (n:=n+1) (by lia) 5 (by lia) s a o x c;rw[k]at e;have h:=nH (g:=b) (u:=f) (i:=i) (w:=w) (p:=t.reverse) (q:=m.reverse.map Mk.mks) (n:=n+1) (by lia) "(";rw[fw];unfold Sr at e ⊢;simp only[kT,iL,aX,ed,Mk.mks]at e h ⊢;generalize t.reverse=p at *
 generalize m.reverse.map Mk.mks=r at *
 generalize a.reverse=d at *
 generalize s.reverse.map Mk.mks=v at *
 rw[show((5:Nat):Int)=5 from rfl]at e;simp only[St,iL,aX,ed]at e h ⊢;simp[bE,dA,e,h,gH]
theorem Mc(d:4≤n)(s:List Mk)(a:List P)(o:cV s < a.length)(h:s.length < 1000)(q:a.length≤1000)(m:List Mk)(t:List P)(p:bu 5 s a=(.lp::m,t)) :
  ax Gv Att Y Rs Tb n "Reader.read_behind" [.ref 0,.p (.str ⟨#[41]⟩)] (Sr b f i w (s,a))=some (.p .non,Sr b f (i+1) w (m,t)):=by
 obtain⟨n,rfl⟩:=dN (n:=n) (by first|assumption|lia);have e:=Ha (b:=b) (f:=f) (i:=i) (w:=w) (n:=n+1) (by lia) s a o h q m t p;have x:=λS=>(L5 S).1;have k:=λS=>(L5 S).2.1;have c:=λS=>(L5 S).2.2;have r:=QN;rw[aB];generalize Sr b f (i+1) w (m,t)=v at *
 unfold Sr at e ⊢;dsimp only at e ⊢;generalize a.reverse=g at *
 generalize s.reverse.map Mk.mks=u at *
 simp only[St]at e ⊢;rw[r]at x k c;simp[bE,aw,r,x,k,c,e]
variable{b w:Str}{f:List Nat}{i:Nat}
theorem OU(S:aV):gk (.p (.str ⟨#[91]⟩)) (.p (.str "0123456789")) S=some (.bl false)/\gk (.p (.str ⟨#[91]⟩)) (.p (.str "abcdefghijklmnopqrstuvwxyz")) S=some (.bl false):=⟨by kernel_rfl,by kernel_rfl⟩
theorem Q9:(⟨#[91]⟩:Str)="[":=by decide +kernel
theorem Oj:¬("[":Str)="(":=by decide +kernel
theorem Mg(r:3≤n)(s:List Mk)(a:List P)(m:s.length≤1000):ax Gv Att Y Rs Tb n "Reader.read_beginning" [.ref 0,.p (.str ⟨#[91]⟩)] (Sr b f i "part" (s,a))=some (.p .non,Sr b f (i+1) "part" (.lb::s,a)):=by
 obtain⟨n,rfl⟩:=dN (n:=n) (by first|assumption|lia);have e:=la (g:=b) (u:=f) (i:=i) (w:="part") (p:=a.reverse) (q:=s.reverse.map Mk.mks) (n:=n+1) (by lia) "[" "part" (by simpa using m) (by decide +kernel);have l:("[":Str).length=1:=by decide +kernel
 rw[l]at e;rw[bm];rw[show Sr b f (i+1) "part" (.lb::s,a)=St b f (i+1) "part" a.reverse (s.reverse.map Mk.mks++[("[":Str)]) by simp[Sr,Mk.mks]];unfold Sr;dsimp only;generalize a.reverse=p at *
 generalize s.reverse.map Mk.mks=t at *
 have h:=λS=>(OU S).1;have x:=λS=>(OU S).2;have k:=Q9;have c:=Oj;rw[k]at h x;simp only[St]at e ⊢;simp at e;simp[bE,aW,h,x,k,c,e]
noncomputable def gv:List Nat:=[116,114,117,101]
noncomputable def tNot:List Nat:=[110,111,116]
theorem qy:O gv=("true":Str):=by decide +kernel
theorem Ar:O tNot=("not":Str):=by decide +kernel
theorem not_true:¬("not":Str)="true":=by decide +kernel
theorem IK:∀c ∈ gv,eY c "abcdefghijklmnopqrstuvwxyz"=true:=by decide +kernel
theorem Mm:∀c ∈ tNot,eY c "abcdefghijklmnopqrstuvwxyz"=true:=by decide +kernel
theorem GQ(d:3≤n)(e p:List Nat)(h:(e++(gv++p)).length≤1000000)(q:∀c r,p=c::r->eY c "abcdefghijklmnopqrstuvwxyz"=false)(v:a.length≤1000) :
  ax Gv Att Y Rs Tb n "Reader.read_letters" [.ref 0] (Sr b (e++(gv++p)) e.length "part" (s,a))=some (.p .non,Sr b (e++(gv++p)) (e.length+4) "" (s,.tup [.str "true"]::a)):=by
 obtain⟨n,rfl⟩:=dN (n:=n) (by first|assumption|lia);have x:=kn (g:=b) (w:="part") (n:=n+1) (by lia) (p:=a.reverse) (q:=s.reverse.map Mk.mks) "abcdefghijklmnopqrstuvwxyz" e gv p h IK q (by decide);rw[qy]at x;have k:=u5 (g:=b) (w:="part") (u:=e++(gv++p)) (i:=e.length) (n:=n+1) (by lia) (p:=a.reverse) (q:=s.reverse.map Mk.mks) (.tup [.str "true"]) 4 (by simpa using v);rw[cO];generalize m:e++(gv++p)=f at *
 rw[show Sr b f (e.length+4) "" (s,.tup [.str "true"]::a)=St b f (e.length+4) "" (a.reverse++[.tup [.str "true"]]) (s.reverse.map Mk.mks) by simp[Sr]];unfold Sr;dsimp only;generalize a.reverse=g at *
 generalize s.reverse.map Mk.mks=u at *
 have t:("true":Str).length=4:=by decide +kernel
 simp only[St]at x k ⊢;simp at k;simp[bE,bw,x,bR,cj,t,k]
theorem KY(u:3≤n)(e p:List Nat)(h:(e++(tNot++p)).length≤1000000)(d:∀c r,p=c::r->eY c "abcdefghijklmnopqrstuvwxyz"=false)(v:s.length≤1000) :
  ax Gv Att Y Rs Tb n "Reader.read_letters" [.ref 0] (Sr b (e++(tNot++p)) e.length "part" (s,a))=some (.p .non,Sr b (e++(tNot++p)) (e.length+3) "part" (.no::s,a)):=by
 obtain⟨n,rfl⟩:=dN (n:=n) (by first|assumption|lia);have k:=kn (g:=b) (w:="part") (n:=n+1) (by lia) (p:=a.reverse) (q:=s.reverse.map Mk.mks) "abcdefghijklmnopqrstuvwxyz" e tNot p h Mm d (by decide);rw[Ar]at k;have x:=la (g:=b) (w:="part") (u:=e++(tNot++p)) (i:=e.length) (n:=n+1) (by lia) (p:=a.reverse) (q:=s.reverse.map Mk.mks) "not" "part" (by simpa using v) (by decide +kernel);have t:("not":Str).length=3:=by decide +kernel
 rw[t]at x;rw[cO];generalize q:e++(tNot++p)=f at *
 rw[show Sr b f (e.length+3) "part" (.no::s,a)=St b f (e.length+3) "part" a.reverse (s.reverse.map Mk.mks++[("not":Str)]) by simp[Sr,Mk.mks]];unfold Sr;dsimp only;generalize a.reverse=j at *
 generalize s.reverse.map Mk.mks=g at *
 have m:=not_true;simp only[St]at k x ⊢;simp at x;simp[bE,bw,k,bR,cj,t,m,x]
def lu:List Mk->Str
 | []=>""
 |m::_=>m.mks
theorem mG(h:2≤n)(s:List Mk)(a:List P):ax Gv Att Y Rs Tb n "Reader.last_mark" [.ref 0] (Sr b f i w (s,a))=some (.p (.str (lu s)),Sr b f i w (s,a)):=by
 cases s with
 |nil=>exact wF h
 |cons m s=>have e:=nH (g:=b) (u:=f) (i:=i) (w:=w) (p:=a.reverse) (q:=s.reverse.map Mk.mks) h m.mks;rw[show Sr b f i w (m::s,a)=St b f i w a.reverse (s.reverse.map Mk.mks++[m.mks]) by simp[Sr]];exact e
theorem HK(h:∀m r,s=m::r->m.mkl≠4/\m≠.lp):¬lu s=("(":Str)/\∀S,gk (.p (.str (lu s))) (.p (.tup [.str "=",.str "!=",.str "<",.str "<=",.str ">",.str ">="])) S=some (.bl false):=by
 cases s with
 |nil=>exact⟨by decide +kernel,λS=>by kernel_rfl⟩
 |cons m r=>
  have ⟨x,a⟩:=h m r rfl;refine⟨?_,λS=>?_⟩
  .show ¬m.mks=("(":Str);clear h;cases m<;>first|exact absurd rfl a|decide +kernel
  .have:=x6 m S;rw[cT x]at this;exact this
noncomputable def Mk.tx:Mk->List Nat
 | .lp=>[40]
 | .lb=>[91]
 | .or=>[111,114]
 | .an=>[97,110,100]
 | .no=>[110,111,116]
 | .eq=>[61]
 | .ne=>[33,61]
 | .lt=>[60]
 | .le=>[60,61]
 | .gt=>[62]
 | .ge=>[62,61]
 | .pl=>[43]
 | .mi=>[45]
 | .ti=>[42]
theorem AD(m:Mk):O m.tx=m.mks:=by cases m<;>decide +kernel
theorem uY(m:Mk):m.mks.length=m.tx.length:=by cases m<;>decide +kernel
variable{b w:Str}{f:List Nat}{i:Nat}
noncomputable def d7(c:Nat):Bool:=decide (48≤c) && decide (c≤57)
noncomputable def bS(c:Nat):Bool:=decide (97≤c) && decide (c≤122)
noncomputable def wJ(c:Nat):Bool:=c == 43 ||c == 45 ||c == 42
theorem cR:∀c < 128,eY c "0123456789"=d7 c/\eY c "abcdefghijklmnopqrstuvwxyz"=bS c/\eY c " "=(c == 32)/\eY c "+-*"=wJ c/\eY c "abcdefghijklmnopqrstuvwxyz0123456789"=(bS c ||d7 c)/\eY c ("abcdefghijklmnopqrstuvwxyz"++"0123456789")=(bS c ||d7 c):=by decide +kernel
theorem gE(h:Str.ofString r=⟨#[k]⟩):((⟨#[c]⟩:Str)=Str.ofString r)=(c=k):=by rw[h];exact propext ⟨λe=>by simpa using dz (λx:Str=>x.cps.toList) e,λe=>by rw[e]⟩
theorem qF(c:Nat):((⟨#[c]⟩:Str)=Str.ofString "(")=(c=40):=gE (by decide +kernel)
theorem BB(c:Nat):((⟨#[c]⟩:Str)=Str.ofString ")")=(c=41):=gE (by decide +kernel)
theorem wu(c:Nat):((⟨#[c]⟩:Str)=Str.ofString "[")=(c=91):=gE (by decide +kernel)
theorem HA(c:Nat):((⟨#[c]⟩:Str)=Str.ofString "]")=(c=93):=gE (by decide +kernel)
theorem KR(c:Nat):((⟨#[c]⟩:Str)=Str.ofString " ")=(c=32):=gE (by decide +kernel)
theorem FL(c:Nat):((⟨#[c]⟩:Str)=Str.ofString "0")=(c=48):=gE (by decide +kernel)
@[simp] theorem Us:("NoText":Str) ∈ Rs:=by decide +kernel
def Rz(n:Nat)(f:Str)(d:List D)(S:aV)(p:Nat):Prop:=ax Gv Att Y Rs Tb n f d S=none/\∃h,di Gv Att Y Rs Tb n f d S=some ((("NoText":Str),some (("place":Str),P.int (p:Int))),h)
variable{l:Nat}
theorem HB(K:3≤n)(e run p:List Nat)(y:run[0]? = some g)(i:l=if g=48 then 1 else min run.length 3)(t:l < run.length)(F:∀c ∈ run,eY c "0123456789"=true)(m:(e++(run++p)).length≤1000000)(S:∀c r,p=c::r->eY c "0123456789"=false)(H:run.length < 1000)
  (d:e.length=0\/∃c,L2.atI (e++(run++p)) ((e.length:Int)-1)=some c/\eY c ("abcdefghijklmnopqrstuvwxyz"++"0123456789")=false) :
  Rz n "Reader.read_number" [.ref 0] (Sr b (e++(run++p)) e.length w (s,a)) (e.length+l):=by
 obtain⟨n,rfl⟩:=dN (n:=n) (by first|assumption|lia);have q:=vW (g:=b) (w:=w) (n:=n+1) (by lia) (p:=a.reverse) (q:=s.reverse.map Mk.mks) m d;have v:=kn (g:=b) (w:=w) (n:=n+1) (by lia) (p:=a.reverse) (q:=s.reverse.map Mk.mks) "0123456789" e run p m F S H;have u:lT (.str (O run)) (.int 0)=some (.str ⟨#[g]⟩):=bZ (by lia) (dY (by decide) y);have x:run.length≤1000000:=by lia
 generalize o:e++(run++p)=f at *
 unfold Sr Rz;dsimp only;generalize a.reverse=A at *
 generalize s.reverse.map Mk.mks=P at *
 have k:(O run).length=run.length:=cM run;generalize O run=tr at *
 rw[ej,fN];simp only[St]at q v ⊢;by_cases z:g=48
 .rw [ae z]at i;subst i;have h:(1:Int) < (run.length:Int):=by lia
  exact⟨by simp[bE,bU,q,v,u,FL,z,bR,cj,k,x,t,h,bz],_,by simp[a_,fnX,cK,q,v,u,FL,z,bR,cj,k,x,t,h];rfl⟩
 .rw [ai z]at i;have j:gw [.int (run.length:Int),.int 3]=some (.int (l:Int)):=by
   simp only[gw];congr 2;split<;>lia
  have h:(l:Int) < (run.length:Int):=by lia
  exact⟨by simp[bE,bU,q,v,u,FL,z,bR,cj,k,x,t,h,j,bz],_,by simp[a_,fnX,cK,q,v,u,FL,z,bR,cj,k,x,t,h,j];rfl⟩
theorem jj{c:List Nat}(h:∀x ∈ c,x < 128):oK (O c)=true:=by
 show(O c).cps.all (λc=>decide (c < 0x110000))=true;rw[Array.all_eq_true_iff_forall_mem];intro x a;have:=h x (by simpa[O] using a)
 exact gn (by lia)
noncomputable def Ch(x:Str):Bool:=decide (x=("or":Str)) ||decide (x=("and":Str)) ||decide (x=("not":Str)) ||decide (x=("true":Str))
variable{x:Str}
theorem EC(s:oK x=true)(S:aV):gk (.p (.str x)) (.p (.tup [.str "or",.str "and",.str "not",.str "true"])) S=some (.bl (Ch x)):=by
 have e:∀a b:Str,gz (.str a) (.str b)=decide (b=a):=λa b=>by
  rw[show gz (.str a) (.str b)=(a == b) from rfl];by_cases h:a=b
  .simp [h]
  .simp [h,cI h]
 have o:jl 19 (.str x)=true:=s;show lZ P.bl (if (List.all _ (jl 19) && jl 19 (.str x))=true then _ else _)=_;rw[o,yZ,ae (by decide +kernel)];simp only[fE,t4,pd,e,oS,l_,Ch,y4]
theorem HP(h:Ch x=true):x.length≤4:=by simp only[Ch,fD,gY]at h;rcases h with ((rfl|rfl)|rfl)|rfl<;>decide +kernel
theorem HH(P:3≤n)(e run p:List Nat)(z:∀c ∈ run,c < 128)(S:10 < run.length/\k=10\/run.length≤10/\Ch (O run)=true/\(w="part"->¬O run=("true":Str)/\¬O run=("not":Str))/\k=run.length)(g:w="part"\/w="factor")(F:∀c ∈ run,eY c "abcdefghijklmnopqrstuvwxyz"=true)(q:(e++(run++p)).length≤1000000)(K:∀c r,p=c::r->eY c "abcdefghijklmnopqrstuvwxyz"=false)(H:run.length < 1000) :
  Rz n "Reader.read_letters" [.ref 0] (Sr b (e++(run++p)) e.length w (s,a)) (e.length+k):=by
 obtain⟨n,rfl⟩:=dN (n:=n) (by first|assumption|lia);have x:=kn (g:=b) (w:=w) (n:=n+1) (by lia) (p:=a.reverse) (q:=s.reverse.map Mk.mks) "abcdefghijklmnopqrstuvwxyz" e run p q F K H;have v:=EC (jj z);have h:run.length≤1000000:=by lia
 generalize o:e++(run++p)=f at *
 unfold Sr Rz;dsimp only;generalize a.reverse=B at *
 generalize s.reverse.map Mk.mks=A at *
 have t:(O run).length=run.length:=cM run;generalize O run=tr at *
 rw[cO,i6];simp only[St]at x ⊢;rcases S with ⟨u,rfl⟩|⟨u,l,y,rfl⟩
 .have m:(10:Int) < (run.length:Int):=by lia
  exact⟨by simp[bE,bw,x,bR,cj,t,h,u,m,bz],_,by simp[a_,fnX,cE,x,bR,cj,t,h,u,m];rfl⟩
 .have m:¬(10:Int) < (run.length:Int):=by lia
  have d:¬10 < run.length:=by lia
  rw[l]at v;rcases g with rfl|rfl
  .obtain⟨i,j⟩:=y rfl;exact⟨by simp[bE,bw,x,bR,cj,t,h,m,d,i,j,v,bz],_,by simp[a_,fnX,cE,x,bR,cj,t,h,m,d,i,j,v];rfl⟩
  .exact⟨by simp[bE,bw,x,bR,cj,t,h,m,d,v,bz],_,by simp[a_,fnX,cE,x,bR,cj,t,h,m,d,v];rfl⟩
theorem BC(a:3≤n)(t:ax Gv Att Y Rs Tb (n-1) "Reader.touches" [.ref 0] (Sr b f i w h)=some (.p (.bl true),Sr b f i w h)):Rz n "Reader.read_number" [.ref 0] (Sr b f i w h) i:=by
 obtain⟨n,rfl⟩:=dN (n:=n) (by first|assumption|lia);rw[show n+2-1=n+1 by lia]at t;unfold Rz;rw[ej,fN];obtain⟨d,x,s⟩:∃d,(Sr b f i w h)[0]? = some (.ins "Reader" RK d)/\fq "spot" RK d=qi (i:Int):=⟨_,rfl,by rw[K7]⟩;generalize Sr b f i w h=S at *
 exact⟨by simp[bE,bU,x,t,bz],_,by simp[a_,fnX,cK,x,s,t];rfl⟩
theorem qq(b:Str)(f:List Nat)(i:Nat)(w:Str)(s:List Mk×List P):∃d,(Sr b f i w s)[0]? = some (.ins "Reader" RK d):=⟨_,rfl⟩
theorem Ft(b:2≤n)(s:∃d,S[0]? = some (.ins "Reader" RK d))(k:eY c "0123456789"=true)(h:Rz (n-1) "Reader.read_number" [.ref 0] S p):Rz n "Reader.read_beginning" [.ref 0,.p (.str ⟨#[c]⟩)] S p:=by obtain⟨n,rfl⟩:=dN (n:=n) (by first|assumption|lia);have g:=λS=>cn c "0123456789" S;rw[k]at g;rw[show n+2-1=n+1 by lia]at h;obtain⟨a,f,e⟩:=h;unfold Rz;rw[bm,dj];obtain⟨d,x⟩:=s;exact⟨by simp[bE,aW,g,x,a,bz],_,by simp[a_,fnX,bQ,g,x,e];rfl⟩
theorem Me(r:2≤n)(f:∃d,S[0]? = some (.ins "Reader" RK d))(b:eY c "0123456789"=false)(x:eY c "abcdefghijklmnopqrstuvwxyz"=true)(h:Rz (n-1) "Reader.read_letters" [.ref 0] S p):Rz n "Reader.read_beginning" [.ref 0,.p (.str ⟨#[c]⟩)] S p:=by obtain⟨n,rfl⟩:=dN (n:=n) (by first|assumption|lia);have a:=λS=>cn c "0123456789" S;rw[b]at a;have g:=λS=>cn c "abcdefghijklmnopqrstuvwxyz" S;rw[x]at g;rw[show n+2-1=n+1 by lia]at h;obtain⟨s,m,k⟩:=h;unfold Rz;rw[bm,dj];obtain⟨d,e⟩:=f;exact⟨by simp[bE,aW,a,g,e,s,bz],_,by simp[a_,fnX,bQ,a,g,e,k];rfl⟩
theorem IH(r:2≤n)(k:eY c "0123456789"=false)(e:eY c "abcdefghijklmnopqrstuvwxyz"=false)(a:c≠40)(m:w="factor"\/c≠91):Rz n "Reader.read_beginning" [.ref 0,.p (.str ⟨#[c]⟩)] (Sr b f i w h) i:=by
 obtain⟨n,rfl⟩:=dN (n:=n) (by first|assumption|lia);have x:=λS=>cn c "0123456789" S;rw[k]at x;have g:=λS=>cn c "abcdefghijklmnopqrstuvwxyz" S;rw[e]at g;unfold Rz;rw[bm,dj];simp only[Sr,St];rcases m with rfl|s
 .exact⟨by simp[bE,aW,x,g,qF,wu,a,bz],_,by simp[a_,fnX,bQ,x,g,qF,wu,a];rfl⟩
 .exact⟨by simp[bE,aW,x,g,qF,wu,a,s,bz],_,by simp[a_,fnX,bQ,x,g,qF,wu,a,s];rfl⟩
variable{b w:Str}{f:List Nat}{i:Nat}
noncomputable def gN:List Mk->List Bool
 | []=>[]
 | .lp::r=>true::gN r
 | .lb::r=>false::gN r
 |_::r=>gN r
def Ct:List Mk->Prop
 | []=>True
 |m::r=>(m=.lb\/1≤m.mkl/\m.mkl≤3)/\Ct r
def Fa(k:Bool):List Mk->Prop
 | []=>k=false
 |m::r=>(5≤m.mkl\/m=.lp)/\Fa k r\/m.mkl=4/\k=true/\Ct r\/k=false/\Ct (m::r)
theorem Ct.fa:∀{s:List Mk},Ct s->Fa false s
 | [],_=>rfl
 |m::r,h=>.inr (.inr ⟨rfl,h⟩)
theorem i'(h:m.mkl≠0)(r:List Mk):gN (m::r)=gN r:=by cases m<;>first|rfl|exact absurd rfl h
theorem Ct.head:∀{s:List Mk},Ct s->(gN s).head?≠some true
 | [],_=>λz=>nomatch z
 |m::r,⟨h,x⟩=>by
  rcases h with rfl|⟨h,_⟩
  .exact λz=>nomatch z
  .rw [i' (by lia)];exact Ct.head x
theorem jE(h:m.two=true)(r:List Mk):cV (m::r)=cV r+1:=by simp[cV,h]
theorem nG(h:m.two=false)(r:List Mk):cV (m::r)=cV r:=by simp[cV,h]
theorem lH(h:m.mkl≠0)(x:m.mkl≠3):m.two=true:=by simp[Mk.two,h,x]
theorem JO(h:m.mkl=0\/m.mkl=3):m.two=false:=by rcases h with h|h<;>simp[Mk.two,h]
theorem jn(h:m.mkl < l)(r:List Mk)(a:List P):bu l (m::r) a=(m::r,a):=by
 cases a with
 |nil=>rfl
 |cons t a=>unfold bu;rw[ai (by lia)]
theorem kB(l:Nat)(a:List P):bu l [] a=([],a):=by cases a<;>rfl
theorem mK(h:l≤m.mkl)(x:m.mkl≠3)(r:List Mk)(t e:P)(a:List P):bu l (m::r) (t::e::a)=bu l r (m.mkf e t::a):=by rw[bu,ae h,ai x]
theorem EF(h:l≤m.mkl)(x:m.mkl=3)(r:List Mk)(t:P)(a:List P):bu l (m::r) (t::a)=bu l r (.tup [.str "not",t]::a):=by
 conv=>lhs;unfold bu
 rw[ae h,ae x]
variable{k:Bool}
theorem EG(v:5≤l):∀(s:List Mk)(t:P)(a:List P),Fa k s->a.length=cV s->ng t->∃x p n,bu l s (t::a)=(x,p::n)/\ng p/\Fa k x/\n.length=cV x/\gN x=gN s/\∀m r,x=m::r->m.mkl < l
 | [],t,a,h,c,f=>⟨[],t,a,kB ..,f,h,c,rfl,λ_ _ z=>nomatch z⟩
 |m::r,t,a,h,c,f=>by
  by_cases b:l≤m.mkl
  .have q:m.two=true:=lH (by lia) (by lia);rw[jE q]at c;have d:Fa k r:=by
    rcases h with h|h|⟨_,h⟩
    .exact h.2
    .lia
    .rcases h.1 with rfl|h
     .exact absurd b (by simp[Mk.mkl];lia)
     .lia
   cases a with
   |nil=>cases c
   |cons e a=>rw[mK b (by lia),i' (by lia)];exact EG v r _ a d (oG c) (vY (by lia) _ _)
  .exact⟨m::r,t,a,jn (by lia) ..,f,h,c,rfl,λ_ _ z=>by cases z;lia⟩
theorem Jm:∀(s:List Mk)(t:P)(a:List P),Fa k s->a.length=cV s->ng t->∃x v b,bu 4 s (t::a)=(x,v::b)/\b.length=cV x/\gN x=gN s/\(k=true/\(gN s).head?≠some true/\iX v/\Ct x\/(k=false\/(gN s).head? = some true)/\ng v)
 | [],t,a,h,c,p=>⟨[],t,a,kB ..,c,rfl,.inr ⟨.inl h,p⟩⟩
 |m::r,t,a,h,c,p=>by
  by_cases d:5≤m.mkl
  .have w:m.two=true:=lH (by lia) (by lia);rw[jE w]at c;have f:Fa k r:=by
    rcases h with h|h|⟨_,h⟩
    .exact h.2
    .lia
    .rcases h.1 with rfl|h
     .exact absurd d (by decide)
     .lia
   cases a with
   |nil=>cases c
   |cons e a=>rw[mK (by lia) (by lia),i' (by lia)];exact Jm r _ a f (oG c) (vY d _ _)
  .by_cases n:m.mkl=4
   .have f:k=true/\Ct r:=by
     rcases h with h|h|⟨_,h⟩
     .rcases h.1 with h|rfl
      .lia
      .exact absurd n (by decide)
     .exact h.2
     .rcases h.1 with rfl|h
      .exact absurd n (by decide)
      .lia
    rw[jE (lH (by lia) (by lia))]at c;cases a with
    |nil=>cases c
    |cons e a=>
     rw[mK (by lia) (by lia),i' (by lia)];have q:bu 4 r (m.mkf e t::a)=(r,m.mkf e t::a):=by
      cases r with
      |nil=>exact kB ..
      |cons u g=>
       refine jn ?_ ..;rcases f.2.1 with rfl|h
       .decide
       .lia
     exact⟨r,_,a,q,oG c,rfl,.inl ⟨f.1,f.2.head,si (by lia) (by lia) _ _,f.2⟩⟩
   .refine⟨m::r,t,a,jn (by lia) ..,c,rfl,.inr ⟨?_,p⟩⟩;rcases h with h|h|⟨h,_⟩
    .rcases h.1 with h|rfl
     .lia
     .exact .inr rfl
    .exact absurd h.1 n
    .exact .inl h
theorem qS(p:1≤l):∀(s:List Mk)(t:P)(a:List P),Ct s->a.length=cV s->iX t->∃x q n,bu l s (t::a)=(x,q::n)/\iX q/\Ct x/\n.length=cV x/\gN x=gN s/\∀m r,x=m::r->m.mkl < l
 | [],t,a,h,c,b=>⟨[],t,a,kB ..,b,h,c,rfl,λ_ _ z=>nomatch z⟩
 |m::r,t,a,h,c,b=>by
  by_cases f:l≤m.mkl
  .have v:1≤m.mkl/\m.mkl≤3:=by
    rcases h.1 with rfl|h
    .exact absurd f (by simp[Mk.mkl];lia)
    .exact h
   rw[i' (by lia)];by_cases k:m.mkl=3
   .rw [nG (JO (.inr k))]at c;rw[EF f k];exact qS p r _ a h.2 c (BD _)
   .rw [jE (lH (by lia) k)]at c;cases a with
    |nil=>cases c
    |cons e a=>rw[mK f k];exact qS p r _ a h.2 (oG c) (si (by lia) (by lia) _ _)
  .exact⟨m::r,t,a,jn (by lia) ..,b,h,c,rfl,λ_ _ z=>by cases z;lia⟩
theorem qR(x:4≤l)(h:Ct s)(a:List P):bu l s a=(s,a):=by
 cases s with
 |nil=>exact kB ..
 |cons m r=>
  refine jn ?_ ..;rcases h.1 with rfl|h
  .exact cg (by decide) x
  .lia
theorem K'(h:Fa k s)(e:∀m r,s=m::r->m.mkl < 5):(∃r,s=.lp::r/\Fa k r/\gN s=true::gN r)\/(gN s).head?≠some true/\((k=true/\∃m r,s=m::r/\m.mkl=4)\/(k=false/\Ct s)):=by
 cases s with
 |nil=>exact .inr ⟨(λz=>nomatch z),.inr ⟨h,trivial⟩⟩
 |cons m r=>
  have:=e m r rfl;rcases h with ⟨h,x⟩|⟨h,a,x⟩|⟨a,h⟩
  .rcases h with h|rfl
   .lia
   .exact .inl ⟨r,rfl,x,rfl⟩
  .exact .inr ⟨by rw[i' (by lia)];exact x.head,.inl ⟨a,m,r,rfl,h⟩⟩
  .exact .inr ⟨h.head,.inr ⟨a,h⟩⟩
variable{b w:Str}{f:List Nat}{i:Nat}
def eP(f:List Nat):Prop:=∀c ∈ f,c < 128
theorem hU:(O h=O r)=(h=r):=propext ⟨λe=>by simpa using dz (λx:Str=>x.cps.toList) e,λe=>by rw[e]⟩
noncomputable def Lr(c:Nat):Bool:=c == 32
def nb(r:List Nat):Nat:=(r.takeWhile Lr).length
def sk(r:List Nat):List Nat:=r.dropWhile Lr
set_option tactic.hygienic true in
theorem jz:∀{r:List Nat}{x:Nat},x ∈ r.takeWhile p->p x=true
 | [],_,h=>by cases h
 |c::r,x,h=>by
  rw[eK]at h;split at h
  .rename_i a;rcases ay.mp h with rfl|h
   .exact a
   .exact jz h
  .cases h
set_option tactic.hygienic true in
theorem gc:∀{r:List Nat}{c:Nat}{t:List Nat},r.dropWhile p=c::t->p c=false
 | [],_,_,h=>by cases h
 |a::r,c,t,h=>by
  rw[List.dropWhile_cons]at h;split at h
  .exact gc h
  .rename_i x;cases h;simpa using x
theorem KZ(r:List Nat):r.takeWhile Lr=List.replicate (nb r) 32:=by
 refine List.eq_replicate_iff.mpr ⟨rfl,λb h=>?_⟩;have:=jz h
 simpa[Lr] using this
theorem sj(r:List Nat):r=List.replicate (nb r) 32++sk r:=by rw[<- KZ];exact(ee).symm
theorem wy(r:List Nat):nb r+(sk r).length=r.length:=by have:=dz dO (sj r);simp at this;lia
theorem NF(a:Option Int)(k n:Nat)(h:n≤k):kP a (some (k:Int)) 1 n=kP a (some (n:Int)) 1 n:=by unfold kP;dsimp only;rw[ai (show ¬(k:Int) < 0 by lia),ai (show ¬(n:Int) < 0 by lia),ae (show(1:Int) > 0 by decide),ae (show(1:Int) > 0 by decide),show min (k:Int) (n:Int)=(n:Int) by lia,show min (n:Int) (n:Int)=(n:Int) by lia];first|rfl|rw[ae (show(1:Int) > 0 by decide)]
theorem Dl(c:f.length≤900)(a:Option Int)(k:Nat)(h:f.length≤k):fC (.str (O f)) a (some (k:Int))=fC (.str (O f)) a (some (f.length:Int)):=by
 have e:Txt.slice (O f) a (some (k:Int))=Txt.slice (O f) a (some (f.length:Int)):=by show g6 (O f) a (some (k:Int))=g6 (O f) a (some (f.length:Int));have x:=NF a k (O f).length (by rw[cM];exact h);rw[cM]at x;unfold g6;rw[cM,x]
 simp only[fC,cM];rw[ae (by rw[fJ];lia),ae (by rw[fJ];lia),e]
theorem Dj(c:f.length≤900)(k:Nat):fC (.str (O f)) none (some (k:Int))=some (.str (O (f.take k))):=by
 have y:∀k≤f.length,fC (.str (O f)) none (some (k:Int))=some (.str (O (f.take k))):=λk a=>by have h:=FR (x:=O f) (j:=(k:Int)) ⟨by lia,by rw[ki];lia⟩;have e:Txt.slice (O f) none (some (k:Int))=g6 (O f) none (some (k:Int)):=rfl;simp only[fC,cM];rw[ae (by rw[fJ];lia),e,h,ki,ma,show((k:Int)-0).toNat=k by lia];rfl
 by_cases h:k≤f.length
 .exact y k h
 .rw [Dl c none k (by lia),y f.length (ar _),t_,zy (by lia)]
theorem J_(h:(p++c::t).length≤900):fC (.str (O (p++c::t))) (some (p.length:Int)) (some ((p.length:Int)+2))=some (.str (O ((c::t).take 2))):=by
 have k:∀run o:List Nat,c::t=run++o->fC (.str (O (p++c::t))) (some (p.length:Int)) (some ((p.length+run.length:Nat):Int))=some (.str (O run)):=λrun o e=>by have s:=k_ p run o;rw[<- e]at s;simp only[fC,cM];rw[ae (by rw[fJ];lia),s]
 rw[show((p.length:Int)+2)=((p.length+2:Nat):Int) by lia];cases t with
 |nil=>rw[Dl h _ _ (by simp),show(p++[c]).length=p.length+[c].length by simp];exact k [c] [] rfl
 |cons d u=>exact k [c,d] u rfl
def bj(p:List Nat):Bool:=match p.getLast? with
 |some c=>bS c ||d7 c
 |none=>false
theorem kj{n:Nat}(v:2≤n){r x:List Nat}(t:(r++x).length≤900)(k:eP (r++x)){a:List P}{s:LS}:ax Gv Att Y Rs Tb n "Reader.touches" [.ref 0] (St b (r++x) r.length w a s)=some (.p (.bl (bj r)),St b (r++x) r.length w a s):=by
 obtain⟨n,rfl⟩:=dN (n:=n) (by first|assumption|lia);rw[iw];rcases uc r with rfl|⟨p,c,rfl⟩
 .simp [bE,dq,St,bz,bj]
 .simp only[zw]at t k ⊢;have m:L2.atI (p++[c]++x) (((p++[c]).length:Int)-1)=some c:=dY (by simp) (by simp);have d:=bZ (by lia) m;have q:(0:Int) < ((p++[c]).length:Int):=Int.natCast_pos.mpr (by simp);have e:0 < (p++[c]).length:=by simp
  have h:bH (.str ("abcdefghijklmnopqrstuvwxyz":Str)) (.str ("0123456789":Str))=some (.str ("abcdefghijklmnopqrstuvwxyz"++"0123456789")):=by kernel_rfl
  have g:=λS=>cn c ("abcdefghijklmnopqrstuvwxyz"++"0123456789":Str) S;rw[(cR c (k c (by simp))).2.2.2.2.2]at g;have l:bj (p++[c])=(bS c ||d7 c):=by simp[bj]
  rw[l];generalize p++[c]++x=f at *
  generalize (p++[c]).length=j at *
  simp[bE,dq,St,d,q,e,-bF,h,g,bz]
noncomputable def nJ(x:Str):Bool:=decide (x=("=":Str)) ||decide (x=("!=":Str)) ||decide (x=("<":Str)) ||decide (x=("<=":Str)) ||decide (x=(">":Str)) ||decide (x=(">=":Str))
theorem ED(s:oK x=true)(S:aV):gk (.p (.str x)) (.p (.tup [.str "=",.str "!=",.str "<",.str "<=",.str ">",.str ">="])) S=some (.bl (nJ x)):=by
 have e:∀a b:Str,gz (.str a) (.str b)=decide (b=a):=λa b=>by
  rw[show gz (.str a) (.str b)=(a == b) from rfl];by_cases h:a=b
  .simp [h]
  .simp [h,cI h]
 have o:jl 19 (.str x)=true:=s;show lZ P.bl (if (List.all _ (jl 19) && jl 19 (.str x))=true then _ else _)=_;rw[o,yZ,ae (by decide +kernel)];simp only[fE,t4,pd,e,oS,l_,nJ,y4]
theorem wv{d c:D}{S:aV}{b:Bool}(h:gk d c S=some (.bl b)):iu d c S=some (.bl (!b)):=by
 unfold gk at h;unfold iu;cases e:Op d c S with
 |none=>rw[e]at h;cases h
 |some x=>rw[e]at h;cases h;rfl
theorem yq:("=":Str)=O [61]/\("!=":Str)=O [33,61]/\("<":Str)=O [60]/\("<=":Str)=O [60,61]/\(">":Str)=O [62]/\(">=":Str)=O [62,61]:=by decide +kernel
theorem Ii(c:Nat):nJ (O [c])=(decide (c=61) ||decide (c=60) ||decide (c=62)):=by obtain⟨h,x,a,e,s,n⟩:=yq;simp[nJ,h,x,a,e,s,n,hU]
theorem RA(c d:Nat):nJ (O [c,d])=(decide (d=61) && (decide (c=33) ||decide (c=60) ||decide (c=62))):=by
 obtain⟨x,a,e,s,n,k⟩:=yq;simp only[nJ,x,a,e,s,n,k,hU];by_cases h:d=61
 .subst h;simp
 .simp [h]
noncomputable def E_(c:Nat)(t:List Nat):Option Mk:=if c=33 then (if t.head? = some 61 then some .ne else none) else if c=60 then (if t.head? = some 61 then some .le else some .lt) else if c=62 then (if t.head? = some 61 then some .ge else some .gt) else some .eq
noncomputable def pH(c:Nat):Bool:=c == 61 ||c == 33 ||c == 60 ||c == 62
theorem Ri:∀c < 128,eY c "=!<>"=pH c:=by decide +kernel
theorem L0(hn:3≤n)(hc:(p++c::t).length≤900)(X:eP (p++c::t))(E:pH c=true)(ho:cV s < a.length)(L:s.length < 1000)(ht:a.length≤1000)(Z:bu 5 s a=(h,H::v))(hs:ng H)(hl:∀m r,h=m::r->m.mkl≠4/\m≠.lp) :
  match E_ c t with
  |some m=>ax Gv Att Y Rs Tb n "Reader.read_comparison" [.ref 0,.p (.str ⟨#[c]⟩)] (Sr "part" (p++c::t) p.length w (s,a))=some (.p .non,Sr "part" (p++c::t) (p.length+m.tx.length) "factor" (m::h,H::v))
  |none=>Rz n "Reader.read_comparison" [.ref 0,.p (.str ⟨#[c]⟩)] (Sr "part" (p++c::t) p.length w (s,a)) (p.length+1):=by
 obtain⟨n,rfl⟩:=dN (n:=n) (by first|assumption|lia);have l:=dF (g:="part") (u:=p++c::t) (i:=p.length) (w:=w) (n:=n+1) (by lia) 5 (by lia) s a ho L ht;rw[Z]at l;have A:=(cC 5 s a).1;rw[Z]at A;have z:=mG (b:="part") (f:=p++c::t) (i:=p.length) (w:=w) (n:=n+1) (by lia) h (H::v);have o:=nL (g:="part") (u:=p++c::t) (i:=p.length) (w:=w) (n:=n+1) (by lia) h H v hs;obtain⟨D,G⟩:=HK hl;have P:=J_ hc;have K:∀x ∈ (c::t).take 2,x < 128:=λx N=>X x (cw _ (pf N));have g:=λS=>wv (ED (jj K) S);have j:=λS=>wv (ED (x:=⟨#[c]⟩) (jj (c:=[c]) λx N=>by rw[zq.mp N];exact X c (by simp)) S);rw[show nJ ⟨#[c]⟩=nJ (O [c]) from rfl,Ii]at j;have F:=λm:Mk=>la (g:="part") (u:=p++c::t) (i:=p.length) (w:=w) (p:=(H::v).reverse) (q:=h.reverse.map Mk.mks) (n:=n+1) (by lia) m.mks "factor" (by simp only[eH,List.length_reverse];exact ce A (by lia)) (by rw[uY];cases m<;>decide);have M:∀m:Mk,Sr "part" (p++c::t) (p.length+m.tx.length) "factor" (m::h,H::v)=St "part" (p++c::t) (p.length+m.mks.length) "factor" (H::v).reverse (h.reverse.map Mk.mks++[m.mks]):=λm=>by rw[uY];simp[Sr]
 rw[show((5:Nat):Int)=5 from rfl]at l;obtain⟨I,h2,V,h4,W,h6⟩:=yq;have e:(∀m:Mk,(O ((c::t).take 2)=m.mks/\nJ (O ((c::t).take 2))=true\/nJ (O ((c::t).take 2))=false/\(⟨#[c]⟩:Str)=m.mks/\nJ (O [c])=true)->ax Gv Att Y Rs Tb (n+2) "Reader.read_comparison" [.ref 0,.p (.str ⟨#[c]⟩)] (Sr "part" (p++c::t) p.length w (s,a))=some (.p .non,Sr "part" (p++c::t) (p.length+m.tx.length) "factor" (m::h,H::v))) /\
   (nJ (O ((c::t).take 2))=false->nJ (O [c])=false->Rz (n+2) "Reader.read_comparison" [.ref 0,.p (.str ⟨#[c]⟩)] (Sr "part" (p++c::t) p.length w (s,a)) (p.length+1)):=by
  rw[<- Ii]at j;generalize O ((c::t).take 2)=tw at *
  refine⟨λm hm=>?_,λB C=>?_⟩
  .have F:=F m;rw[M,dm];unfold Sr at l z o ⊢;dsimp only at l z o ⊢;generalize (H::v).reverse=T at *
   generalize h.reverse.map Mk.mks=R at *
   generalize a.reverse=rt at *
   generalize s.reverse.map Mk.mks=rm at *
   simp only[St]at l z o F ⊢;simp at F;rcases hm with ⟨B,C⟩|⟨B,C,q3⟩
   .rw [C]at g;rw[B]at P g;generalize m.mks=Q at *
    simp[bE,bg,l,z,o,D,G,IZ,P,g,F,bz]
   .rw [B]at g;rw[q3]at j;rw[C]at j ⊢;generalize m.mks=Q at *
    simp[bE,bg,l,z,o,D,G,IZ,P,g,j,F,bz]
  .rw [B]at g;rw[C]at j;unfold Rz;rw[dm,eO];unfold Sr at l z o ⊢;dsimp only at l z o ⊢;generalize (H::v).reverse=T at *
   generalize h.reverse.map Mk.mks=R at *
   generalize a.reverse=rt at *
   generalize s.reverse.map Mk.mks=rm at *
   simp only[St]at l z o ⊢;exact⟨by simp[bE,bg,l,z,o,D,G,IZ,P,g,j,bz],_,by simp[a_,fnX,bG,l,z,o,D,G,IZ,P,g,j];rfl⟩
 simp only[pH,fD,i0]at E;have hs1:∀k:Nat,(⟨#[k]⟩:Str)=O [k]:=λ_=>rfl;cases t with
 |nil=>
  have q:∀c:Nat,[c].take 2=[c]:=λ_=>rfl;simp only[q,Ii]at e;rcases E with ((rfl|rfl)|rfl)|rfl
  .exact e.1 .eq (.inl ⟨I.symm,rfl⟩)
  .exact e.2 rfl rfl
  .exact e.1 .lt (.inl ⟨V.symm,rfl⟩)
  .exact e.1 .gt (.inl ⟨W.symm,rfl⟩)
 |cons d u=>
  have q:∀c:Nat,(c::d::u).take 2=[c,d]:=λ_=>rfl;simp only[q,Ii,RA]at e;by_cases y:d=61
  .subst y;rcases E with ((rfl|rfl)|rfl)|rfl
   .exact e.1 .eq (.inr ⟨rfl,I.symm,rfl⟩)
   .exact e.1 .ne (.inl ⟨h2.symm,rfl⟩)
   .exact e.1 .le (.inl ⟨h4.symm,rfl⟩)
   .exact e.1 .ge (.inl ⟨h6.symm,rfl⟩)
  .have hn:∀m1 m2:Option Mk,(if (d::u).head? = some 61 then m1 else m2)=m2:=λ_ _=>ai (by simp[y]);have hb:∀x,(decide (d=61) && x)=false:=λx=>by simp[y]
   simp only[hb]at e;unfold E_;simp only[hn];rcases E with ((rfl|rfl)|rfl)|rfl
   .exact e.1 .eq (.inr ⟨trivial,I.symm,rfl⟩)
   .exact e.2 trivial rfl
   .exact e.1 .lt (.inr ⟨trivial,V.symm,rfl⟩)
   .exact e.1 .gt (.inr ⟨trivial,W.symm,rfl⟩)
end My
namespace My
open PySem L2 Ev
variable{k w:Str}{a:List Nat}{i:Nat}
noncomputable def i7:List Nat->List Nat->Nat
 |a::x,b::y=>if a=b then i7 x y+1 else 0
 |_,_=>0
theorem Dp:∀x y:List Nat,i7 x y≤x.length/\i7 x y≤y.length
 | [],y=>by simp[i7]
 |a::x,[]=>by simp[i7]
 |a::x,b::y=>by have:=Dp x y;unfold i7;split<;>simp<;>lia
theorem v7:∀(x y:List Nat)(k:Nat),(x.take (k+1)=y.take (k+1)/\k < x.length/\k < y.length)↔k < i7 x y
 | [],y,k=>by simp[i7]
 |a::x,[],k=>by simp[i7]
 |a::x,b::y,0=>by unfold i7;by_cases h:a=b<;>simp[h]
 |a::x,b::y,k+1=>by
  have:=v7 x y k;unfold i7;by_cases h:a=b
  .rw [ae h];simp only[List.take_succ_cons,aA,h,tt,true_and,Nat.add_lt_add_iff_right];exact this
  .simp [h]
theorem I0(j g:Str->GF)(i:Str->GX)(v:x.length≤900)(d:y.length≤900):∀(f k:Nat),k≤i7 x y->i7 x y-k < f ->
  aY (cH (aJ (U (gQ cr cW (bM (ac hG cz)))) (U (gQ ck cW (bM (ac hG cz))))) (bV (cy hG (cU gw (v2 (b9 aC) (b9 dD)))))) (e6 j g i) f
   [qs (O x),qs (O y),qi (k:Int)] []=some (.nx,[qs (O x),qs (O y),qi ((i7 x y:Nat):Int)],[])
 |0,k,_,h=>by lia
 |f+1,k,F,S=>by
  have a:=Dj v (k+1);have r:=Dj d (k+1);rw[show((k+1:Nat):Int)=(k:Int)+1 by lia]at a r;obtain⟨z,m,w⟩:∃z:Int,gw [.int (x.length:Int),.int (y.length:Int)]=some (.int z)/\((k:Int) < z↔k < x.length/\k < y.length):=⟨_,rfl,by split<;>lia⟩;have b:x.length≤1000000:=by lia
  have c:y.length≤1000000:=by lia
  have p:=v7 x y k;by_cases h:k < i7 x y
  .obtain⟨s,o,H⟩:=p.mpr h;have l:=w.mpr ⟨o,H⟩;have e:=I0 j g i v d f (k+1) (by lia) (by lia);rw[s]at a;rw[dI (h:=[]) (L2:=[qs (O x),qs (O y),qi ((k+1:Nat):Int)]) (x:=[]) (by generalize y.take (k+1)=u at *;simp[a,r,bR,cj,b,c,m,l]) (by simp[e6])];exact e
  .have n:k=i7 x y:=by lia
   by_cases s:x.take (k+1)=y.take (k+1)
   .have l:¬(k:Int) < z:=λq=>h (p.mp ⟨s,w.mp q⟩);rw[s]at a;rw[bq (h:=[]) (by generalize y.take (k+1)=u at *;simp[a,r,bR,cj,b,c,m,l]),n]
   .have t:¬O (x.take (k+1))=O (y.take (k+1)):=by rw[hU];exact s
    rw[bq (h:=[]) (by generalize O (y.take (k+1))=u at *;generalize O (x.take (k+1))=K at *;simp[a,r,t]),n]
variable{n:Nat}
theorem NG(a:2≤n)(h:x.length≤900)(k:y.length≤90):hZ (ax Gv Att Y Rs Tb n "shared_length") [.str (O x),.str (O y)]=some (.int ((i7 x y:Nat):Int)):=by obtain⟨n,rfl⟩:=dN (n:=n) (by first|assumption|lia);have s:=(Dp x y).2;have e:=I0 (ax Gv Att Y Rs Tb (n+1)) (ax Gv Att Y Rs Tb n) (di Gv Att Y Rs Tb (n+1)) (x:=x) (y:=y) h (by lia) 1000 0 (eh _) (by lia);rw[mM,bL];change aY _ _ _ [_,_,qi 0] _=_ at e;simp[iT,eD,e]
def FI(b:List Bool)(q:List Mk)(v:List P):Prop:=∃f t p,bu 4 q v=(f,t::p)/\iX t/\Ct f/\p.length=cV f/\gN f=b
def MO(q:List Mk)(v:List P):Prop:=∃f t p,bu 4 q v=(f,t::p)/\ng t
variable{q:List Mk}{v:List P}{b:Bool}
theorem wH(z:3≤n)(x:Str)(o:cV q < v.length)(m:q.length < 1000)(g:v.length≤1000)(t:∀v q,ax Gv Att Y Rs Tb (n-1) "Reader.touches" [.ref 0] (St k a i w v q)=some (.p (.bl b),St k a i w v q))(h:b=true\/MO q v):Rz n "Reader.read_joint" [.ref 0,.p (.str x)] (Sr k a i w (q,v)) i:=by
 obtain⟨n,rfl⟩:=dN (n:=n) (by first|assumption|lia);have e:=dF (g:=k) (u:=a) (i:=i) (w:=w) (n:=n+1) (by lia) 4 (by lia) q v o m g;have c:=t (bu 4 q v).2.reverse ((bu 4 q v).1.reverse.map Mk.mks);rw[show n+2-1=n+1 by lia]at c;rw[show((4:Nat):Int)=4 from rfl]at e;unfold Rz;rw[eG,fY];have s:b=false->ax Gv Att Y Rs Tb (n+1) "Reader.has_sum" [.ref 0] (Sr k a i w (bu 4 q v))=some (.p (.bl true),Sr k a i w (bu 4 q v)):=λr=>by
  rcases h with h|⟨f,y,p,d,u⟩
  .rw [r]at h;cases h
  .rw [d];exact nL (by lia) f y p u
 unfold Sr at e s ⊢;dsimp only at e s ⊢;generalize (bu 4 q v).2.reverse=l at *
 generalize (bu 4 q v).1.reverse.map Mk.mks=j at *
 generalize v.reverse=S at *
 generalize q.reverse.map Mk.mks=H at *
 simp only[St]at e c s ⊢;cases b with
 |true=>exact⟨by simp[bE,cB,e,c,bz],_,by simp[a_,fnX,db,e,c];rfl⟩
 |false=>have s:=s rfl;exact⟨by simp[bE,cB,e,c,s,bz],_,by simp[a_,fnX,db,e,c,s];rfl⟩
theorem Dv{n:Nat}(b:2≤n){p r:List Nat}(c:(p++r).length≤900)(s:eP (p++r)){v:List P}{q:LS}:ax Gv Att Y Rs Tb n "Reader.run_of" [.ref 0,.p (.str "abcdefghijklmnopqrstuvwxyz")] (St k (p++r) p.length w v q)=some (.p (.str (O (r.takeWhile bS))),St k (p++r) p.length w v q):=by
 have a:r.takeWhile bS++r.dropWhile bS=r:=ee;have l:=dz dO a;rw [aI] at l c;have h:=kn (g:=k) (w:=w) (p:=v) (q:=q) b "abcdefghijklmnopqrstuvwxyz" p (r.takeWhile bS) (r.dropWhile bS) (by rw [a,aI];lia) (fun x f=>by
  rw[(cR x (s x (cw _ (by rw[<- a];exact g_ _ f)))).2.1];exact jz f) (λd u e=>by
  rw[(cR d (s d (cw _ (by rw[<- a,e];simp)))).2.1];exact gc e) (by lia)
 rw[a]at h;exact h
theorem Eh{n:Nat}(M:4≤n){q:List Mk}{v:List P}{m:Mk}(L:1≤m.mkl/\m.mkl≤2){e r:List Nat}(g:(e++r).length≤900)(F:eP (e++r))(C:cV q < v.length)(l:q.length < 1000)(E:v.length≤1000)(B:bj e=false){K:List Bool}(h:FI K q v)(z:r.takeWhile bS≠m.tx):Rz n "Reader.read_joint" [.ref 0,.p (.str m.mks)] (Sr k (e++r) e.length w (q,v)) (e.length+i7 (r.takeWhile bS) m.tx):=by
 obtain⟨n,rfl⟩:=dN (n:=n) (by first|assumption|lia);have s:=dF (g:=k) (u:=e++r) (i:=e.length) (w:=w) (n:=n+1) (by lia) 4 (by lia) q v C l E;obtain⟨f,d,p,A,D,_⟩:=h;rw[A]at s;have b:=kz (g:=k) (u:=e++r) (i:=e.length) (w:=w) (n:=n+1) (by lia) f d p D;have c:=kj (b:=k) (w:=w) (n:=n+1) (by lia) g F (a:=(d::p).reverse) (s:=f.reverse.map Mk.mks);have u:=Dv (k:=k) (w:=w) (n:=n+1) (by lia) g F (v:=(d::p).reverse) (q:=f.reverse.map Mk.mks);rw[B]at c;have H:r.takeWhile bS++r.dropWhile bS=r:=ee;have o:=dz dO H;rw[aI]at o g;have S:=NG (n:=n+1) (by lia) (x:=r.takeWhile bS) (y:=m.tx) (by lia) (by cases m<;>decide);have t:¬O (r.takeWhile bS)=m.mks:=by rw[<- AD,hU];exact z
 rw[AD]at S;rw[show((4:Nat):Int)=4 from rfl]at s;unfold Rz;rw[eG,fY];unfold Sr at s b ⊢;dsimp only at s b ⊢;generalize (d::p).reverse=I at *
 generalize f.reverse.map Mk.mks=G at *
 generalize v.reverse=Q at *
 generalize q.reverse.map Mk.mks=N at *
 generalize i7 (r.takeWhile bS) m.tx=j at *
 generalize O (r.takeWhile bS)=x at *
 generalize e++r=a at *
 generalize m.mks=y at *
 simp only[St]at s c b u ⊢;exact⟨by simp[bE,cB,s,c,b,u,t,bz],_,by simp[a_,fnX,db,s,c,b,u,t,S];rfl⟩
theorem Eg{n:Nat}(hn:4≤n){q:List Mk}{v:List P}{m:Mk}(G:1≤m.mkl/\m.mkl≤2){e r:List Nat}(E:(e++r).length≤900)(D:eP (e++r))(T:cV q < v.length)(A:q.length < 1000)(W:v.length≤1000)(R:bj e=false){B:List Bool}(h:FI B q v)(N:r.takeWhile bS=m.tx) :
  ∃f p,ax Gv Att Y Rs Tb n "Reader.read_joint" [.ref 0,.p (.str m.mks)] (Sr k (e++r) e.length w (q,v))=some (.p .non,Sr k (e++r) (e.length+m.tx.length) "part" (m::f,p))/\Ct (m::f)/\p.length=cV (m::f)/\gN (m::f)=B/\f.length≤q.length/\p.length≤v.length:=by
 obtain⟨n,rfl⟩:=dN (n:=n) (by first|assumption|lia);have x:=dF (g:=k) (u:=e++r) (i:=e.length) (w:=w) (n:=n+1) (by lia) 4 (by lia) q v T A W;have l:=cC 4 q v;obtain⟨f,t,p,Q,I,L,F,M⟩:=h;rw[Q]at x l;dsimp only at l;have j:=kz (g:=k) (u:=e++r) (i:=e.length) (w:=w) (n:=n+1) (by lia) f t p I;have z:=kj (b:=k) (w:=w) (n:=n+1) (by lia) E D (a:=(t::p).reverse) (s:=f.reverse.map Mk.mks);have o:=Dv (k:=k) (w:=w) (n:=n+1) (by lia) E D (v:=(t::p).reverse) (q:=f.reverse.map Mk.mks);rw[R]at z;rw[N,AD]at o;have s:=dF (g:=k) (u:=e++r) (i:=e.length) (w:=w) (n:=n+1) (by lia) m.mkl (by lia) f (t::p) (by simp;lia) (by lia) (by lia);have b:=cC m.mkl f (t::p);obtain⟨d,g,u,K,V,C,c,S,_⟩:=qS G.1 f t p L F I;rw[K]at s b;dsimp only at b;have H:=la (g:=k) (u:=e++r) (i:=e.length) (w:=w) (p:=(g::u).reverse) (q:=d.reverse.map Mk.mks) (n:=n+1) (by lia) m.mks "part" (by simp;lia) (by rw[uY];cases m<;>decide);have X:=Pt m;refine⟨d,g::u,?_,⟨.inr ⟨G.1,by lia⟩,C⟩,by rw[jE (lH (by lia) (by lia))];simp[c],by rw[i' (by lia),S,M],by lia,by lia⟩;rw[eG];rw[show Sr k (e++r) (e.length+m.tx.length) "part" (m::d,g::u)=St k (e++r) (e.length+m.mks.length) "part" (g::u).reverse (d.reverse.map Mk.mks++[m.mks]) by rw[uY];simp[Sr]];rw[show((4:Nat):Int)=4 from rfl]at x;unfold Sr at x j s ⊢;dsimp only at x j s ⊢;generalize (g::u).reverse=rt2 at *
 generalize d.reverse.map Mk.mks=rm2 at *
 generalize (t::p).reverse=rt' at *
 generalize f.reverse.map Mk.mks=Z at *
 generalize v.reverse=rt at *
 generalize q.reverse.map Mk.mks=rm at *
 generalize e++r=a at *
 generalize m.mks=y at *
 simp only[St]at x z j o s H ⊢;simp at H;simp[bE,cB,x,z,j,o,X,s,H,bz]
variable{k w:Str}{a:List Nat}{i:Nat}
variable{f:List Mk}{p:List P}
theorem G6(F:3≤n)(q:List Mk)(v:List P)(j:cV q < v.length)(b:q.length < 1000)(u:v.length≤1000)(g:bu 4 q v=(m,t::s))(l:iX t)(o:cV m < (t::s).length)(d:bu 1 m (t::s)=(.lb::f,p)) :
  ax Gv Att Y Rs Tb n "Reader.read_square_end" [.ref 0] (Sr k a i w (q,v))=some (.p .non,Sr k a (i+1) w (f,p)):=by
 obtain⟨n,rfl⟩:=dN (n:=n) (by first|assumption|lia);have x:=dF (g:=k) (u:=a) (i:=i) (w:=w) (n:=n+1) (by lia) 4 (by lia) q v j b u;have h:=cC 4 q v;rw[g]at x h;have c:=kz (g:=k) (u:=a) (i:=i) (w:=w) (n:=n+1) (by lia) m t s l;have e:=dF (g:=k) (u:=a) (i:=i) (w:=w) (n:=n+1) (by lia) 1 (by lia) m (t::s) o (mh h.1 b) (ce h.2 u);rw[d]at e;have r:=nH (g:=k) (u:=a) (i:=i) (w:=w) (p:=p.reverse) (q:=f.reverse.map Mk.mks) (n:=n+1) (by lia) "[";rw[eZ];unfold Sr at x c e ⊢;dsimp only at x c e ⊢;generalize (t::s).reverse=S at *
 simp only[kT,iL,aX,ed,Mk.mks]at r e ⊢;generalize p.reverse=H at *
 generalize f.reverse.map Mk.mks=y at *
 generalize m.reverse.map Mk.mks=z at *
 generalize v.reverse=A at *
 generalize q.reverse.map Mk.mks=K at *
 rw[show((4:Nat):Int)=4 from rfl]at x;rw[show((1:Nat):Int)=1 from rfl]at e;simp only[St,iL,aX,ed]at x r c e ⊢;simp[bE,cq,x,c,e,r,gH]
theorem LK(y:3≤n)(q:List Mk)(v:List P)(u:cV q < v.length)(f:q.length < 1000)(p:v.length≤1000)(d:bu 4 q v=(m,t::s))(g:iX t)(o:cV m < (t::s).length)(c:bu 1 m (t::s)=([],[z])) :
  ax Gv Att Y Rs Tb n "Reader.read_end" [.ref 0] (Sr "part" a i w (q,v))=some (.p z,Sr "part" a i w ([],[z])):=by
 obtain⟨n,rfl⟩:=dN (n:=n) (by first|assumption|lia);have e:=dF (g:="part") (u:=a) (i:=i) (w:=w) (n:=n+1) (by lia) 4 (by lia) q v u f p;have h:=cC 4 q v;rw[d]at e h;have b:=kz (g:="part") (u:=a) (i:=i) (w:=w) (n:=n+1) (by lia) m t s g;have x:=dF (g:="part") (u:=a) (i:=i) (w:=w) (n:=n+1) (by lia) 1 (by lia) m (t::s) o (mh h.1 f) (ce h.2 p);rw[c]at x;have r:=wF (g:="part") (u:=a) (i:=i) (w:=w) (p:=[z]) (n:=n+1) (by lia);rw[g0];unfold Sr at e b x ⊢;dsimp only at e b x ⊢;generalize (t::s).reverse=l at *
 generalize m.reverse.map Mk.mks=j at *
 generalize v.reverse=S at *
 generalize q.reverse.map Mk.mks=H at *
 rw[show((4:Nat):Int)=4 from rfl]at e;rw[show((1:Nat):Int)=1 from rfl]at x;simp only[St,kT,List.reverse_nil,dv,aX,ed]at e r b x ⊢;simp[bE,dU,e,b,x,r]
def Be(k:Bool)(q:List Mk)(v:List P):Prop:=∃t s,v=t::s/\ng t/\Fa k q/\s.length=cV q
def Dn(q:List Mk)(v:List P):Prop:=∃t s,v=t::s/\iX t/\Ct q/\s.length=cV q
theorem Be.lt(h:Be x q v):cV q < v.length:=by obtain⟨t,s,rfl,_,_,h⟩:=h;rw[aA];lia
theorem Dn.lt(h:Dn q v):cV q < v.length:=by obtain⟨t,s,rfl,_,_,h⟩:=h;rw[aA];lia
theorem Dn.cnd(h:Dn q v):FI (gN q) q v:=by obtain⟨t,s,rfl,a,x,e⟩:=h;exact⟨q,t,s,qR (ar _) x _,a,x,e,rfl⟩
theorem Be.or(h:Be x q v):(x=true/\(gN q).head?≠some true/\FI (gN q) q v)\/(x=false\/(gN q).head? = some true)/\MO q v:=by
 obtain⟨t,s,rfl,k,m,r⟩:=h;obtain⟨f,n,p,e,u,w,h⟩:=Jm q t s m r k;rcases h with ⟨a,b,c,d⟩|⟨a,b⟩
 .exact .inl ⟨a,b,f,n,p,e,c,d,u,w⟩
 .exact .inr ⟨a,f,n,p,e,b⟩
theorem Do(p:3≤n)(x:Str)(h:Dn q v):Rz n "Reader.read_sign" [.ref 0,.p (.str x)] (Sr k a i w (q,v)) i:=by
 obtain⟨n,rfl⟩:=dN (n:=n) (by first|assumption|lia);obtain⟨t,s,rfl,b,m,r⟩:=h;have e:=kz (g:=k) (u:=a) (i:=i) (w:=w) (n:=n+1) (by lia) q t s b;unfold Rz;rw[gJ,j8];obtain⟨d,f,c⟩:∃d,(Sr k a i w (q,t::s))[0]? = some (.ins "Reader" RK d)/\fq "spot" RK d=qi (i:Int):=⟨_,rfl,by rw[K7]⟩;generalize Sr k a i w (q,t::s)=S at *
 exact⟨by simp[bE,e_,f,e,bz],_,by simp[a_,fnX,gp,f,c,e];rfl⟩
theorem A5(C:3≤n)(x:Str)(A:cV q < v.length)(y:q.length < 1000)(B:v.length≤1000)(P:bu 5 q v=(f,t::p))(h:iX t\/ng t/\((∃r,f=.lp::r)\/∃m r,f=m::r/\m.mkl=4)):Rz n "Reader.read_comparison" [.ref 0,.p (.str x)] (Sr "part" a i w (q,v)) i:=by
 obtain⟨n,rfl⟩:=dN (n:=n) (by first|assumption|lia);have c:=dF (g:="part") (u:=a) (i:=i) (w:=w) (n:=n+1) (by lia) 5 (by lia) q v A y B;rw[P,show((5:Nat):Int)=5 from rfl]at c;have b:=mG (b:="part") (f:=a) (i:=i) (w:=w) (n:=n+1) (by lia) f (t::p);unfold Rz;rw[dm,eO];obtain⟨F,e⟩:=qq "part" a i w (q,v);obtain⟨g,u,z,s⟩:∃g,(Sr "part" a i w (f,t::p))[0]? = some (.ins "Reader" RK g)/\fq "spot" RK g=qi (i:Int)/\fq "sought" RK g=qs "part":=⟨_,rfl,by rw[K7],by rw[Sb]⟩;rcases h with h|⟨h,K⟩
 .have d:=kz (g:="part") (u:=a) (i:=i) (w:=w) (n:=n+1) (by lia) f t p h;generalize Sr "part" a i w (f,t::p)=o at *
  generalize Sr "part" a i w (q,v)=S at *
  exact⟨by simp[bE,bg,e,u,s,c,b,d,bz],_,by simp[a_,fnX,bG,e,u,z,s,c,b,d];rfl⟩
 .have d:=nL (g:="part") (u:=a) (i:=i) (w:=w) (n:=n+1) (by lia) f t p h;rcases K with ⟨r,rfl⟩|⟨m,r,rfl,H⟩
  .rw [show lu (.lp::r)=Str.ofString "(" from rfl]at b;generalize Sr "part" a i w (.lp::r,t::p)=o at *
   generalize Sr "part" a i w (q,v)=S at *
   exact⟨by simp[bE,bg,e,u,s,c,b,d,bz],_,by simp[a_,fnX,bG,e,u,z,s,c,b,d];rfl⟩
  .rw [show lu (m::r)=m.mks from rfl]at b;have j:=x6 m;rw[gn H]at j;have l:¬m.mks=Str.ofString "(":=by cases m<;>first|exact absurd H (by decide)|decide +kernel
   generalize Sr "part" a i w (m::r,t::p)=o at *
   generalize Sr "part" a i w (q,v)=S at *
   exact⟨by simp[bE,bg,e,u,s,c,b,d,l,j,bz],_,by simp[a_,fnX,bG,e,u,z,s,c,b,d,l,j];rfl⟩
theorem sd(z:3≤n)(o:cV q < v.length)(s:q.length < 1000)(j:v.length≤1000)(u:bu 5 q v=(f,p))(h:∀r,f≠.lp::r):Rz n "Reader.read_round_end" [.ref 0] (Sr k a i w (q,v)) i:=by
 obtain⟨n,rfl⟩:=dN (n:=n) (by first|assumption|lia);have e:=dF (g:=k) (u:=a) (i:=i) (w:=w) (n:=n+1) (by lia) 5 (by lia) q v o s j;rw[u,show((5:Nat):Int)=5 from rfl]at e;have b:=mG (b:=k) (f:=a) (i:=i) (w:=w) (n:=n+1) (by lia) f p;have l:¬lu f=Str.ofString "(":=by
  cases f with
  |nil=>decide +kernel
  |cons m r=>cases m<;>first|exact absurd rfl (h r)|(simp only[lu];decide +kernel)
 unfold Rz;rw[fw,ij];obtain⟨t,x⟩:=qq k a i w (q,v);obtain⟨d,c,g⟩:∃d,(Sr k a i w (f,p))[0]? = some (.ins "Reader" RK d)/\fq "spot" RK d=qi (i:Int):=⟨_,rfl,by rw[K7]⟩;generalize lu f=H at *
 generalize Sr k a i w (f,p)=y at *
 generalize Sr k a i w (q,v)=S at *
 exact⟨by simp[bE,dA,x,c,e,b,l,bz],_,by simp[a_,fnX,eS,x,c,g,e,b,l];rfl⟩
theorem qu(X:3≤n)(T:cV q < v.length)(K:q.length < 1000)(V:v.length≤1000)(h:MO q v\/FI [] q v):Rz n "Reader.read_square_end" [.ref 0] (Sr k a i w (q,v)) i:=by
 obtain⟨n,rfl⟩:=dN (n:=n) (by first|assumption|lia);have e:=dF (g:=k) (u:=a) (i:=i) (w:=w) (n:=n+1) (by lia) 4 (by lia) q v T K V;rw[show((4:Nat):Int)=4 from rfl]at e;have E:=cC 4 q v;unfold Rz;rw[eZ,hP];obtain⟨L,x⟩:=qq k a i w (q,v);have y:∀s,∃g,(Sr k a i w s)[0]? = some (.ins "Reader" RK g)/\fq "spot" RK g=qi (i:Int):=λs=>⟨_,rfl,by rw[K7]⟩;rcases h with ⟨f,t,p,z,h⟩|⟨f,t,p,z,h,N,R,Q⟩
 .rw [z]at e;have b:=nL (g:=k) (u:=a) (i:=i) (w:=w) (n:=n+1) (by lia) f t p h;obtain⟨g,c,P⟩:=y (f,t::p);generalize Sr k a i w (f,t::p)=I at *
  generalize Sr k a i w (q,v)=S at *
  exact⟨by simp[bE,cq,x,c,e,b,bz],_,by simp[a_,fnX,da,x,c,P,e,b];rfl⟩
 .rw [z]at e E;dsimp only at E;have b:=kz (g:=k) (u:=a) (i:=i) (w:=w) (n:=n+1) (by lia) f t p h;have l:=dF (g:=k) (u:=a) (i:=i) (w:=w) (n:=n+1) (by lia) 1 (by lia) f (t::p) (by rw[aA];lia) (by lia) (by lia);obtain⟨G,D,B,o,_,C,_,u,H⟩:=qS (ar 1) f t p N R h;have F:G=[]:=by
   cases G with
   |nil=>rfl
   |cons m r=>
    have:=H m r rfl;rcases C.1 with rfl|h
    .rw [Q]at u;cases u
    .lia
  subst F;rw[o,show((1:Nat):Int)=1 from rfl]at l;have j:=mG (b:=k) (f:=a) (i:=i) (w:=w) (n:=n+1) (by lia) [] (D::B);rw[show lu []=Str.ofString "" from rfl]at j;obtain⟨g,c,P⟩:=y (f,t::p);obtain⟨M,d,A⟩:=y ([],D::B);generalize Sr k a i w ([],D::B)=W at *
  generalize Sr k a i w (f,t::p)=I at *
  generalize Sr k a i w (q,v)=S at *
  exact⟨by simp[bE,cq,x,c,e,b,l,d,j,bz],_,by simp[a_,fnX,da,x,c,P,e,b,l,d,A,j];rfl⟩
theorem Bo(K:3≤n)(P:cV q < v.length)(t:q.length < 1000)(A:v.length≤1000)(h:FI (b::H) q v):∃f p,ax Gv Att Y Rs Tb n "Reader.read_square_end" [.ref 0] (Sr k a i w (q,v))=some (.p .non,Sr k a (i+1) w (f,p))/\Dn f p/\gN f=H/\f.length≤q.length/\p.length≤v.length:=by
 have u:=cC 4 q v;obtain⟨f,z,p,j,h,S,F,g⟩:=h;rw[j]at u;dsimp only at u;have l:=cC 1 f (z::p);obtain⟨B,o,y,e,d,C,c,x,s⟩:=qS (ar 1) f z p S F h;rw[e]at l;dsimp only at l;cases B with
 |nil=>rw[g]at x;cases x
 |cons m r=>
  have:=s m r rfl;rcases C.1 with rfl|D
  .rw [g]at x;cases x;rw[aA]at l;exact⟨r,o::y,G6 K q v P t A j h (by rw[aA];lia) e,⟨o,y,rfl,d,C.2,by rw[nG rfl]at c;exact c⟩,rfl,by lia,by lia⟩
  .lia
theorem H0(Z:3≤n)(V:cV q < v.length)(P:q.length < 1000)(W:v.length≤1000)(h:MO q v\/FI (b::bs) q v):Rz n "Reader.read_end" [.ref 0] (Sr "part" a i w (q,v)) i:=by
 obtain⟨n,rfl⟩:=dN (n:=n) (by first|assumption|lia);have e:=dF (g:="part") (u:=a) (i:=i) (w:=w) (n:=n+1) (by lia) 4 (by lia) q v V P W;rw[show((4:Nat):Int)=4 from rfl]at e;have G:=cC 4 q v;unfold Rz;rw[g0,kh];obtain⟨M,x⟩:=qq "part" a i w (q,v);have z:∀s,∃d,(Sr "part" a i w s)[0]? = some (.ins "Reader" RK d)/\fq "spot" RK d=qi (i:Int)/\fq "sought" RK d=qs "part":=λs=>⟨_,rfl,by rw[K7],by rw[Sb]⟩;rcases h with ⟨f,t,p,H,h⟩|⟨f,t,p,H,h,Q,T,R⟩
 .rw [H]at e;have c:=nL (g:="part") (u:=a) (i:=i) (w:=w) (n:=n+1) (by lia) f t p h;obtain⟨d,u,A,o⟩:=z (f,t::p);generalize Sr "part" a i w (f,t::p)=L at *
  generalize Sr "part" a i w (q,v)=S at *
  exact⟨by simp[bE,dU,x,u,o,e,c,bz],_,by simp[a_,fnX,eT,x,u,A,o,e,c];rfl⟩
 .rw [H]at e G;dsimp only at G;have c:=kz (g:="part") (u:=a) (i:=i) (w:=w) (n:=n+1) (by lia) f t p h;have y:=dF (g:="part") (u:=a) (i:=i) (w:=w) (n:=n+1) (by lia) 1 (by lia) f (t::p) (by rw[aA];lia) (by lia) (by lia);obtain⟨I,E,D,F,_,C,_,j,K⟩:=qS (ar 1) f t p Q T h;obtain⟨r,rfl⟩:∃r,I=.lb::r:=by
   cases I with
   |nil=>rw[R]at j;cases j
   |cons m r=>
    have:=K m r rfl;rcases C.1 with rfl|h
    .exact⟨r,rfl⟩
    .lia
  rw[F,show((1:Nat):Int)=1 from rfl]at y;have l:=mG (b:="part") (f:=a) (i:=i) (w:=w) (n:=n+1) (by lia) (.lb::r) (E::D);rw[show lu (.lb::r)=Str.ofString "[" from rfl]at l;obtain⟨d,u,A,o⟩:=z (f,t::p);obtain⟨N,g,B,_⟩:=z (.lb::r,E::D);generalize Sr "part" a i w (.lb::r,E::D)=X at *
  generalize Sr "part" a i w (f,t::p)=L at *
  generalize Sr "part" a i w (q,v)=S at *
  exact⟨by simp[bE,dU,x,u,o,e,c,y,g,l,bz],_,by simp[a_,fnX,eT,x,u,A,o,e,c,y,g,B,l];rfl⟩
theorem ER(o:3≤n)(H:cV q < v.length)(s:q.length < 1000)(F:v.length≤1000)(h:FI [] q v):∃t S,iX t/\ax Gv Att Y Rs Tb n "Reader.read_end" [.ref 0] (Sr "part" a i w (q,v))=some (.p t,S):=by
 obtain⟨f,P,p,z,h,g,y,j⟩:=h;obtain⟨u,A,K,x,k,C,c,b,l⟩:=qS (ar 1) f P p g y h;have e:u=[]:=by
  cases u with
  |nil=>rfl
  |cons m r=>
   have:=l m r rfl;rcases C.1 with rfl|h
   .rw [j]at b;cases b
   .lia
 subst e;have d:K=[]:=kY c;subst d;exact⟨A,_,k,LK o q v H s F z h (by rw[aA];lia) x⟩
end My
namespace My
open PySem L2 Ev
variable{C:List Nat}{i:Nat}
inductive Wst where
 |pt|op|be|dn
inductive Out where
 |bad (j:Nat)|fin|go (j:Nat) (w:Wst) (k b:Bool) (bs:List Bool)
noncomputable def lh(c k:Nat):Nat:=if c=48 then 1 else min k 3
def num(c:Nat)(r:List Nat)(k:Bool)(b:List Bool):Out:=if lh c (r.takeWhile d7).length < (r.takeWhile d7).length then .bad (lh c (r.takeWhile d7).length) else .go (r.takeWhile d7).length .be k true b
def Ps(p:Bool)(s:List Nat)(k:Bool)(b:List Bool):Out:=if 10 < s.length then .bad 10 else if (p && decide (s=gv))=true then .go 4 .dn k true b else if (p && decide (s=tNot))=true then .go 3 .pt k true b else if Ch (O s)=true then .bad s.length else .go s.length .be k true b
def Ci(p:Bool)(c:Nat)(r:List Nat)(k:Bool)(b:List Bool):Out:=if d7 c=true then num c r k b else if bS c=true then Ps p (r.takeWhile bS) k b else if c=40 then .go 1 .op k false (true::b) else if (p && decide (c=91))=true then .go 1 .pt k false (false::b) else .bad 0
noncomputable def iE(c:Nat):Mk:=if c=97 then .an else .or
def Lf(c:Nat)(r:List Nat)(b:List Bool):Out:=if c=97\/c=111 then (if r.takeWhile bS=(iE c).tx then .go (iE c).tx.length .pt false true b else .bad (i7 (r.takeWhile bS) (iE c).tx)) else if c=93/\b.head? = some false then .go 1 .dn false false b.tail else .bad 0
def OY(c:Nat)(r:List Nat)(k:Bool)(b:List Bool):Out:=if wJ c=true then .go 1 .op k false b else if c=41/\b.head? = some true then .go 1 .be k false b.tail
 else if pH c=true/\k=false/\b.head?≠some true then (match E_ c r.tail with|some m=>.go m.tx.length .op true false b|none=>.bad 1)
 else if k=true/\b.head?≠some true then Lf c r b else .bad 0
def stp(r:List Nat)(w:Wst)(k b:Bool)(s:List Bool):Out:=match r with
 | []=>(match w with | .pt=>.bad 0 | .op=>.bad 0|_=>.fin)
 |c::_=>if (b && (bS c ||d7 c))=true then .bad 0 else match w with
  | .pt=>Ci true c r false s
  | .op=>Ci false c r k s
  | .be=>OY c r k s
  | .dn=>Lf c r s
noncomputable def wS:Wst->Str
 | .pt=>"part"
 | .op=>"factor"
 |_=>""
noncomputable def Wst.wn:Wst->Bool
 | .pt=>true
 | .op=>true
 |_=>false
theorem CY(w:Wst)(S:aV):MB (.p (.str (wS w))) (.p (.str "")) S=some (.bl w.wn):=by cases w<;>kernel_rfl
variable{n:Nat}
theorem Ap(H:3≤n)(f x:List Nat)(l:(f++x).length≤900)(g:eP (f++x))(w:Str)(s:List Mk×List P) :
  ax Gv Att Y Rs Tb n "Reader.skip_blanks" [.ref 0] (Sr "part" (f++x) f.length w s)=some (.p .non,Sr "part" (f++x) (f.length+nb x) w s):=by
 have m:(f++x).length=f.length+(nb x+(sk x).length):=by rw[aI,wy]
 have e:=sj x;have h:=G3 (g:="part") (w:=w) (p:=s.2.reverse) (q:=s.1.reverse.map Mk.mks) (n:=n) H f (sk x) (nb x) (by rw[<- e];lia) (λc r a=>by have k:=gc (p:=Lr) a;have b:c < 128:=g c (by rw[e,a];simp);rw[(cR c b).2.2.1];exact k) (by lia)
 rw[<- e]at h;exact h
def MJ(x:Str->GF)(h:Str->GX):EX:=dM (bY (aJ (aM (aT Att) aC "spot") (U (b9 (aM (aT Att) aC "text")))) bD df) (fB (aJ (aM (aT Att) aC "spot") (U (b9 (aM (aT Att) aC "text")))) (cL "NoText" "place" (vE (aM (aT Att) aC "spot"))) j9)
  (dM (bY (dc (aM (aT Att) aC "wanted") (U (vt ""))) (aU (aH (mT Tb x) aC "read_beginning" (fS (mU (aM (aT Att) aC "text") (vE (aM (aT Att) aC "spot")))))) (aU (aH (mT Tb x) aC "read_behind" (fS (mU (aM (aT Att) aC "text") (vE (aM (aT Att) aC "spot"))))))) (fB (dc (aM (aT Att) aC "wanted") (U (vt ""))) (bp (wT Tb h) aC "read_beginning" (fS (mU (aM (aT Att) aC "text") (vE (aM (aT Att) aC "spot"))))) (bp (wT Tb h) aC "read_behind" (fS (mU (aM (aT Att) aC "text") (vE (aM (aT Att) aC "spot"))))))
  (bp (wT Tb h) aC "skip_blanks" a'))
def Ir:EB:=pJ (dc (aM (aT Att) aC "wanted") (U (vt ""))) (bV (cy (vE (aM (aT Att) aC "spot")) (b9 (aM (aT Att) aC "text"))))
variable{c:Nat}
theorem IB(o:Str->GF)(q:Str->GX)(w:Wst)(s:List Mk×List P)(v:i < C.length)(a:C.length≤1000000)(l:L2.atI C (i:Int)=some c)
  (h:ax Gv Att Y Rs Tb n (if w.wn=true then "Reader.read_beginning" else "Reader.read_behind") [.ref 0,.p (.str ⟨#[c]⟩)] (Sr "part" C i (wS w) s)=some (.p .non,Sr "part" C u j b))
  (k:ax Gv Att Y Rs Tb n "Reader.skip_blanks" [.ref 0] (Sr "part" C u j b)=some (.p .non,p)) :
  aO (ax Gv Att Y Rs Tb n) o q [qr 0] (Sr "part" C i (wS w) s)=some (.nx,[qr 0],p):=by
 have d:=bZ a l;have f:=CY w;have x:¬i=C.length:=by lia
 have e:¬(i:Int)=(C.length:Int):=by lia
 unfold Sr at h k ⊢;generalize s.2.reverse=y at *
 generalize s.1.reverse.map Mk.mks=g at *
 generalize b.2.reverse=t at *
 generalize b.1.reverse.map Mk.mks=r at *
 simp only[St]at h k ⊢;cases m:w.wn with
 |true=>rw[m]at f h;simp only[fW]at h;simp[aO,bR,cj,a,x,e,f,d,h,k]
 |false=>rw[m]at f h;simp only[g7,ig]at h;simp[aO,bR,cj,a,x,e,f,d,h,k]
def Bz(n:Nat)(o:Str->GF)(S:aV)(p:Nat):Prop:=(∀x,aO (ax Gv Att Y Rs Tb n) o x [qr 0] S=none)/\∃L h,MJ (ax Gv Att Y Rs Tb n) (di Gv Att Y Rs Tb n) [qr 0] S=some ((("NoText":Str),some (("place":Str),P.int (p:Int))),L,h)
theorem Fp(o:Str->GF)(w:Wst)(s:List Mk×List P)(t:i < C.length)(h:C.length≤1000000)(l:L2.atI C (i:Int)=some c)
  (k:Rz n (if w.wn=true then "Reader.read_beginning" else "Reader.read_behind") [.ref 0,.p (.str ⟨#[c]⟩)] (Sr "part" C i (wS w) s) p):Bz n o (Sr "part" C i (wS w) s) p:=by
 have d:=bZ h l;have f:=CY w;have x:¬i=C.length:=by lia
 have e:¬(i:Int)=(C.length:Int):=by lia
 obtain⟨r,S,a⟩:=k;unfold Bz;unfold Sr at r a ⊢;generalize s.2.reverse=v at *
 generalize s.1.reverse.map Mk.mks=q at *
 simp only[St]at r a ⊢;cases b:w.wn with
 |true=>rw[b]at f r a;simp only[fW]at r a;exact⟨λm=>by simp[aO,bR,cj,h,x,e,f,d,r],_,_,by simp[MJ,bR,cj,h,x,e,f,d,r,a];exact⟨rfl,rfl⟩⟩
 |false=>rw[b]at f r a;simp only[g7,ig]at r a;exact⟨λm=>by simp[aO,bR,cj,h,x,e,f,d,r],_,_,by simp[MJ,bR,cj,h,x,e,f,d,r,a];exact⟨rfl,rfl⟩⟩
theorem Fo(o:Str->GF)(w:Str)(s:List Mk×List P)(h:C.length≤1000000):Bz n o (Sr "part" C C.length w s) C.length:=by
 unfold Bz Sr;generalize s.2.reverse=t at *
 generalize s.1.reverse.map Mk.mks=r at *
 simp only[St];exact⟨λx=>by simp[aO,bR,cj,h],_,_,by simp[MJ,bR,cj,h];exact⟨rfl,rfl⟩⟩
def O_(n:Nat)(f:Str)(a:List D)(m:Nat)(g:Str)(b:List D)(S:aV):Prop:=(∀h,ax Gv Att Y Rs Tb n f a S=some (.p .non,h)->ax Gv Att Y Rs Tb m g b S=some (.p .non,h))/\∀p,Rz n f a S p->Rz m g b S p
section
variable{n c:Nat}{S:aV}(x:∃a,S[0]? = some (.ins "Reader" RK a))
include x
theorem RM(h:eY c "+-*"=true):O_ (n+1) "Reader.read_sign" [.ref 0,.p (.str ⟨#[c]⟩)] (n+2) "Reader.read_behind" [.ref 0,.p (.str ⟨#[c]⟩)] S:=by
 obtain⟨a,s⟩:=x;have k:=λS=>cn c "+-*" S;rw[h]at k;refine⟨λf e=>?_,λp ⟨r,f,b⟩=>?_⟩
 .rw [aB];simp[bE,aw,k,s,e,bz]
 .unfold Rz;rw[aB,bt];exact⟨by simp[bE,aw,k,s,r,bz],_,by simp[a_,fnX,bh,k,s,b];rfl⟩
theorem Mb(h:eY c "+-*"=false)(m:eY c "=!<>"=true):O_ (n+1) "Reader.read_comparison" [.ref 0,.p (.str ⟨#[c]⟩)] (n+2) "Reader.read_behind" [.ref 0,.p (.str ⟨#[c]⟩)] S:=by
 obtain⟨a,f⟩:=x;have k:=λS=>cn c "+-*" S;have s:=λS=>cn c "=!<>" S;rw[h]at k;rw[m]at s;refine⟨λb e=>?_,λp ⟨r,b,t⟩=>?_⟩
 .rw [aB];simp[bE,aw,k,s,f,e,bz]
 .unfold Rz;rw[aB,bt];exact⟨by simp[bE,aw,k,s,f,r,bz],_,by simp[a_,fnX,bh,k,s,f,t];rfl⟩
theorem ID(h:eY c "+-*"=false)(v:eY c "=!<>"=false)(d:eY c "abcdefghijklmnopqrstuvwxyz"=true):O_ (n+1) "Reader.read_joint" [.ref 0,.p (.str (iE c).mks)] (n+2) "Reader.read_behind" [.ref 0,.p (.str ⟨#[c]⟩)] S:=by
 obtain⟨a,m⟩:=x;have s:=λS=>cn c "+-*" S;have f:=λS=>cn c "=!<>" S;have b:=λS=>cn c "abcdefghijklmnopqrstuvwxyz" S;rw[h]at s;rw[v]at f;rw[d]at b;unfold iE;by_cases l:c=97
 .have g:((⟨#[c]⟩:Str)=Str.ofString "a")=True:=by rw[gE (k:=97) (by decide +kernel)];exact gP l
  rw[ae l,show Mk.mks .an=Str.ofString "and" from rfl];refine⟨λr e=>?_,λp ⟨t,r,q⟩=>?_⟩
  .rw [aB];simp[bE,aw,s,f,b,g,m,e,bz]
  .unfold Rz;rw[aB,bt];exact⟨by simp[bE,aw,s,f,b,g,m,t,bz],_,by simp[a_,fnX,bh,s,f,b,g,m,q];rfl⟩
 .have g:((⟨#[c]⟩:Str)=Str.ofString "a")=False:=by rw[gE (k:=97) (by decide +kernel)];exact fX l
  rw[ai l,show Mk.mks .or=Str.ofString "or" from rfl];refine⟨λr e=>?_,λp ⟨t,r,q⟩=>?_⟩
  .rw [aB];simp[bE,aw,s,f,b,g,m,e,bz]
  .unfold Rz;rw[aB,bt];exact⟨by simp[bE,aw,s,f,b,g,m,t,bz],_,by simp[a_,fnX,bh,s,f,b,g,m,q];rfl⟩
theorem OZ(h:eY c "+-*"=false)(r:eY c "=!<>"=false)(t:eY c "abcdefghijklmnopqrstuvwxyz"=false)(l:c=41):O_ (n+1) "Reader.read_round_end" [.ref 0] (n+2) "Reader.read_behind" [.ref 0,.p (.str ⟨#[c]⟩)] S:=by
 obtain⟨a,b⟩:=x;have k:=λS=>cn c "+-*" S;have s:=λS=>cn c "=!<>" S;have f:=λS=>cn c "abcdefghijklmnopqrstuvwxyz" S;rw[h]at k;rw[r]at s;rw[t]at f;have q:((⟨#[c]⟩:Str)=Str.ofString ")")=True:=by rw[BB];exact gP l
 refine⟨λm e=>?_,λp ⟨v,m,d⟩=>?_⟩
 .rw [aB];simp[bE,aw,k,s,f,q,b,e,bz]
 .unfold Rz;rw[aB,bt];exact⟨by simp[bE,aw,k,s,f,q,b,v,bz],_,by simp[a_,fnX,bh,k,s,f,q,b,d];rfl⟩
theorem L_(h:eY c "+-*"=false)(t:eY c "=!<>"=false)(v:eY c "abcdefghijklmnopqrstuvwxyz"=false)(l:c=93):O_ (n+1) "Reader.read_square_end" [.ref 0] (n+2) "Reader.read_behind" [.ref 0,.p (.str ⟨#[c]⟩)] S:=by
 obtain⟨a,b⟩:=x;have k:=λS=>cn c "+-*" S;have s:=λS=>cn c "=!<>" S;have f:=λS=>cn c "abcdefghijklmnopqrstuvwxyz" S;rw[h]at k;rw[t]at s;rw[v]at f;have m:((⟨#[c]⟩:Str)=Str.ofString ")")=False:=by rw[BB];exact fX (by lia)
 have q:((⟨#[c]⟩:Str)=Str.ofString "]")=True:=by rw[HA];exact gP l
 refine⟨λr e=>?_,λp ⟨d,r,w⟩=>?_⟩
 .rw [aB];simp[bE,aw,k,s,f,m,q,b,e,bz]
 .unfold Rz;rw[aB,bt];exact⟨by simp[bE,aw,k,s,f,m,q,b,d,bz],_,by simp[a_,fnX,bh,k,s,f,m,q,b,w];rfl⟩
end
theorem Ma(h:eY c "+-*"=false)(r:eY c "=!<>"=false)(t:eY c "abcdefghijklmnopqrstuvwxyz"=false)(v:c≠41)(p:c≠93):Rz (n+2) "Reader.read_behind" [.ref 0,.p (.str ⟨#[c]⟩)] (Sr b C i w e) i:=by
 have k:=λS=>cn c "+-*" S;have x:=λS=>cn c "=!<>" S;have s:=λS=>cn c "abcdefghijklmnopqrstuvwxyz" S;rw[h]at k;rw[r]at x;rw[t]at s;have f:((⟨#[c]⟩:Str)=Str.ofString ")")=False:=by rw[BB];exact fX v
 have q:((⟨#[c]⟩:Str)=Str.ofString "]")=False:=by rw[HA];exact fX p
 obtain⟨a,m,d⟩:∃a,(Sr b C i w e)[0]? = some (.ins "Reader" RK a)/\fq "spot" RK a=qi (i:Int):=⟨_,rfl,by rw[K7]⟩;generalize Sr b C i w e=S at *
 unfold Rz;rw[aB,bt];exact⟨by simp[bE,aw,k,x,s,f,q,bz],_,by simp[a_,fnX,bh,k,x,s,f,q,m,d];rfl⟩
theorem LX:∀x < 10,(nr (O [48+x])).isSome=true:=by decide +kernel
theorem LW:∀x < 10,∀y < 10,(nr (O [48+x,48+y])).isSome=true:=by decide +kernel
theorem LU:∀x < 10,∀y < 10,∀z < 10,(nr (O [48+x,48+y,48+z])).isSome=true:=by decide +kernel
theorem kx(h:d7 c=true):∃x,x < 10/\c=48+x:=by simp only[d7,aE,gY]at h;exact⟨c-48,by lia,by lia⟩
variable{s:List Nat}
theorem Ib(F:∀c ∈ s,d7 c=true)(m:s≠[])(r:s.length≤3):∃z,fK [.str (O s)]=some (.int z):=by
 have f:(nr (O s)).isSome=true:=by
  match s,F,m,r with
  | [a],F,_,_=>obtain⟨x,e,rfl⟩:=kx (F a (by simp));exact LX x e
  | [a,b],F,_,_=>obtain⟨x,e,rfl⟩:=kx (F a (by simp));obtain⟨y,n,rfl⟩:=kx (F b (by simp));exact LW x e y n
  | [a,b,c],F,_,_=>obtain⟨x,e,rfl⟩:=kx (F a (by simp));obtain⟨y,n,rfl⟩:=kx (F b (by simp));obtain⟨z,k,rfl⟩:=kx (F c (by simp));exact LU x e y n z k
  |_::_::_::_::_,_,_,h=>simp at h
  | [],_,h,_=>exact absurd rfl h
 obtain⟨z,k⟩:=yV.mp f;refine⟨z,?_⟩;unfold fK;dsimp only;rw[ae (by rw[cM];lia),k];rfl
def Sh(k:Bool):Wst->List Mk->List P->Prop
 | .pt,q,v=>Ct q/\v.length=cV q
 | .op,q,v=>Fa k q/\v.length=cV q
 | .be,q,v=>Be k q v
 | .dn,q,v=>Dn q v
def kM(n:Nat)(o:Str->GF)(f r:List Nat)(w:Wst)(q:List Mk)(v:List P):Out->Prop
 | .bad j=>Bz n o (Sr "part" (f++r) f.length (wS w) (q,v)) (f.length+j)
 | .fin=>r=[]/\w.wn=false
 | .go j h k b x=>1≤j/\j≤r.length/\∃m s,(∀a,aO (ax Gv Att Y Rs Tb n) o a [qr 0] (Sr "part" (f++r) f.length (wS w) (q,v))=some (.nx,[qr 0],Sr "part" (f++r) (f.length+j+nb (r.drop j)) (wS h) (m,s))) /\
   Sh k h m s/\gN m=x/\m.length≤f.length+j/\s.length≤f.length+j/\bj (f++r.take j)=b/\(h=.op->b=false)/\(h=.pt->b=true->∀c t,r.drop j=c::t->bS c=false)
variable{f:List Nat}
theorem Hi(h:bj f=false)(g:eP (f++e)):f.length=0\/∃c,L2.atI (f++e) ((f.length:Int)-1)=some c/\eY c ("abcdefghijklmnopqrstuvwxyz"++"0123456789")=false:=by
 rcases uc f with rfl|⟨p,c,rfl⟩
 .exact .inl rfl
 .refine .inr ⟨c,dY (by simp) ?_,?_⟩
  .simp
  .rw [(cR c (g c (by simp))).2.2.2.2.2];simpa[bj] using h
noncomputable def Wst.isP:Wst->Bool
 | .pt=>true
 |_=>false
theorem eX(p:List Nat)(c:Nat):bj (p++[c])=(bS c ||d7 c):=by simp[bj]
theorem lN(n:s≠[])(h:∀c ∈ s,bS c=true\/d7 c=true):bj (f++s)=true:=by
 rcases uc s with rfl|⟨p,c,rfl⟩
 .exact absurd rfl n
 .rw [zw,<- c_,eX,fD];exact h c (by simp)
variable{r:List Nat}
theorem uI(h:r.takeWhile p=s):r.take s.length=s:=by have:r.takeWhile p++r.dropWhile p=r:=ee;rw[h]at this;rw[<- this];simp
theorem AS(h:r.takeWhile p=s):r.drop s.length=r.dropWhile p:=by
 have:r.takeWhile p++r.dropWhile p=r:=ee;rw[h]at this
 conv=>lhs;rw[<- this]
 simp
theorem D5{m:Mk}(h:1≤m.mkl/\m.mkl≤3):∀c ∈ m.tx,bS c=true:=by cases m<;>first|exact absurd h.1 (by decide)|exact absurd h.2 (by decide)|decide +kernel
theorem Lo(h:wJ c=true):∃m:Mk,5≤m.mkl/\m.mkc=c:=by
 simp only[wJ,fD,i0]at h;rcases h with (rfl|rfl)|rfl
 .exact⟨.pl,by decide,rfl⟩
 .exact⟨.mi,by decide,rfl⟩
 .exact⟨.ti,by decide,rfl⟩
theorem cls:∀c < 128,(wJ c=true->bS c=false/\d7 c=false)/\(pH c=true->bS c=false/\d7 c=false/\wJ c=false)/\(bS c=true->pH c=false/\wJ c=false):=by decide +kernel
section
variable{n:Nat}(H:6≤n)(o:Str->GF){f t:List Nat}{c:Nat}(l:(f++c::t).length≤900)(g:eP (f++c::t)){q:List Mk}{v:List P}(A:q.length≤f.length)(B:v.length≤f.length)
include H l g A B
theorem Ew(j:Nat)(w:Str)(s:List Mk×List P)(x:j≤(c::t).length):ax Gv Att Y Rs Tb n "Reader.skip_blanks" [.ref 0] (Sr "part" (f++c::t) (f.length+j) w s)=some (.p .non,Sr "part" (f++c::t) (f.length+j+nb ((c::t).drop j)) w s):=by
 have e:f++(c::t).take j++(c::t).drop j=f++c::t:=by rw[c_,ph]
 have h:=Ap (n:=n) (by lia) (f++(c::t).take j) ((c::t).drop j) (by rw[e];exact l) (by rw[e];exact g) w s;rw[e,aI,dQ,pu x]at h;exact h
theorem f_(y:1≤j)(i:j≤(c::t).length)(a:ax Gv Att Y Rs Tb n (if w.wn=true then "Reader.read_beginning" else "Reader.read_behind") [.ref 0,.p (.str ⟨#[c]⟩)] (Sr "part" (f++c::t) f.length (wS w) (q,v))=some (.p .non,Sr "part" (f++c::t) (f.length+j) (wS e) (m,h)))
  (F:Sh E e m h) (z:gN m=p) (x:m.length≤f.length+j) (r:h.length≤f.length+j) (S:bj (f++(c::t).take j)=b) (s:e=.op->b=false) (k:e=.pt->b=true->∀d u,(c::t).drop j=d::u->bS d=false):kM n o f (c::t) w q v (.go j e E b p):=
 ⟨y,i,m,h,λK=>IB o K w (q,v) (by simp) (by lia) (cP f c t) a (Ew H l g A B j (wS e) (m,h) i),F,z,x,r,S,s,k⟩
theorem cF(h:Rz n (if w.wn=true then "Reader.read_beginning" else "Reader.read_behind") [.ref 0,.p (.str ⟨#[c]⟩)] (Sr "part" (f++c::t) f.length (wS w) (q,v)) (f.length+j)):kM n o f (c::t) w q v (.bad j):=
 Fp o w (q,v) (by simp) (by lia) (cP f c t) h
theorem EI(hw:w=.pt/\k=false\/w=.op)(hs:Sh k w q v)(hl:bj f=true->d7 c=false):kM n o f (c::t) w q v (Ci w.isP c (c::t) k (gN q)):=by
 have hF:Fa k q/\v.length=cV q:=by
  rcases hw with ⟨rfl,rfl⟩|rfl
  .exact⟨hs.1.fa,hs.2⟩
  .exact hs
 have R:w.wn=true:=by rcases hw with ⟨rfl,_⟩|rfl<;>rfl
 have hws:wS w="part"\/wS w="factor":=by rcases hw with ⟨rfl,_⟩|rfl<;>simp[wS]
 have F:(f++c::t).length≤1000000:=by lia
 have hlen:(c::t).length=t.length+1:=rfl;have hcl:f.length+(c::t).length≤900:=by rw[<- aI];exact l
 have hc128:c < 128:=g c (by simp);obtain⟨i1,i2,i3,i4,_,_⟩:=cR c hc128;unfold Ci;by_cases E:d7 c=true
 .rw [ae E];have X:bj f=false:=by
   cases h:bj f with
   |false=>rfl
   |true=>rw[hl h]at E;cases E
  have hpb:=Hi X g;unfold num;have a:(c::t).takeWhile d7++(c::t).dropWhile d7=c::t:=ee;have htk:=uI (p:=d7) (r:=c::t) rfl;have h0:((c::t).takeWhile d7)[0]? = some c:=by rw[eK,ae E];rfl
  have m:∀x ∈ (c::t).takeWhile d7,d7 x=true:=λx K=>jz K;have b:∀x ∈ (c::t).takeWhile d7,x < 128:=λx K=>g x (cw _ (by rw[<- a];exact g_ _ K));have W:∀x ∈ (c::t).takeWhile d7,eY x "0123456789"=true:=λx K=>by rw[(cR x (b x K)).1];exact m x K
  have N:∀d u,(c::t).dropWhile d7=d::u->eY d "0123456789"=false:=λd u e=>by rw[(cR d (g d (cw _ (by rw[<- a,e];simp)))).1];exact gc e
  have G:(c::t).takeWhile d7≠[]:=λe=>by rw[e]at h0;cases h0
  have hrl:((c::t).takeWhile d7).length≤(c::t).length:=by have:=dz dO a;rw[aI]at this;lia
  generalize (c::t).dropWhile d7=P at *
  generalize hrun:(c::t).takeWhile d7=s at *
  have hE:∀x:List Nat,f++c::t=f++(s++P):=λ_=>by rw[a]
  by_cases M:lh c s.length < s.length
  .rw [ae M];rw[hE []]at hpb F;have D:=HB (b:="part") (w:=wS w) (n:=n-1) (by lia) (s:=q) (a:=v) f s P h0 rfl M W F N (by lia) hpb;rw[a]at D;exact cF H o l g A B (by rw[ae R];exact Ft (by lia) (qq ..) (by rw[i1];exact E) D)
  .rw [ai M];have I:1≤s.length:=kU.mpr G;have Z:s.length≤3:=by unfold lh at M;split at M<;>lia
   have hz:s[0]? = some 48->s.length=1:=λe=>by rw[h0]at e;cases e;unfold lh at M;rw[ae rfl]at M;lia
   obtain⟨z,hv⟩:=Ib m G Z;have hN:Num z s:=⟨b,G,Z,W,λx K=>by rw[(cR x (b x K)).2.2.1];obtain⟨y,hy,rfl⟩:=kx (m x K);exact nQ.mpr (by lia),hz,hv⟩
   rw[hE []]at hpb F;have D:=KW (g:="part") (w:=wS w) (n:=n-1) (by lia) (q:=q) (p:=v) z f s P hN F N (by lia) hpb;rw[a]at D;have T:=IG (n:=n) (by lia) (by rw[i1];exact E) ⟨_,_,rfl,rfl⟩ D;exact f_ H o l g A B I hrl (by rw[ae R];exact T) (e:=.be) ⟨_,v,rfl,Dd z,hF.1,hF.2⟩ rfl (by lia) (by rw[aA];lia) (by rw[htk];exact lN G λx K=>.inr (m x K)) (λz=>nomatch z) (λz=>nomatch z)
 rw[ai E];have Q:d7 c=false:=by simpa using E
 by_cases L:bS c=true
 .rw [ae L];unfold Ps;have a:(c::t).takeWhile bS++(c::t).dropWhile bS=c::t:=ee;have htk:=uI (p:=bS) (r:=c::t) rfl;have hdk:=AS (p:=bS) (r:=c::t) rfl;have hdh:∀d u,(c::t).dropWhile bS=d::u->bS d=false:=λd u e=>gc e;have h0:c ∈ (c::t).takeWhile bS:=by rw[eK,ae L];exact bi
  have m:∀x ∈ (c::t).takeWhile bS,bS x=true:=λx K=>jz K;have b:∀x ∈ (c::t).takeWhile bS,x < 128:=λx K=>g x (cw _ (by rw[<- a];exact g_ _ K));have W:∀x ∈ (c::t).takeWhile bS,eY x "abcdefghijklmnopqrstuvwxyz"=true:=λx K=>by rw[(cR x (b x K)).2.1];exact m x K
  have N:∀d u,(c::t).dropWhile bS=d::u->eY d "abcdefghijklmnopqrstuvwxyz"=false:=λd u e=>by rw[(cR d (g d (cw _ (by rw[<- a,e];simp)))).2.1];exact gc e
  have G:(c::t).takeWhile bS≠[]:=λe=>by rw[e]at h0;cases h0
  have hrl:((c::t).takeWhile bS).length≤(c::t).length:=by have:=dz dO a;rw[aI]at this;lia
  have X:bj (f++(c::t).takeWhile bS)=true:=lN G λx K=>.inl (m x K);generalize (c::t).dropWhile bS=P at *
  generalize hrun:(c::t).takeWhile bS=s at *
  have I:1≤s.length:=kU.mpr G;have bad:∀j,(10 < s.length/\j=10\/s.length≤10/\Ch (O s)=true/\(wS w="part"->¬O s=("true":Str)/\¬O s=("not":Str))/\j=s.length)->kM n o f (c::t) w q v (.bad j):=λj hj=>by have D:=HH (b:="part") (w:=wS w) (n:=n-1) (by lia) (s:=q) (a:=v) f s P b hj hws W (by rw[a];exact F) N (by lia);rw[a]at D;exact cF H o l g A B (by rw[ae R];exact Me (by lia) (qq ..) (by rw[i1];exact Q) (by rw[i2];exact L) D)
  by_cases h10:10 < s.length
  .rw [ae h10];exact bad 10 (.inl ⟨h10,rfl⟩)
  rw[ai h10];by_cases hT:(w.isP && decide (s=gv))=true
  .rw [ae hT];rw[aE,gY]at hT;obtain⟨hp,rfl⟩:=hT;rcases hw with ⟨rfl,rfl⟩|rfl
   .have D:=GQ (b:="part") (n:=n-1) (by lia) (s:=q) (a:=v) f P (by rw[a];exact F) N (by lia);rw[a]at D;have T:=vG (n:=n) (by lia) (by rw[i1];exact Q) (by rw[i2];exact L) ⟨_,_,rfl,rfl⟩ D;exact f_ H o l g A B (e:=.dn) (by decide) hrl T ⟨_,v,rfl,x0,hs.1,hs.2⟩ rfl (by lia) (by rw[aA];lia) (by rw[show 4=gv.length from rfl,htk];exact X) (λz=>nomatch z) (λz=>nomatch z)
   .cases hp
  rw[ai hT];by_cases hN:(w.isP && decide (s=tNot))=true
  .rw [ae hN];rw[aE,gY]at hN;obtain⟨hp,rfl⟩:=hN;rcases hw with ⟨rfl,rfl⟩|rfl
   .have D:=KY (b:="part") (n:=n-1) (by lia) (s:=q) (a:=v) f P (by rw[a];exact F) N (by lia);rw[a]at D;have T:=vG (n:=n) (by lia) (by rw[i1];exact Q) (by rw[i2];exact L) ⟨_,_,rfl,rfl⟩ D;exact f_ H o l g A B (e:=.pt) (by decide) hrl T ⟨⟨.inr ⟨by decide,by decide⟩,hs.1⟩,by rw[nG rfl];exact hs.2⟩ (i' (by decide) _) (by rw[aA];lia) (by lia) (by rw[show 3=tNot.length from rfl,htk];exact X) (λz=>nomatch z) (λ_ _ d u e=>hdh d u (by rw[<- hdk];exact e))
   .cases hp
  rw[ai hN];by_cases hW:Ch (O s)=true
  .rw [ae hW];refine bad _ (.inr ⟨by lia,hW,λhp=>?_,rfl⟩);have hp':w.isP=true:=by
    rcases hw with ⟨rfl,_⟩|rfl
    .rfl
    .exact absurd hp LG
   rw[hp',oU,gY]at hT hN;exact⟨by rw[<- qy,hU];exact hT,by rw[<- Ar,hU];exact hN⟩
  .rw [ai hW];have hNm:Nam s:=⟨b,G,by lia,W,fun x K=>by
    rw[(cR x (b x K)).1];have:=m x K
    simp only[bS,d7,aE,gY]at this ⊢;simp;lia,λx K=>by
    rw[(cR x (b x K)).2.2.1];have:=m x K
    simp only[bS,aE,gY]at this;exact nQ.mpr (by lia),λS=>by rw[EC (jj b)];simp[hW]⟩
   have D:=K8 (b:="part") (w:=wS w) (n:=n-1) (by lia) (s:=q) (a:=v) f s P hNm (by rw[a];exact F) N (by lia);rw[a]at D;have T:=vG (n:=n) (by lia) (by rw[i1];exact Q) (by rw[i2];exact L) ⟨_,_,rfl,rfl⟩ D;exact f_ H o l g A B I hrl (by rw[ae R];exact T) (e:=.be) ⟨_,v,rfl,De _,hF.1,hF.2⟩ rfl (by lia) (by rw[aA];lia) (by rw[htk];exact X) (λz=>nomatch z) (λz=>nomatch z)
 rw[ai L];have hL':bS c=false:=by simpa using L
 have hl1:bj (f++(c::t).take 1)=false:=by rw[show(c::t).take 1=[c] from rfl,eX,hL',Q];rfl
 by_cases h40:c=40
 .rw [ae h40];subst h40;have T:=Mf (b:="part") (f:=f++40::t) (i:=f.length) (w:=wS w) (n:=n) (by lia) q v (by lia);exact f_ H o l g A B (ar _) (by rw[hlen];lia) (by rw[ae R];exact T) (e:=.op) ⟨(show Fa k (.lp::q) from .inl ⟨.inr rfl,hF.1⟩),by rw[nG rfl];exact hF.2⟩ rfl (by rw[aA];lia) (by lia) hl1 (λ_=>rfl) (λz=>nomatch z)
 rw[ai h40];by_cases V:(w.isP && decide (c=91))=true
 .rw [ae V];rw[aE,gY]at V;obtain⟨hp,rfl⟩:=V;rcases hw with ⟨rfl,rfl⟩|rfl
  .have T:=Mg (b:="part") (f:=f++91::t) (i:=f.length) (n:=n) (by lia) q v (by lia);exact f_ H o l g A B (e:=.pt) (ar _) (by rw[hlen];lia) T ⟨⟨.inl rfl,hs.1⟩,by rw[nG rfl];exact hs.2⟩ rfl (by rw[aA];lia) (by lia) hl1 (λz=>nomatch z) (λ_ z=>nomatch z)
  .cases hp
 .rw [ai V];have hh:wS w="factor"\/c≠91:=by
   rcases hw with ⟨rfl,rfl⟩|rfl
   .exact .inr λe=>V (by rw[e];rfl)
   .exact .inl rfl
  exact cF H o l g A B (by rw[ae R];exact IH (by lia) (by rw[i1];exact Q) (by rw[i2];exact hL') h40 hh)
end
theorem TU(h:c=97\/c=111):bS c=true/\(1≤(iE c).mkl/\(iE c).mkl≤2):=by rcases h with rfl|rfl<;>decide
theorem Jg(c:Nat):1≤(iE c).mkl/\(iE c).mkl≤2:=by unfold iE;split<;>decide
set_option tactic.hygienic true in
theorem E4(E:pH c=true)(h:E_ c t=some m):m.mkl=4/\1≤m.tx.length/\m.tx.length≤(c::t).length/\bj (f++(c::t).take m.tx.length)=false:=by
 simp only[pH,fD,i0]at E;have o:∀m:Mk,m.mkl=4->m.tx.length=1->m.mkl=4/\1≤m.tx.length/\m.tx.length≤(c::t).length/\bj (f++(c::t).take m.tx.length)=false:=λm a e=>by rw[e];refine⟨a,ar _,by simp,?_⟩;rw[show(c::t).take 1=[c] from rfl,eX];rcases E with ((rfl|rfl)|rfl)|rfl<;>rfl
 have w:∀m:Mk,m.mkl=4->m.tx.length=2->t.head? = some 61->m.mkl=4/\1≤m.tx.length/\m.tx.length≤(c::t).length/\bj (f++(c::t).take m.tx.length)=false:=λm a e x=>by
  cases t with
  |nil=>cases x
  |cons d u=>cases x;rw[e];refine⟨a,by decide,by simp,?_⟩;rw[show(c::61::u).take 2=[c]++[61] from rfl,<- c_,eX];rfl
 unfold E_ at h;split at h
 .split at h
  .rename_i x;cases h;exact w _ rfl rfl x
  .cases h
 .split at h
  .split at h
   .rename_i x;cases h;exact w _ rfl rfl x
   .cases h;exact o _ rfl rfl
  .split at h
   .split at h
    .rename_i x;cases h;exact w _ rfl rfl x
    .cases h;exact o _ rfl rfl
   .cases h;exact o _ rfl rfl
section
variable{n:Nat}(H:6≤n)(o:Str->GF){f t:List Nat}{c:Nat}(l:(f++c::t).length≤900)(g:eP (f++c::t)){q:List Mk}{v:List P}(A:q.length≤f.length)(B:v.length≤f.length)
include H l g A B
theorem Ei(hwn:w.wn=false)(ho:cV q < v.length)(D:FI (gN q) q v)(hl:bj f=true->bS c=false)
  (W:wJ c=true->Rz (n-1) "Reader.read_sign" [.ref 0,.p (.str ⟨#[c]⟩)] (Sr "part" (f++c::t) f.length (wS w) (q,v)) f.length)
  (V:pH c=true->Rz (n-1) "Reader.read_comparison" [.ref 0,.p (.str ⟨#[c]⟩)] (Sr "part" (f++c::t) f.length (wS w) (q,v)) f.length)
  (X:c=41->Rz (n-1) "Reader.read_round_end" [.ref 0] (Sr "part" (f++c::t) f.length (wS w) (q,v)) f.length):kM n o f (c::t) w q v (Lf c (c::t) (gN q)):=by
 obtain⟨n,rfl⟩:=dN (n:=n) (by first|assumption|lia);rw[show n+2-1=n+1 by lia]at W V X;have hcl:f.length+(c::t).length≤900:=by rw[<- aI];exact l
 have hlen:(c::t).length=t.length+1:=rfl;have k:c < 128:=g c (by simp);obtain⟨i1,R,i3,S,_,_⟩:=cR c k;have Q:=Ri c k;obtain⟨q1,q2,q3⟩:=cls c k;have hws:wS w="":=by cases w<;>first|rfl|cases hwn
 have s:∀a b:Str,(if w.wn=true then a else b)=b:=λa b=>by rw[hwn];rfl
 have hrp:(c::t).takeWhile bS++(c::t).dropWhile bS=c::t:=ee;have htk:=uI (p:=bS) (r:=c::t) rfl;have hdk:=AS (p:=bS) (r:=c::t) rfl;have hrl:((c::t).takeWhile bS).length≤(c::t).length:=by have:=dz dO hrp;rw[aI]at this;lia
 have F:bS c=true->(c::t).takeWhile bS≠(iE c).tx->kM (n+2) o f (c::t) w q v (.bad (i7 ((c::t).takeWhile bS) (iE c).tx)):=λL N=>by
  have M:bj f=false:=by
   cases h:bj f with
   |false=>rfl
   |true=>rw[hl h]at L;cases L
  have e:=Eh (k:="part") (w:=wS w) (n:=n+1) (by lia) (Jg c) l g ho (by lia) (by lia) M D N;exact cF H o l g A B (by rw[s];exact(ID (qq ..) (by rw[S];exact(q3 L).2) (by rw[Q];exact(q3 L).1) (by rw[R];exact L)).2 _ e)
 unfold Lf;by_cases I:c=97\/c=111
 .rw [ae I];obtain⟨L,y⟩:=TU I;by_cases he:(c::t).takeWhile bS=(iE c).tx
  .rw [ae he];have M:bj f=false:=by
    cases h:bj f with
    |false=>rfl
    |true=>rw[hl h]at L;cases L
   obtain⟨ms',ts',e,s1,s2,s3,s4,s5⟩:=Eg (k:="part") (w:=wS w) (n:=n+1) (by lia) y l g ho (by lia) (by lia) M D he;have h2:=(ID (qq ..) (by rw[S];exact(q3 L).2) (by rw[Q];exact(q3 L).1) (by rw[R];exact L)).1 _ e;rw[he]at htk hdk hrl;have h1:1≤(iE c).tx.length:=by unfold iE;split<;>decide
   refine f_ H o l g A B (e:=.pt) h1 hrl (by rw[s];exact h2) ⟨s1,s2⟩ s3 (by rw[aA];lia) (by lia) ?_ (λz=>nomatch z) (λ_ _ d u hd=>?_)
   .rw [htk];exact lN (λz=>by rw[z]at h1;cases h1) λx hx=>.inl (D5 ⟨y.1,by lia⟩ x hx)
   .rw [hdk]at hd;exact gc hd
  .rw [ai he];exact F L he
 rw[ai I];have hl1:bS c=false->d7 c=false->bj (f++(c::t).take 1)=false:=λa b=>by rw[show(c::t).take 1=[c] from rfl,eX,a,b];rfl
 by_cases hs:c=93/\(gN q).head? = some false
 .rw [ae hs];obtain⟨rfl,j⟩:=hs;obtain⟨T,Z⟩:∃T,gN q=false::T:=by
   cases h:gN q with
   |nil=>rw[h]at j;cases j
   |cons b T=>rw[h]at j;cases j;exact⟨T,rfl⟩
  rw[Z]at D ⊢;obtain⟨ms',ts',e,s1,s2,s3,s4⟩:=Bo (k:="part") (a:=f++93::t) (i:=f.length) (w:=wS w) (n:=n+1) (by lia) ho (by lia) (by lia) D;have h2:=(L_ (c:=93) (qq ..) (by rw[S];rfl) (by rw[Q];rfl) (by rw[R];rfl) rfl).1 _ e;rw[hws]at h2;exact f_ H o l g A B (e:=.dn) (ar _) (by rw[hlen];lia) (by rw[s,hws];exact h2) s1 s2 (by lia) (by lia) (hl1 rfl rfl) (λz=>nomatch z) (λz=>nomatch z)
 rw[ai hs];by_cases hO:wJ c=true
 .exact cF H o l g A B (by rw[s];exact(RM (qq ..) (by rw[S];exact hO)).2 _ (W hO))
 have m:wJ c=false:=by simpa using hO
 by_cases hE:pH c=true
 .exact cF H o l g A B (by rw[s];exact(Mb (qq ..) (by rw[S];exact m) (by rw[Q];exact hE)).2 _ (V hE))
 have E:pH c=false:=by simpa using hE
 by_cases L:bS c=true
 .have N:(c::t).takeWhile bS≠(iE c).tx:=λe=>by
   rw[eK,ae L]at e;unfold iE at e;rw[ai (λz=>I (.inl z))]at e;exact I (.inr (List.cons.inj e).1)
  have h0:i7 ((c::t).takeWhile bS) (iE c).tx=0:=by rw[eK,ae L];unfold iE;rw[ai (λz=>I (.inl z))];show(if c=111 then _ else 0)=0;rw[ai (λz=>I (.inr z))]
  have:=F L N;rw[h0]at this;exact this
 have G:bS c=false:=by simpa using L
 by_cases K:c=41
 .exact cF H o l g A B (by rw[s];exact(OZ (qq ..) (by rw[S];exact m) (by rw[Q];exact E) (by rw[R];exact G) K).2 _ (X K))
 by_cases P:c=93
 .have Z:gN q=[]:=by
   obtain⟨ms',t',ts',_,_,hCt,_,Z⟩:=D;have j:=hCt.head;rw[Z]at j;cases h:gN q with
   |nil=>rfl
   |cons b T=>
    cases b with
    |true=>rw[h]at j;exact absurd rfl j
    |false=>exact absurd ⟨P,by rw[h];rfl⟩ hs
  rw[Z]at D;exact cF H o l g A B (by rw[s];exact(L_ (qq ..) (by rw[S];exact m) (by rw[Q];exact E) (by rw[R];exact G) P).2 _ (qu (by lia) ho (by lia) (by lia) (.inr D)))
 .exact cF H o l g A B (by rw[s];exact Ma (by rw[S];exact m) (by rw[Q];exact E) (by rw[R];exact G) K P)
theorem OD(D:Dn q v)(p:bj f=true->bS c=false):kM n o f (c::t) .dn q v (Lf c (c::t) (gN q)):=by
 have m:f.length+(c::t).length≤900:=by rw[<- aI];exact l
 have x:=D.lt;refine Ei H o l g A B rfl x D.cnd p (λ_=>Do (by lia) _ D) (λ_=>?_) (λ_=>?_)
 .obtain⟨d,s,rfl,k,a,b⟩:=D;exact A5 (by lia) _ x (by lia) (by lia) (qR (by lia) a _) (.inl k)
 .obtain⟨d,s,rfl,k,a,b⟩:=D;refine sd (by lia) x (by lia) (by lia) (qR (by lia) a _) λr e=>?_;subst e;rcases a.1 with h|h
  .cases h
  .exact absurd h.1 (by decide)
theorem L9(hB:Be k q v)(hl:bj f=true->bS c=false):kM n o f (c::t) .be q v (OY c (c::t) k (gN q)):=by
 have hcl:f.length+(c::t).length≤900:=by rw[<- aI];exact l
 have x:=hB.lt;have hor:=hB.or;have G:(c::t).length=t.length+1:=rfl;have s:c < 128:=g c (by simp);obtain⟨i1,i2,i3,i4,_,_⟩:=cR c s;have i5:=Ri c s;obtain⟨q1,q2,q3⟩:=cls c s;obtain⟨t0,W,K,h1,h2,h3⟩:=id hB;obtain⟨m5,t5,s5,Z,S5,F5,c5,b5,l5⟩:=EG (ar 5) q t0 W h2 h3 h1;rw[<- K]at Z;have u:=cC 5 q v;rw[Z]at u;dsimp only at u;rw[aA]at u;have p:=K' F5 l5;rw[b5]at p;have hl1:bS c=false->d7 c=false->bj (f++(c::t).take 1)=false:=λa b=>by rw[show(c::t).take 1=[c] from rfl,eX,a,b];rfl
 unfold OY;by_cases Q:wJ c=true
 .rw [ae Q];obtain⟨m,V,rfl⟩:=Lo Q;obtain⟨mA,tA,sA,fA,SA,FA,cA,bA,_⟩:=EG V q t0 W h2 h3 h1;have j:=cC m.mkl q v;rw[K]at j x;have X:=Md (b:="part") (f:=f++m.mkc::t) (i:=f.length) (w:=wS .be) (n:=n) (by lia) V q t0 W h1 x (by lia) (by rw[<- K];lia);rw[fA]at X j;dsimp only at X j;rw[<- K]at X j;exact f_ H o l g A B (e:=.op) (ar _) (by rw[G];lia) X ⟨.inl ⟨.inl V,FA⟩,by rw[jE (lH (by lia) (by lia)),aA,cA]⟩ (by rw[i' (by lia),bA]) (by rw[aA];lia) (by lia) (hl1 (q1 Q).1 (q1 Q).2) (λ_=>rfl) (λz=>nomatch z)
 rw[ai Q];have d:wJ c=false:=by simpa using Q
 by_cases hr:c=41/\(gN q).head? = some true
 .rw [ae hr];obtain⟨rfl,hh⟩:=hr;rcases p with ⟨r,rfl,Fr,R⟩|⟨hne,_⟩
  .have X:=Mc (b:="part") (f:=f++41::t) (i:=f.length) (w:=wS .be) (n:=n) (by lia) q v x (by lia) (by lia) r (t5::s5) Z;rw[aA]at u;rw[R,o6];exact f_ H o l g A B (e:=.be) (ar _) (by rw[G];lia) X ⟨t5,s5,rfl,S5,Fr,by rw[nG rfl]at c5;exact c5⟩ rfl (by lia) (by rw[aA];lia) (hl1 rfl rfl) (λz=>nomatch z) (λz=>nomatch z)
  .exact absurd hh hne
 rw[ai hr];obtain⟨n,rfl⟩:=dN (n:=n) (by first|assumption|lia);by_cases D:pH c=true/\k=false/\(gN q).head?≠some true
 .rw [ae D];obtain⟨D,y,hh⟩:=D;have hCt:Ct m5:=by
   rcases p with ⟨r,rfl,Fr,R⟩|⟨_,⟨h,_⟩|⟨_,h⟩⟩
   .rw [R]at hh;exact absurd rfl hh
   .rw [y]at h;cases h
   .exact h
  have e:=L0 (w:=wS .be) (n:=n+1) (by lia) l g D x (by lia) (by lia) Z S5 (fun m r e=>by
   subst e;rcases hCt.1 with rfl|h
   .exact⟨by decide,λz=>nomatch z⟩
   .exact⟨by lia,λz=>by rw[z]at h;exact absurd h.1 (by decide)⟩)
  have hv:=Mb (n:=n) (S:=Sr "part" (f++c::t) f.length (wS .be) (q,v)) (qq ..) (by rw[i4];exact d) (by rw[i5];exact D);rw[show(c::t).tail=t from rfl];cases T:E_ c t with
  |none=>rw[T]at e;exact cF H o l g A B (hv.2 _ e)
  |some m=>rw[T]at e;have F:m.mkl=4/\1≤m.tx.length/\m.tx.length≤(c::t).length/\bj (f++(c::t).take m.tx.length)=false:=E4 D T;exact f_ H o l g A B (e:=.op) F.2.1 F.2.2.1 (hv.1 _ e) ⟨.inr (.inl ⟨F.1,rfl,hCt⟩),by rw[jE (lH (by lia) (by lia)),aA,c5]⟩ (by rw[i' (by lia),b5]) (by rw[aA];lia) (by rw[aA];lia) F.2.2.2 (λ_=>rfl) (λz=>nomatch z)
 rw[ai D];have P:(k=true\/(gN q).head? = some true)->Rz (n+1) "Reader.read_comparison" [.ref 0,.p (.str ⟨#[c]⟩)] (Sr "part" (f++c::t) f.length (wS .be) (q,v)) f.length:=λh=>by
  refine A5 (by lia) _ x (by lia) (by lia) Z (.inr ⟨S5,?_⟩);rcases p with ⟨r,e,_⟩|⟨h2,⟨_,m,r,e,h4⟩|⟨h5,_⟩⟩
  .exact .inl ⟨r,e⟩
  .exact .inr ⟨m,r,e,h4⟩
  .rcases h with h|h
   .rw [h5]at h;cases h
   .exact absurd h h2
 have I:(gN q).head?≠some true->Rz (n+1) "Reader.read_round_end" [.ref 0] (Sr "part" (f++c::t) f.length (wS .be) (q,v)) f.length:=λh=>by refine sd (by lia) x (by lia) (by lia) Z λr e=>?_;subst e;rw[<- b5]at h;exact h rfl
 by_cases y:k=true/\(gN q).head?≠some true
 .rw [ae y];rcases hor with ⟨_,_,hC⟩|⟨h,_⟩
  .exact Ei H o l g A B rfl x hC hl (λz=>absurd z Q) (λ_=>P (.inl y.1)) (λ_=>I y.2)
  .rcases h with h|h
   .rw [y.1]at h;cases h
   .exact absurd h y.2
 rw[ai y];have hSm:MO q v:=by
  rcases hor with ⟨a,b,_⟩|⟨_,h⟩
  .exact absurd ⟨a,b⟩ y
  .exact h
 by_cases M:pH c=true
 .refine cF H o l g A B ((Mb (qq ..) (by rw[i4];exact d) (by rw[i5];exact M)).2 _ (P ?_));cases k with
  |true=>exact .inl rfl
  |false=>right;exact Decidable.byContradiction λh=>D ⟨M,rfl,h⟩
 have E:pH c=false:=by simpa using M
 by_cases hL:bS c=true
 .exact cF H o l g A B ((ID (qq ..) (by rw[i4];exact d) (by rw[i5];exact E) (by rw[i2];exact hL)).2 _ (wH (by lia) _ x (by lia) (by lia) (λv q=>kj (by lia) l g) (.inr hSm)))
 have N:bS c=false:=by simpa using hL
 by_cases L:c=41
 .exact cF H o l g A B ((OZ (qq ..) (by rw[i4];exact d) (by rw[i5];exact E) (by rw[i2];exact N) L).2 _ (I λh=>hr ⟨L,h⟩))
 by_cases h93:c=93
 .exact cF H o l g A B ((L_ (qq ..) (by rw[i4];exact d) (by rw[i5];exact E) (by rw[i2];exact N) h93).2 _ (qu (by lia) x (by lia) (by lia) (.inl hSm)))
 .exact cF H o l g A B (Ma (by rw[i4];exact d) (by rw[i5];exact E) (by rw[i2];exact N) L h93)
end
variable{w:Wst}{k:Bool}
theorem Hc(H:6≤n)(o:Str->GF)(l:(f++r).length≤900)(g:eP (f++r))(x:Sh k w q v)(A:q.length≤f.length)(B:v.length≤f.length)(F:w=.op->bj f=false)(K:w=.pt->bj f=true->∀c t,r=c::t->bS c=false) :
  kM n o f r w q v (stp r w k (bj f) (gN q)):=by
 have T:f.length+r.length≤900:=by rw[<- aI];exact l
 cases r with
 |nil=>
  have e:∀w:Wst,w.wn=true->kM n o f [] w q v (.bad 0):=λw _=>by show Bz n o (Sr "part" (f++[]) f.length (wS w) (q,v)) (f.length+0);rw[fj];exact Fo o _ _ (by lia)
  cases w with
  |pt=>exact e .pt rfl
  |op=>exact e .op rfl
  |be=>exact⟨rfl,rfl⟩
  |dn=>exact⟨rfl,rfl⟩
 |cons c t=>
  have a:c < 128:=g c (by simp);obtain⟨V,G,X,I,_,_⟩:=cR c a;have M:=Ri c a;obtain⟨Z,q2,N⟩:=cls c a;unfold stp;dsimp only;by_cases p:(bj f && (bS c ||d7 c))=true
  .rw [ae p];rw[aE]at p;obtain⟨p,j⟩:=p;have D:∀{m} (E:2≤m) (z:Str) (s:List Mk×List P),ax Gv Att Y Rs Tb m "Reader.touches" [.ref 0] (Sr "part" (f++c::t) f.length z s)=some (.p (.bl true),Sr "part" (f++c::t) f.length z s):=λE z s=>by
    have:=kj (b:="part") (w:=z) E l g (a:=s.2.reverse) (s:=s.1.reverse.map Mk.mks);rw[p]at this;exact this
   have d:∀w:Wst,w.wn=false->cV q < v.length->kM n o f (c::t) w q v (.bad 0):=λw C S=>by
    obtain⟨n,rfl⟩:=dN (n:=n) (by first|assumption|lia);refine cF H o l g A B ?_;rw[C,ai (by decide)];cases L:bS c with
    |true=>have Q:=λv q=>kj (b:="part") (w:=wS w) (n:=n) (by lia) l g (a:=v) (s:=q);rw[p]at Q;exact(ID (qq ..) (by rw[I];exact(N L).2) (by rw[M];exact(N L).1) (by rw[G];exact L)).2 _ (wH (b:=true) (by lia) _ S (by lia) (by lia) Q (.inl rfl))
    |false=>
     have R:d7 c=true:=by rw[L]at j;simpa using j
     obtain⟨y,W,rfl⟩:=kx R;have u:wJ (48+y)=false/\pH (48+y)=false:=by
      constructor
      .simp [wJ];lia
      .simp [pH];lia
     exact Ma (by rw[I];exact u.1) (by rw[M];exact u.2) (by rw[G];exact L) (by lia) (by lia)
   cases w with
   |pt=>have L:=K rfl p c t rfl;rw[L,tN]at j;exact cF H o l g A B (Ft (by lia) (qq ..) (by rw[V];exact j) (BC (by lia) (D (by lia) _ _)))
   |op=>rw[F rfl]at p;cases p
   |be=>exact d .be rfl x.lt
   |dn=>exact d .dn rfl x.lt
  .rw [ai p];have i:bj f=true->d7 c=false/\bS c=false:=λh=>by
    rw[h,oU]at p;simp only[fD,not_or,tP]at p;exact⟨p.2,p.1⟩
   cases w with
   |pt=>exact EI H o l g A B (.inl ⟨rfl,rfl⟩) x λh=>(i h).1
   |op=>exact EI H o l g A B (.inr rfl) x λh=>(i h).1
   |be=>exact L9 H o l g A B x λh=>(i h).2
   |dn=>exact OD H o l g A B x λh=>(i h).2
end My
namespace My
open PySem L2 Ev
def rD:Nat->Nat->List Nat->Wst->Bool->Bool->List Bool->Sum Nat (Wst×Bool×List Bool)
 |0,i,_,_,_,_,_=>.inl i
 |f+1,i,r,w,k,b,q=>match stp r w k b q with
  | .bad j=>.inl (i+j)
  | .fin=>.inr (w,k,q)
  | .go j a x h s=>rD f (i+j+nb (r.drop j)) (sk (r.drop j)) a x (h && decide (nb (r.drop j)=0)) s
variable{m:List Nat}
theorem OQ(w:Wst)(s:List Mk×List P)(h:m.length≤1000000):Ir [qr 0] (Sr "part" m i (wS w) s)=some (w.wn ||decide (i < m.length),Sr "part" m i (wS w) s):=by
 have x:=CY w;unfold Sr;generalize s.2.reverse=t at *
 generalize s.1.reverse.map Mk.mks=r at *
 simp only[St];cases b:w.wn with
 |true=>rw[b]at x;simp[Ir,x]
 |false=>rw[b]at x;simp[Ir,x,bR,cj,h]
theorem AT(k:Nat):s++r.take k++List.replicate (nb (r.drop k)) 32++sk (r.drop k)=s++r:=by rw[c_,<- sj,c_,ph]
theorem qK(m:Nat):bj (p++List.replicate m 32)=(bj p && decide (m=0)):=by
 cases m with
 |zero=>simp
 |succ m=>rw[List.replicate_succ',<- c_,eX];simp[bS,d7]
theorem LF(h:stp r w k b q≠.fin):w.wn=true\/r≠[]:=by
 cases r with
 |nil=>cases w<;>first|exact .inl rfl|exact absurd rfl h
 |cons c t=>exact .inr (λz=>nomatch z)
variable{n:Nat}
theorem Au(hn:6≤n)(E:Str->GF):∀(f:Nat)(s r:List Nat)(w:Wst)(k:Bool)(q:List Mk)(u:List P),r.length < f->(s++r).length≤900->eP (s++r)->Sh k w q u->q.length≤s.length->u.length≤s.length->(w=.op->bj s=false)->(w=.pt->bj s=true->∀c t,r=c::t->bS c=false) ->
  match rD f s.length r w k (bj s) (gN q) with
  | .inl p=>(∀a,aY Ir (aO (ax Gv Att Y Rs Tb n) E a) f [qr 0] (Sr "part" (s++r) s.length (wS w) (q,u))=none)/\∀a,∃L A,dW Ir (aO (ax Gv Att Y Rs Tb n) E a) (MJ (ax Gv Att Y Rs Tb n) (di Gv Att Y Rs Tb n)) f [qr 0] (Sr "part" (s++r) s.length (wS w) (q,u))=some ((("NoText":Str),some (("place":Str),P.int (p:Int))),L,A)
  | .inr (K,G,g)=>∃b v,(∀a,aY Ir (aO (ax Gv Att Y Rs Tb n) E a) f [qr 0] (Sr "part" (s++r) s.length (wS w) (q,u))=some (.nx,[qr 0],Sr "part" (s++r) (s++r).length (wS K) (b,v)))/\K.wn=false/\Sh G K b v/\gN b=g/\b.length≤900/\v.length≤900
 |0,_,r,_,_,_,_,h,_,_,_,_,_,_,_=>absurd h (um _)
 |f+1,s,r,w,k,q,u,hf,Z,X,W,hm,ht,Q,R=>by
  have F:=Hc hn E Z X W hm ht Q R;have d:=OQ (m:=s++r) (i:=s.length) w (q,u) (by lia);have hl:(s++r).length=s.length+r.length:=aI;unfold rD;have H:stp r w k (bj s) (gN q)≠.fin->(w.wn ||decide (s.length < (s++r).length))=true:=λh=>by
   rcases LF h with h|h
   .rw [h];rfl
   .rw [fD];exact .inr (gn (by have:=kU.mpr h;lia))
  generalize stp r w k (bj s) (gN q)=x at F H;cases x with
  |bad j=>
   rw[H (λz=>nomatch z)]at d;exact⟨λa=>xF d (F.1 a),λa=>by obtain⟨L,A,h⟩:=F.2;exact⟨L,A,(CN d (F.1 a)).trans h⟩⟩
  |fin=>obtain⟨rfl,hw⟩:=F;rw[fj]at d ⊢;rw[hw,show(false ||decide (s.length < s.length))=false by simp]at d;exact⟨q,u,λa=>bq d,hw,W,rfl,by lia,by lia⟩
  |go j K G V g=>
   rw[H (λz=>nomatch z)]at d;obtain⟨h1,h2,b,v,S,I,ho,hm',ht',M,B,C⟩:=F;have e:=AT (s:=s) (r:=r) j;have N:(s++r.take j++List.replicate (nb (r.drop j)) 32).length=s.length+j+nb (r.drop j):=by simp only[aI,dQ,kW];lia
   have l:bj (s++r.take j++List.replicate (nb (r.drop j)) 32)=(V && decide (nb (r.drop j)=0)):=by rw[qK,M]
   have T:=wy (r.drop j);rw[gB]at T;have D:=Au hn E f (s++r.take j++List.replicate (nb (r.drop j)) 32) (sk (r.drop j)) K G b v (by lia) (by rw[e];exact Z) (by rw[e];exact X) I (by lia) (by lia) (λz=>by rw[l,B z];rfl) (λz S c t hd=>by rw[l,aE,gY]at S;have hk:=sj (r.drop j);rw[S.2]at hk;exact C z S.1 c t (by rw[hk];simpa using hd))
   rw[e,N,ho,l]at D;dsimp only;generalize rD f (s.length+j+nb (r.drop j)) (sk (r.drop j)) K G (V && decide (nb (r.drop j)=0)) g=y at D ⊢;cases y with
   |inl p=>exact⟨λa=>(dI d (S a)).trans (D.1 a),λa=>by obtain⟨L,A,h⟩:=D.2 a;exact⟨L,A,(Bi d (S a)).trans h⟩⟩
   |inr o=>obtain⟨w2,k2,b2⟩:=o;obtain⟨m2,t2,h,r1⟩:=D;exact⟨m2,t2,λa=>(dI d (S a)).trans (h a),r1⟩
noncomputable def HV:Wst->Bool->List Bool->Bool
 | .dn,_,[]=>true
 | .be,true,[]=>true
 |_,_,_=>false
def xH(m:List Nat):Option Nat:=match rD 1000 (nb m) (sk m) .pt false false [] with
 | .inl p=>some p
 | .inr (w,k,q)=>if HV w k q=true then none else some m.length
theorem pX(x a:Str->GF)(h:Str->GX):jh x a h=dM (aU (aH (mT Tb x) aC "skip_blanks" a')) (bp (wT Tb h) aC "skip_blanks" a') (dM (aY Ir (aO x a h) 1000) (dW Ir (aO x a h) (MJ x h) 1000) (bp (wT Tb h) aC "read_end" a')):=rfl
theorem nO(h x:Str->GF)(a:Str->GX):jX h x a=ag (aU (aH (mT Tb h) aC "skip_blanks" a')) (ag (aY Ir (aO h x a) 1000) (br (aH (mT Tb h) aC "read_end" a'))):=rfl
theorem LJ(n:w.wn=false)(h:Sh k w x f):cV x < f.length/\(HV w k (gN x)=true/\FI [] x f\/HV w k (gN x)=false/\∃b q,MO x f\/FI (b::q) x f):=by
 cases w with
 |pt=>cases n
 |op=>cases n
 |dn=>
  refine⟨h.lt,?_⟩;have C:=Dn.cnd h;cases a:gN x with
  |nil=>rw[a]at C;exact .inl ⟨rfl,C⟩
  |cons b q=>rw[a]at C;exact .inr ⟨rfl,b,q,.inr C⟩
 |be=>
  refine⟨h.lt,?_⟩;rcases Be.or h with ⟨rfl,s,C⟩|⟨e,S⟩
  .cases a:gN x with
   |nil=>rw[a]at C;exact .inl ⟨rfl,C⟩
   |cons b q=>rw[a]at C;exact .inr ⟨rfl,b,q,.inr C⟩
  .refine .inr ⟨?_,true,[],.inl S⟩;rcases e with rfl|e
   .cases gN x<;>rfl
   .cases a:gN x with
    |nil=>rw[a]at e;cases e
    |cons b q=>cases k<;>rfl
theorem Hb(W:8≤n)(A:m.length≤900)(P:eP m):match xH m with
  |some p=>Rz n "Reader.read" [.ref 0] (St "part" m 0 "part" [] []) p
  |none=>∃t S,iX t/\ax Gv Att Y Rs Tb n "Reader.read" [.ref 0] (St "part" m 0 "part" [] [])=some (.p t,S):=by
 obtain⟨n,rfl⟩:=dN (n:=n) (by first|assumption|lia);have e:=Ap (n:=n+1) (by lia) [] m A P "part" ([],[]);have Ew:=sj m;have L:=wy m;have c:bj (List.replicate (nb m) 32)=false:=by have:=qK (p:=[]) (nb m);rw[dv]at this;rw[this];rfl
 have l:=Au (n:=n+1) (by lia) (ax Gv Att Y Rs Tb n) 1000 (List.replicate (nb m) 32) (sk m) .pt false [] [] (by lia) (by rw[<- Ew];exact A) (by rw[<- Ew];exact P) ⟨trivial,rfl⟩ (by simp) (by simp) (λz=>nomatch z) (λ_ z=>by rw[c]at z;cases z);rw[<- Ew,kW,c]at l;simp only[dv,eI,ul]at e;unfold xH;change match rD 1000 (nb m) (sk m) .pt false false [] with | .inl p=>_ | .inr (f,N,d)=>_ at l
 generalize rD 1000 (nb m) (sk m) .pt false false []=y at l ⊢;have u:St "part" m 0 "part" [] []=Sr "part" m 0 "part" ([],[]):=rfl;rw[u];cases y with
 |inl p=>
  obtain⟨h,v⟩:=l;obtain⟨T,S,v⟩:=v (di Gv Att Y Rs Tb (n+1));have h:=h (di Gv Att Y Rs Tb (n+1));unfold Rz;rw[gW,jg,nO,pX];obtain⟨D,k⟩:=qq "part" m 0 "part" ([],[]);change aY _ _ _ _ (Sr "part" m (nb m) "part" ([],[]))=_ at h;change dW _ _ _ _ _ (Sr "part" m (nb m) "part" ([],[]))=_ at v;generalize Sr "part" m (nb m) "part" ([],[])=K at *
  generalize Sr "part" m 0 "part" ([],[])=F at *
  exact⟨by simp[bE,k,e,h,bz],_,by simp[a_,fnX,k,e,h,v];rfl⟩
 |inr o=>
  obtain⟨f,N,d⟩:=o;obtain⟨s,a,h,H,I,M,V,X⟩:=l;subst M;have h:=h (di Gv Att Y Rs Tb (n+1));obtain⟨D,k⟩:=qq "part" m 0 "part" ([],[]);obtain⟨E,x⟩:=qq "part" m m.length (wS f) (s,a);change aY _ _ _ _ (Sr "part" m (nb m) "part" ([],[]))=_ at h;dsimp only;obtain⟨r,⟨g,C⟩|⟨g,b,q,C⟩⟩:=LJ H I
  .rw [g,ae rfl];obtain⟨t,S,j,G⟩:=ER (a:=m) (i:=m.length) (w:=wS f) (n:=n+1) (by lia) r (by lia) (by lia) C;refine⟨t,S,j,?_⟩;rw[gW,nO];generalize Sr "part" m (nb m) "part" ([],[])=K at *
   generalize Sr "part" m 0 "part" ([],[])=F at *
   generalize Sr "part" m m.length (wS f) (s,a)=B at *
   simp[bE,k,e,h,x,G,bz]
  .rw [g,ai (by decide)];obtain⟨Q,S,R⟩:=H0 (a:=m) (i:=m.length) (w:=wS f) (n:=n+1) (by lia) r (by lia) (by lia) C;show Rz _ _ _ _ m.length;unfold Rz;rw[gW,jg,nO,pX];generalize Sr "part" m (nb m) "part" ([],[])=K at *
   generalize Sr "part" m 0 "part" ([],[])=F at *
   generalize Sr "part" m m.length (wS f) (s,a)=B at *
   exact⟨by simp[bE,k,e,h,x,Q,bz],_,by simp[a_,fnX,k,e,h,x,R];rfl⟩
theorem E3(b:10≤n)(c:m.length≤900)(s:eP m):match xH m with
  |some p=>Rz n "read_condition" [.p (.str (O m))] [] p
  |none=>∃x h,ax Gv Att Y Rs Tb n "read_condition" [.p (.str (O m))] []=some (.p (.tup x),h):=by
 obtain⟨n,rfl⟩:=Ub (n:=n) (by first|assumption|lia);have e:=Hb (n:=n+3) (by lia) c s;have i:ax Gv Att Y Rs Tb (n+2) "Reader.__init__" [.ref 0,.p (.str (O m)),.p (.str "part")] [.ins "Reader" [] []]=some (.p .non,St "part" m 0 "part" [] []):=by rw[og];simp[bE,j0,St,bz,RK,Ev.putK,rB]
 generalize xH m=v at e ⊢;obtain⟨d,a⟩:∃d,(St "part" m 0 "part" [] [])[0]? = some (.ins "Reader" RK d):=⟨_,rfl⟩;generalize St "part" m 0 "part" [] []=S at *
 cases v with
 |some p=>obtain⟨r,h,f⟩:=e;show Rz _ _ _ _ _;unfold Rz;rw[iv,lg];exact⟨by simp[bE,fL,i,a,r,bz],_,by simp[a_,fnX,gZ,i,a,f];rfl⟩
 |none=>obtain⟨t,h,⟨k,x,rfl,_⟩,r⟩:=e;refine⟨.str k::x,h,?_⟩;rw[iv];simp[bE,fL,i,a,r,bz]
theorem AG(j u:Str->GF)(g:Str->GX)(a:m.length≤1000000){i:Int}:∀(run s p:List Nat)(f:Nat),m=s++(run++p)->(∀c ∈ run,eY c "abcdefghijklmnopqrstuvwxyz"=true)->(∀c r,p=c::r->eY c "abcdefghijklmnopqrstuvwxyz"=false)->run.length < f ->
  aY (cH (bV (cy hG (b9 aC))) (bV (cQ gk (U (aL cr hG)) (U (vt "abcdefghijklmnopqrstuvwxyz"))))) (iB j u g) f
   [qs (O m),qi i,qi (s.length:Int)] []=some (.nx,[qs (O m),qi i,qi ((s.length+run.length:Nat):Int)],[])
 |run,s,p,0,_,_,_,h=>by lia
 | [],s,p,f+1,n,_,v,_=>by
  cases p with
  |nil=>
   have b:m.length=s.length:=by rw[n];simp
   have k:s.length≤1000000:=by lia
   rw[bq (h:=[]) (by simp[bR,cj,a,b,k])];simp
  |cons c r=>
   have b:s.length < m.length:=by rw[n];simp
   have l:(s.length:Int) < (m.length:Int):=by lia
   have t:L2.atI m (s.length:Int)=some c:=by rw[n];exact cP s c r
   have d:=bZ a t;have q:=v c r rfl;rw[bq (h:=[]) (by simp[bR,cj,a,b,l,d,cn,q])];simp
 |c::run,s,p,f+1,n,w,v,y=>by
  have e:=AG j u g (i:=i) a run (s++[c]) p f (by rw[n];simp) (λx t=>w x (bn _ t)) v (by simp at y;lia);have b:s.length < m.length:=by rw[n];simp
  have l:(s.length:Int) < (m.length:Int):=by lia
  have t:L2.atI m (s.length:Int)=some c:=by rw[n];exact cP s c _
  have d:=bZ a t;have q:=w c bi;rw[dI (h:=[]) (L2:=[qs (O m),qi i,qi ((s++[c]).length:Int)]) (x:=[]) (by simp[bR,cj,a,b,l,d,cn,q]) (by simp[iB])];rw[e];simp;lia
theorem uZ(v:2≤n)(s r:List Nat)(t:(s++r).length≤900)(f:eP (s++r)):hZ (ax Gv Att Y Rs Tb n "_law_run") [.str (O (s++r)),.int (s.length:Int)]=some (.str (O (r.takeWhile bS))):=by
 obtain⟨n,rfl⟩:=dN (n:=n) (by first|assumption|lia);have h:r.takeWhile bS++r.dropWhile bS=r:=ee;have a:∀x ∈ r.takeWhile bS,eY x "abcdefghijklmnopqrstuvwxyz"=true:=λx b=>by rw[(cR x (f x (cw _ (by rw[<- h];exact g_ _ b)))).2.1];exact jz b
 have p:∀d u,r.dropWhile bS=d::u->eY d "abcdefghijklmnopqrstuvwxyz"=false:=λd u e=>by rw[(cR d (f d (cw _ (by rw[<- h,e];simp)))).2.1];exact gc e
 have l:(r.takeWhile bS).length≤r.length:=by have:=dz dO h;rw[aI]at this;lia
 rw[aI]at t;have e:=AG (ax Gv Att Y Rs Tb (n+1)) (ax Gv Att Y Rs Tb n) (di Gv Att Y Rs Tb (n+1)) (m:=s++r) (i:=(s.length:Int)) (by rw[aI];lia) (r.takeWhile bS) s (r.dropWhile bS) 1000 (by rw[h]) a p (by lia);have k:=k_ s (r.takeWhile bS) (r.dropWhile bS);rw[h]at k;have c:(s++r).length≤1000000:=by rw[aI];lia
 generalize r.takeWhile bS=run at *
 generalize s++r=m at *
 have q:fC (.str (O m)) (some (s.length:Int)) (some ((s.length+run.length:Nat):Int))=some (.str (O run)):=by simp only[fC,cM];rw[ae (by rw[fJ];exact c),k]
 rw[wX,bL];simp only[n4,eD,ag,aG,br,U,gQ,vE,bM,AR,aA,eI,aX,ed,g9,dv,pq,List.replicate,pk,fW,jq,zr,zt,e,C8,zz,zA,q,l_]
theorem Jr(A K:Str->GF)(P:Str->GX){m:List Nat}(a:m.length≤1000000){i y:Nat}{v:Option D}{S:aV}{o:D}(g:L2.atI m (i:Int)=some y)(b:y≠48):∀(run s p:List Nat)(f:Nat),m=s++(run++p)->(∀c ∈ run,eY c "0123456789"=true)->(∀c r,p=c::r->eY c "0123456789"=false\/s.length+run.length=i+3)->s.length+run.length≤i+3->run.length < f ->
  aY (cH (dc (U (aL cr ck)) (U (vt "0"))) (cH (bV (cy je (cU gw (v2 (b9 aC) (ac ck rX))))) (bV (cQ gk (U (aL cr je)) (U (vt "0123456789")))))) (ep A K P) f
   [qs (O m),qi (i:Int),some o,qi (s.length:Int),v] S=some (.nx,[qs (O m),qi (i:Int),some o,qi ((s.length+run.length:Nat):Int),v],S)
 |run,s,p,0,_,_,_,_,h=>by lia
 | [],s,p,f+1,k,_,j,z,_=>by
  have d:=bZ a g;have n:gw [.int (m.length:Int),.int ((i:Int)+3)]=some (.int (if (i:Int)+3 < (m.length:Int) then (i:Int)+3 else (m.length:Int))):=rfl;cases p with
  |nil=>
   have H:m.length=s.length:=by rw[k];simp
   have w:s.length≤1000000:=by lia
   have l:¬(s.length:Int) < (if (i:Int)+3 < (m.length:Int) then (i:Int)+3 else (m.length:Int)):=by split<;>lia
   rw[bq (h:=S) (by simp[bR,cj,a,d,FL,b,n,l])];simp
  |cons c r=>
   have H:s.length < m.length:=by rw[k];simp
   have q:L2.atI m (s.length:Int)=some c:=by rw[k];exact cP s c r
   have u:=bZ a q;rcases j c r rfl with t|t
   .by_cases l:(s.length:Int) < (if (i:Int)+3 < (m.length:Int) then (i:Int)+3 else (m.length:Int))
    .rw [bq (h:=S) (by simp[bR,cj,a,d,FL,b,n,l,u,cn,t])];simp
    .rw [bq (h:=S) (by simp[bR,cj,a,d,FL,b,n,l])];simp
   .have l:¬(s.length:Int) < (if (i:Int)+3 < (m.length:Int) then (i:Int)+3 else (m.length:Int)):=by simp at t;split<;>lia
    rw[bq (h:=S) (by simp[bR,cj,a,d,FL,b,n,l])];simp
 |c::run,s,p,f+1,k,F,j,z,C=>by
  have d:=bZ a g;have n:gw [.int (m.length:Int),.int ((i:Int)+3)]=some (.int (if (i:Int)+3 < (m.length:Int) then (i:Int)+3 else (m.length:Int))):=rfl;rw [aA] at z;have e:=Jr A K P (v:=v) (S:=S) (o:=o) a g b run (s++[c]) p f (by rw [k];simp) (fun x q=>F x (bn _ q)) (fun B E h=>by
   have:=j B E h;simp only[aI,aA,eI]at this ⊢;rcases this with h|h
   .exact .inl h
   .exact .inr (by lia)) (by simp;lia) (by simp at C;lia)
  have H:s.length < m.length:=by rw[k];simp
  have l:(s.length:Int) < (if (i:Int)+3 < (m.length:Int) then (i:Int)+3 else (m.length:Int)):=by split<;>lia
  have q:L2.atI m (s.length:Int)=some c:=by rw[k];exact cP s c _
  have u:=bZ a q;have t:=F c bi;rw[dI (h:=S) (L2:=[qs (O m),qi (i:Int),some o,qi ((s++[c]).length:Int),v]) (x:=S) (by simp[bR,cj,a,d,FL,b,n,l,u,cn,t]) (by simp[ep])];rw[e];simp;lia
noncomputable def A8:Bool->Str
 |true=>"("
 |false=>"["
def eE(q:List Bool):aV:=[.lst ((q.reverse.map λb=>P.str (A8 b)).map .p)]
noncomputable def eU(st:Str)(j:Nat)(b:Bool):P:=.tup [.str st,.int (j:Int),.bl b]
theorem uW(b:Bool)(q:List Bool):eE (b::q)=[.lst (((q.reverse.map λb=>P.str (A8 b)).map .p)++[.p (.str (A8 b))])]:=by simp[eE]
theorem E1(s:List P)(x:P):Ev.cut (s++[x]) (some (-1)) none=[x]:=by
 unfold Ev.cut;have h:HT.eQ (s++[x]).length 0 (some (-1))=s.length:=by
  rw[aI,me];first
   |(unfold HT.eQ;simp;lia)
   |(simp[HT.eQ];lia)
   |(simp[HT.eQ])
 have a:HT.eQ (s++[x]).length (s++[x]).length none=s.length+1:=by rw[aI,me];rfl
 rw[h,a];simp
def mF:Option Bool->P
 |some b=>.lst [.str (A8 b)]
 |none=>.lst []
theorem xS(q:List Bool):IZ (.ref 0) (some (-1)) none (eE q)=some (mF q.head?):=by
 show(B' ((q.reverse.map λb=>P.str (A8 b)).map .p)).map _=_;rw[Bc,l_];cases q with
 |nil=>rfl
 |cons b q=>rw[kT,iL,aX,ed,E1];rfl
theorem OB(o:Option Bool):AO (mF o) (.lst [.str ("(":Str)])=some (decide (o=some true)):=by
 cases o with
 |none=>kernel_rfl
 |some b=>cases b<;>kernel_rfl
theorem Jc(o:Option Bool):Jd (mF o) (.lst [.str ("(":Str)])=some (!decide (o=some true)):=by
 cases o with
 |none=>kernel_rfl
 |some b=>cases b<;>kernel_rfl
theorem OC(o:Option Bool):AO (mF o) (.lst [.str ("[":Str)])=some (decide (o=some false)):=by
 cases o with
 |none=>kernel_rfl
 |some b=>cases b<;>kernel_rfl
theorem DF(b:Bool)(q:List Bool):∃d,(eE (b::q))[0]? = some (.lst d)/\d[d.length-1]? = qs (A8 b)/\(eE (b::q)).set 0 (.lst d.dropLast)=eE q:=by rw[uW];exact⟨_,rfl,by simp,by simp[eE]⟩
section
variable{n:Nat}{s t:List Nat}{c:Nat}
theorem KE(a:2≤n)(c:(s++40::t).length≤900)(e:q.length≤900):ax Gv Att Y Rs Tb n "_law_operand" [.p (.str (O (s++40::t))),.p (.int (s.length:Int)),.ref 0] (eE q)=some (.p (eU "operand" (s.length+1) false),eE (true::q)):=by
 obtain⟨n,rfl⟩:=dN (n:=n) (by first|assumption|lia);have d:=bZ (u:=s++40::t) (by lia) (cP s 40 t);have h:q.length≤1000000:=by lia
 have o:((q.reverse.map λb=>P.str (A8 b)).map D.p).length≤1000000:=by simpa using h
 rw[gU,uW];unfold eE;generalize (q.reverse.map λb=>P.str (A8 b)).map D.p=k at *
 generalize O (s++40::t)=x at *
 simp[bE,cu,d,qF,gH,o,bz,eU,A8]
theorem NY(A:2≤n)(P:(s++c::t).length≤900)(i:eP (s++c::t))(F:d7 c=true)(S:aV):ax Gv Att Y Rs Tb n "_law_operand" [.p (.str (O (s++c::t))),.p (.int (s.length:Int)),.ref 0] S=some (.p (eU "behind" (s.length+lh c ((c::t).takeWhile d7).length) true),S):=by
 obtain⟨n,rfl⟩:=dN (n:=n) (by first|assumption|lia);have q:L2.atI (s++c::t) (s.length:Int)=some c:=cP s c t;have p:(s++c::t).length≤1000000:=by lia
 have y:=bZ p q;have v:c≠40:=λe=>by rw[e]at F;cases F
 have z:=λS=>cn c "0123456789" S;rw[(cR c (i c (by simp))).1,F]at z;have H:(s++c::t).length=s.length+(t.length+1):=by simp
 rw[gU];by_cases f:c=48
 .have K:((⟨#[c]⟩:Str)=Str.ofString "0")=True:=by rw[FL];exact gP f
  have e:∀g,aY (cH (dc (U (aL cr ck)) (U (vt "0"))) (cH (bV (cy je (cU gw (v2 (b9 aC) (ac ck rX))))) (bV (cQ gk (U (aL cr je)) (U (vt "0123456789")))))) (ep (ax Gv Att Y Rs Tb (n+1)) (ax Gv Att Y Rs Tb n) g) 1000
   [qs (O (s++c::t)),qi (s.length:Int),qr 0,qi ((s.length:Int)+1),none] S=some (.nx,[qs (O (s++c::t)),qi (s.length:Int),qr 0,qi ((s.length:Int)+1),none],S):=λg=>bq (by simp[y,K])
  have l:lh c ((c::t).takeWhile d7).length=1:=by unfold lh;rw[ae f]
  rw[l];generalize O (s++c::t)=x at *
  simp[bE,cu,eD,y,qF,v,z,e,bz,eU]
 .have r:t.takeWhile d7++t.dropWhile d7=t:=ee;have o:s++c::t=(s++[c])++((t.takeWhile d7).take 2++((t.takeWhile d7).drop 2++t.dropWhile d7)):=by
   rw[<- c_ ((t.takeWhile d7).take 2),ph,r];simp
  have j:∀x ∈ t.takeWhile d7,eY x "0123456789"=true:=λx q=>by rw[(cR x (i x (cw _ (bn _ (by rw[<- r];exact g_ _ q))))).1];exact jz q
  have e:=fun g=>Jr (ax Gv Att Y Rs Tb (n+1)) (ax Gv Att Y Rs Tb n) g (m:=s++c::t) (v:=none) (S:=S) (o:=.ref 0) p q f ((t.takeWhile d7).take 2) (s++[c]) ((t.takeWhile d7).drop 2++t.dropWhile d7) 1000 o (fun x q=>j x (pf q)) (fun d u h=>by
   cases w:(t.takeWhile d7).drop 2 with
   |nil=>rw[w,dv]at h;left;rw[(cR d (i d (cw _ (bn _ (by rw[<- r,h];simp))))).1];exact gc h
   |cons a b=>
    right;have:2 < (t.takeWhile d7).length:=by have:=dz dO w;rw[gB,aA]at this;lia
    rw[dQ,pu (by lia)];simp) (by simp;lia) (by simp;lia)
  have l:lh c ((c::t).takeWhile d7).length=1+((t.takeWhile d7).take 2).length:=by unfold lh;rw[ai f,eK,ae F,aA,dQ];lia
  rw[l];rw[show((s++[c]).length:Int)=(s.length:Int)+1 by simp,show(((s++[c]).length+((t.takeWhile d7).take 2).length:Nat):Int)=(s.length:Int)+(1+(((t.takeWhile d7).take 2).length:Int)) by simp;lia]at e;generalize ((t.takeWhile d7).take 2).length=k at *
  generalize O (s++c::t)=x at *
  simp[bE,cu,eD,y,qF,v,z,e,bz,eU]
theorem NX(A:3≤n)(H:(s++c::t).length≤900)(u:eP (s++c::t))(F:d7 c=false)(a:c≠40)(S:aV):ax Gv Att Y Rs Tb n "_law_operand" [.p (.str (O (s++c::t))),.p (.int (s.length:Int)),.ref 0] S =
  some (.p (if bS c=true then (if 10 < ((c::t).takeWhile bS).length then eU "no" (s.length+10) false else if Ch (O ((c::t).takeWhile bS))=true then eU "no" (s.length+((c::t).takeWhile bS).length) false else eU "behind" (s.length+((c::t).takeWhile bS).length) true) else eU "no" s.length false),S):=by
 obtain⟨n,rfl⟩:=dN (n:=n) (by first|assumption|lia);have z:L2.atI (s++c::t) (s.length:Int)=some c:=cP s c t;have p:(s++c::t).length≤1000000:=by lia
 have d:=bZ p z;have g:=λS=>cn c "0123456789" S;rw[(cR c (u c (by simp))).1,F]at g;have m:=uZ (n:=n+1) (by lia) s (c::t) H u;have q:(c::t).takeWhile bS++(c::t).dropWhile bS=c::t:=ee;have b:∀x ∈ (c::t).takeWhile bS,x < 128:=λx z=>u x (cw _ (by rw[<- q];exact g_ _ z));have w:=EC (jj b);have P:((c::t).takeWhile bS).length≤(c::t).length:=by have:=dz dO q;rw[aI]at this;lia
 rw[aI]at H;have r:((c::t).takeWhile bS).length≤1000000:=by lia
 have l:(O ((c::t).takeWhile bS)).length=((c::t).takeWhile bS).length:=cM _;have j:Ch (O ((c::t).takeWhile bS))=true->((c::t).takeWhile bS).length≤4:=λh=>by rw[<- l];exact HP h
 rw[gU];by_cases L:bS c=true
 .rw [ae L];have f:¬O ((c::t).takeWhile bS)=Str.ofString "":=λe=>by
   have o:=dz kO e;rw[l,eK,ae L,show(Str.ofString "").length=0 by decide +kernel]at o;simp at o
  generalize (c::t).takeWhile bS=run at *
  generalize O run=x at *
  generalize O (s++c::t)=y at *
  cases i:Ch x with
  |true=>
   rw[i]at w;have:=j i
   rw[ai (by lia),ae rfl];simp[bE,cu,d,qF,a,g,m,f,w,bR,cj,l,r,bz,eU]
  |false=>
   rw[i]at w;by_cases v:10 < run.length
   .have k:(10:Int) < (run.length:Int):=by lia
    rw[ae v];simp[bE,cu,d,qF,a,g,m,f,w,bR,cj,l,r,v,k,bz,eU]
   .have k:¬(10:Int) < (run.length:Int):=by lia
    rw[ai v,ai (by decide)];simp[bE,cu,d,qF,a,g,m,f,w,bR,cj,l,r,v,k,bz,eU]
 .rw [ai L];have K:O ((c::t).takeWhile bS)=Str.ofString "":=by
   rw[eK,ai L];decide +kernel
  rw[K]at m;generalize O (s++c::t)=y at *
  simp[bE,cu,d,qF,a,g,m,bz,eU]
end
theorem mu(a b:List Bool):trunc (eE a).length (eE b)=eE b:=by unfold trunc;split<;>rfl
theorem Eu:∀c < 128,eY c "ao"=(c == 97 ||c == 111)/\eY c "=<>!"=pH c:=by decide +kernel
section
variable{n:Nat}{s t:List Nat}{c:Nat}{q:List Bool}
theorem Hs(e:3≤n)(c:(s++91::t).length≤900)(a:eP (s++91::t))(o:q.length≤900):ax Gv Att Y Rs Tb n "_law_part" [.p (.str (O (s++91::t))),.p (.int (s.length:Int)),.ref 0] (eE q)=some (.p (eU "part" (s.length+1) false),eE (false::q)):=by
 obtain⟨n,rfl⟩:=dN (n:=n) (by first|assumption|lia);have d:=bZ (u:=s++91::t) (by lia) (cP s 91 t);have r:=uZ (n:=n+1) (by lia) s (91::t) c a;have h:((q.reverse.map λb=>P.str (A8 b)).map D.p).length≤1000000:=by simp;lia
 rw[mO,uW];unfold eE;generalize (q.reverse.map λb=>P.str (A8 b)).map D.p=k at *
 generalize O ((91::t).takeWhile bS)=y at *
 generalize O (s++91::t)=x at *
 simp[bE,gd,d,r,wu,gH,h,bz,eU,A8]
theorem KC(i:3≤n)(g:(s++c::t).length≤900)(u:eP (s++c::t))(b:c≠91)(S:aV):((c::t).takeWhile bS=gv->ax Gv Att Y Rs Tb n "_law_part" [.p (.str (O (s++c::t))),.p (.int (s.length:Int)),.ref 0] S=some (.p (eU "done" (s.length+4) true),S)) /\
  ((c::t).takeWhile bS=tNot->ax Gv Att Y Rs Tb n "_law_part" [.p (.str (O (s++c::t))),.p (.int (s.length:Int)),.ref 0] S=some (.p (eU "part" (s.length+3) true),S)) /\
  ((c::t).takeWhile bS≠gv->(c::t).takeWhile bS≠tNot->∀v h,ax Gv Att Y Rs Tb (n-1) "_law_operand" [.p (.str (O (s++c::t))),.p (.int (s.length:Int)),.ref 0] S=some (.p v,h)->trunc S.length h=h->ax Gv Att Y Rs Tb n "_law_part" [.p (.str (O (s++c::t))),.p (.int (s.length:Int)),.ref 0] S=some (.p v,h)):=by
 obtain⟨n,rfl⟩:=dN (n:=n) (by first|assumption|lia);have d:=bZ (u:=s++c::t) (by lia) (cP s c t);have r:=uZ (n:=n+1) (by lia) s (c::t) g u;rw[show n+2-1=n+1 by lia,mO];generalize (c::t).takeWhile bS=run at *
 generalize O (s++c::t)=x at *
 refine⟨λe=>?_,λe=>?_,λa k v h f p=>?_⟩
 .rw [e,qy]at r;simp[bE,gd,d,r,wu,b,bz,eU]
 .rw [e,Ar]at r;simp[bE,gd,d,r,wu,b,bz,eU]
 .have q:¬O run=Str.ofString "true":=by rw[<- qy,hU];exact a
  have w:¬O run=Str.ofString "not":=by rw[<- Ar,hU];exact k
  generalize O run=y at *
  simp[bE,gd,d,r,wu,b,q,w,f,p,bz]
theorem AH(z j:Str->GF)(y:Str->GX)(p:m.length≤1000000):∀(w s r:List Nat)(v:Option D),m=s++r ->
  (i7 r w=w.length->∃n,dX (gI 3) (cS z j y) (w.map λc=>P.str ⟨#[c]⟩) [qs (O m),qi (s.length:Int),k,v] []=some (.nx,[qs (O m),qi ((s.length+w.length:Nat):Int),k,n],[])) /\
  (i7 r w≠w.length->∃L,dX (gI 3) (cS z j y) (w.map λc=>P.str ⟨#[c]⟩) [qs (O m),qi (s.length:Int),k,v] []=some (.rt (.p (eU "no" (s.length+i7 r w) false)),L,[]))
 | [],s,r,v,_=>by refine⟨λ_=>⟨v,rfl⟩,λh=>absurd ?_ h⟩;cases r<;>rfl
 |a::w,s,[],v,g=>by
  have K:m.length=s.length:=by rw[g];simp
  have f:s.length≤1000000:=by lia
  refine⟨(λh=>nomatch h),λ_=>⟨[qs (O m),qi (s.length:Int),k,qs (⟨#[a]⟩)],?_⟩⟩;rw[aX,wV rfl (L2:=[qs (O m),qi (s.length:Int),k,qs (⟨#[a]⟩)]) (x:=[]) (d:=.p (eU "no" (s.length+0) false)) (by simp[cS,bR,cj,p,K,f,eU])];rfl
 |a::w,s,b::r,v,g=>by
  have K:s.length < m.length:=by rw[g];simp
  have l:¬(m.length:Int)≤(s.length:Int):=by lia
  have i:¬m.length≤s.length:=by lia
  have A:L2.atI m (s.length:Int)=some b:=by rw[g];exact cP s b r
  have F:=bZ p A;have u:((⟨#[b]⟩:Str)=⟨#[a]⟩)=(b=a):=propext ⟨λe=>by simpa using dz (λx:Str=>x.cps.toList) e,λe=>by rw[e]⟩;by_cases h:b=a
  .have S:=AH z j y p (k:=k) w (s++[b]) r (qs (⟨#[a]⟩)) (by rw[g];simp);have o:cS z j y [qs (O m),qi (s.length:Int),k,qs (⟨#[a]⟩)] []=some (.nx,[qs (O m),qi ((s++[b]).length:Int),k,qs (⟨#[a]⟩)],[]):=by
    have H:=gP (u ▸ h:(⟨#[b]⟩:Str)=⟨#[a]⟩);simp[cS,bR,cj,p,l,i,F,H]
   have t:i7 (b::r) (a::w)=i7 r w+1:=by show(if b=a then _ else _)=_;rw[ae h]
   rw[t,aX,aA];rw[aI,me]at S o;refine⟨λq=>?_,λq=>?_⟩
   .obtain⟨n,e⟩:=S.1 (by lia);refine⟨n,?_⟩;rw[kA rfl o,e,show s.length+1+w.length=s.length+(w.length+1) by lia]
   .obtain⟨L,e⟩:=S.2 (by lia);refine⟨L,?_⟩;rw[kA rfl o,e,show s.length+1+i7 r w=s.length+(i7 r w+1) by lia]
  .have t:i7 (b::r) (a::w)=0:=by show(if b=a then _ else _)=_;rw[ai h]
   rw[t,aX];refine⟨(λq=>nomatch q),λ_=>⟨[qs (O m),qi (s.length:Int),k,qs (⟨#[a]⟩)],?_⟩⟩;have H:=fX (λe:(⟨#[b]⟩:Str)=⟨#[a]⟩=>h (u ▸ e));rw[wV rfl (L2:=[qs (O m),qi (s.length:Int),k,qs (⟨#[a]⟩)]) (x:=[]) (d:=.p (eU "no" (s.length+0) false)) (by simp[cS,bR,cj,p,l,i,F,H,eU])]
theorem Je(c:Nat)(h:c=97\/c=111)(L:Lc)(S:aV):mn (eC "a" (vt "and") (eC "o" (vt "or") vp)) L S=some (.dct [Sum.inr "a",Sum.inr "o"] [.str "and",.str "or"],S)/\gL (Sum.inr ⟨#[c]⟩) [Sum.inr ("a":Str),Sum.inr "o"] [P.str "and",.str "or"]=some (.str (iE c).mks)/\((iE c).mks.cps.all (· < 128))=true/\signs (iE c).mks=(iE c).tx.map λc=>P.str ⟨#[c]⟩:=by
 refine⟨by kernel_rfl,?_⟩;rcases h with rfl|rfl
 .exact⟨by kernel_rfl,by kernel_rfl,by kernel_rfl⟩
 .exact⟨by kernel_rfl,by kernel_rfl,by kernel_rfl⟩
theorem HG(w:2≤n)(v:(s++c::t).length≤900)(h:c=97\/c=111):hZ (ax Gv Att Y Rs Tb n "_law_link") [.str (O (s++c::t)),.int (s.length:Int)]=some (if i7 (c::t) (iE c).tx=(iE c).tx.length then eU "part" (s.length+(iE c).tx.length) true else eU "no" (s.length+i7 (c::t) (iE c).tx) false):=by
 obtain⟨n,rfl⟩:=dN (n:=n) (by first|assumption|lia);have d:=bZ (u:=s++c::t) (by lia) (cP s c t);have k:=λL S=>(Je c h L S).1;obtain⟨_,f,b,r⟩:=Je c h [] [];have g:=AH (ax Gv Att Y Rs Tb (n+1)) (ax Gv Att Y Rs Tb n) (di Gv Att Y Rs Tb (n+1)) (m:=s++c::t) (by lia) (k:=qs ((iE c).mks)) (iE c).tx s (c::t) none rfl;rw[vd,bL];rw[<- r]at g;by_cases a:i7 (c::t) (iE c).tx=(iE c).tx.length
 .rw [ae a];obtain⟨q,e⟩:=g.1 a;generalize (iE c).tx.length=j at *
  generalize (iE c).mks=x at *
  generalize O (s++c::t)=y at *
  simp[jP,d,k,f,b,e,eU]
 .rw [ai a];obtain⟨p,e⟩:=g.2 a;generalize i7 (c::t) (iE c).tx=j at *
  generalize (iE c).mks=x at *
  generalize O (s++c::t)=y at *
  simp[jP,d,k,f,b,e]
def D9(c:Nat)(r:List Nat)(i:Nat):P:=if i7 r (iE c).tx=(iE c).tx.length then eU "part" (i+(iE c).tx.length) true else eU "no" (i+i7 r (iE c).tx) false
theorem Ia(F:3≤n)(w:(s++c::t).length≤900)(p:eP (s++c::t)):ax Gv Att Y Rs Tb n "_law_done" [.p (.str (O (s++c::t))),.p (.int (s.length:Int)),.ref 0] (eE q)=some (if c=97\/c=111 then (.p (D9 c (c::t) s.length),eE q) else if c=93/\q.head? = some false then (.p (eU "done" (s.length+1) false),eE q.tail) else (.p (eU "no" s.length false),eE q)):=by
 obtain⟨n,rfl⟩:=dN (n:=n) (by first|assumption|lia);have d:=bZ (u:=s++c::t) (by lia) (cP s c t);have g:=λS=>cn c "ao" S;rw[(Eu c (p c (by simp))).1]at g;have r:=xS q;have f:=OC q.head?;rw[ve];by_cases h:c=97\/c=111
 .rw [ae h];have e:=HG (n:=n+1) (by lia) w h;change _=some (D9 c (c::t) s.length) at e;rw[show(c == 97 ||c == 111)=true by simpa using h]at g;generalize D9 c (c::t) s.length=v at *
  generalize O (s++c::t)=y at *
  generalize eE q=S at *
  simp[bE,gh,d,g,e,bz]
 .rw [ai h];rw[show(c == 97 ||c == 111)=false by simpa using h]at g;by_cases x:c=93
  .have k:((⟨#[c]⟩:Str)=Str.ofString "]")=True:=by rw[HA];exact gP x
   by_cases a:q.head? = some false
   .rw [ae ⟨x,a⟩];cases q with
    |nil=>cases a
    |cons b q=>
     cases a;obtain⟨H,u,i,j⟩:=DF false q;change AO _ _=some true at f;rw[o6];generalize mF (false::q).head? = l at *
     generalize eE q=o at *
     generalize eE (false::q)=S at *
     generalize O (s++c::t)=y at *
     simp[bE,gh,d,g,k,r,f,gH,u,i,j,bz,eU]
   .rw [ai (λz=>a z.2)];rw[cT a]at f;generalize mF q.head? = l at *
    generalize eE q=S at *
    generalize O (s++c::t)=y at *
    simp[bE,gh,d,g,k,r,f,bz,eU]
  .rw [ai (λz=>x z.1)];have k:((⟨#[c]⟩:Str)=Str.ofString "]")=False:=by rw[HA];exact fX x
   generalize eE q=S at *
   generalize O (s++c::t)=y at *
   simp[bE,gh,d,g,k,bz,eU]
end
noncomputable def kS:Bool->Str
 |true=>"second"
 |false=>"first"
theorem NE(x:(s++c::t).length≤900):fC (.str (O (s++c::t))) (some ((s.length:Int)+1)) (some ((s.length:Int)+2))=some (.str (O (t.take 1))):=by
 have k:∀run p:List Nat,t=run++p->fC (.str (O (s++c::t))) (some ((s.length:Int)+1)) (some ((s.length+1+run.length:Nat):Int))=some (.str (O run)):=λrun p e=>by have h:=k_ (s++[c]) run p;rw[<- e,c_,g9,dv,show((s++[c]).length:Int)=(s.length:Int)+1 by simp,show(s++[c]).length=s.length+1 by simp]at h;simp only[fC,cM];rw[ae (by rw[fJ];lia),h]
 rw[show((s.length:Int)+2)=((s.length+2:Nat):Int) by lia];cases t with
 |nil=>rw[Dl x _ _ (by simp),show(s++[c]).length=s.length+1+([]:List Nat).length by simp];exact k [] [] rfl
 |cons d u=>exact k [d] u rfl
def Fb(c:Nat)(t:List Nat)(i:Nat):P:=match E_ c t with
 |some m=>eU "second" (i+m.tx.length) false
 |none=>eU "no" (i+1) false
def lz(c:Nat)(t:List Nat)(i:Nat)(q:List Bool):P×List Bool:=if c=97\/c=111 then (D9 c (c::t) i,q) else if c=93/\q.head? = some false then (eU "done" (i+1) false,q.tail) else (eU "no" i false,q)
def IF(c:Nat)(t:List Nat)(i:Nat)(k:Bool)(q:List Bool):P×List Bool:=if wJ c=true then (eU "operand" (i+1) false,q) else if c=41/\q.head? = some true then (eU "behind" (i+1) false,q.tail)
 else if pH c=true/\k=false/\q.head?≠some true then (Fb c t i,q) else if k=true/\q.head?≠some true then lz c t i q else (eU "no" i false,q)
section
variable{n:Nat}{s t:List Nat}{c:Nat}{q:List Bool}
theorem EU(a:3≤n)(x:(s++c::t).length≤900)(h:eP (s++c::t)):ax Gv Att Y Rs Tb n "_law_done" [.p (.str (O (s++c::t))),.p (.int (s.length:Int)),.ref 0] (eE q)=some (.p (lz c t s.length q).1,eE (lz c t s.length q).2):=by
 rw[Ia a x h];unfold lz;split
 .rfl
 .split<;>rfl
theorem Im:("=":Str)=O [61]/\("!":Str)=O [33]:=by decide +kernel
theorem L3(B K:Str->GF)(A:Str->GX)(F:(s++c::t).length≤900)(H:eP (s++c::t))(E:pH c=true)(n:q.head?≠some true):∃L,aS B K A [qs (O (s++c::t)),qi (s.length:Int),qr 0,qs "first",qs (⟨#[c]⟩)] (eE q)=some (.rt (.p (Fb c t s.length)),L,eE q):=by
 have u:=xS q;have v:=Jc q.head?;rw[cT n]at v;have g:=λS=>cn c "=<>!" S;rw[(Eu c (H c (by simp))).2,E]at g;have w:=NE F;have d:((⟨#[c]⟩:Str)=Str.ofString "=")=(c=61):=gE (by decide +kernel);have f:((⟨#[c]⟩:Str)=Str.ofString "!")=(c=33):=gE (by decide +kernel);have m:fK [.bl false]=some (.int 0):=rfl;have z:fK [.bl true]=some (.int 1):=rfl;have r:∀a b:P,lT (.lst [a,b]) (.int 0)=some a:=λa b=>rfl;have o:∀a b:P,lT (.lst [a,b]) (.int 1)=some b:=λa b=>rfl;have j:(O (t.take 1)=Str.ofString "=")=(t.head? = some 61):=by rw[show Str.ofString "="=O [61] from Im.1,hU];cases t<;>simp
 generalize mF q.head? = C at *
 generalize eE q=S at *
 generalize O (t.take 1)=l at *
 generalize O (s++c::t)=y at *
 generalize s.length=i at *
 simp only[pH,fD,i0]at E;by_cases x:c=61
 .have h:Fb c t i=eU "second" (i+1) false:=by rw[x];rfl
  rw[h];have p:=gP (d ▸ x:(⟨#[c]⟩:Str)=Str.ofString "=");have f2:=fX (λe:(⟨#[c]⟩:Str)=Str.ofString "!"=>by rw[f,x]at e;cases e);by_cases n:t.head? = some 61
  .have f3:=gP (j ▸ n:l=Str.ofString "=");exact⟨_,by simp[aS,u,v,g,w,p,f2,f3,m,r,eU];rfl⟩
  .have f3:=fX (λe:l=Str.ofString "="=>n (j ▸ e));exact⟨_,by simp[aS,u,v,g,w,p,f2,f3,m,r,eU];rfl⟩
 .have p:=fX (λe:(⟨#[c]⟩:Str)=Str.ofString "="=>x (d ▸ e));by_cases n:t.head? = some 61
  .have f3:=gP (j ▸ n:l=Str.ofString "=");have h:Fb c t i=eU "second" (i+2) false:=by
    unfold Fb E_;rcases E with ((rfl|rfl)|rfl)|rfl
    .exact absurd rfl x
    .simp [n];rfl
    .simp [n];rfl
    .simp [n];rfl
   rw[h];exact⟨_,by simp[aS,u,v,g,w,p,f3,eU];rfl⟩
  .have f3:=fX (λe:l=Str.ofString "="=>n (j ▸ e));by_cases k:c=33
   .have f2:=gP (f ▸ k:(⟨#[c]⟩:Str)=Str.ofString "!");have h:Fb c t i=eU "no" (i+1) false:=by
     unfold Fb E_;rw[k];simp[n]
    rw[h];exact⟨_,by simp[aS,u,v,g,w,p,f2,f3,z,o,eU];rfl⟩
   .have f2:=fX (λe:(⟨#[c]⟩:Str)=Str.ofString "!"=>k (f ▸ e));have h:Fb c t i=eU "second" (i+1) false:=by
     unfold Fb E_;rcases E with ((rfl|rfl)|rfl)|rfl
     .exact absurd rfl x
     .exact absurd rfl k
     .simp [n];rfl
     .simp [n];rfl
    rw[h];exact⟨_,by simp[aS,u,v,g,w,p,f2,f3,m,r,eU];rfl⟩
theorem O0(W:4≤n)(k:Bool)(D:(s++c::t).length≤900)(A:eP (s++c::t)):ax Gv Att Y Rs Tb n "_law_behind" [.p (.str (O (s++c::t))),.p (.int (s.length:Int)),.ref 0,.p (.str (kS k))] (eE q)=some (.p (IF c t s.length k q).1,eE (IF c t s.length k q).2):=by
 obtain⟨n,rfl⟩:=dN (n:=n) (by first|assumption|lia);have d:=bZ (u:=s++c::t) (by lia) (cP s c t);have g:=λS=>cn c "+-*" S;rw[(cR c (A c (by simp))).2.2.2.1]at g;have p:=xS q;have u:=OB q.head?;have x:=Jc q.head?;have w:=λS=>cn c "=<>!" S;rw[(Eu c (A c (by simp))).2]at w;have o:=EU (q:=q) (n:=n+1) (by lia) D A;have C:=λR N Q=>L3 (q:=q) R N Q D A;have K:=mu q (lz c t s.length q).2;rw[qU];unfold IF;by_cases l:wJ c=true
 .rw [ae l];rw[l]at g;generalize O (s++c::t)=y at *
  generalize eE q=S at *
  simp[bE,bv,d,g,bz,eU]
 rw[ai l];rw[tP]at l;rw[l]at g;by_cases f:c=41/\q.head? = some true
 .rw [ae f];have a:((⟨#[c]⟩:Str)=Str.ofString ")")=True:=by rw[BB];exact gP f.1
  cases q with
  |nil=>cases f.2
  |cons b q=>
   have j:=f.2;cases j;obtain⟨V,I,L,M⟩:=DF true q;change AO _ _=some true at u;rw[o6];generalize mF (true::q).head? = P at *
   generalize eE q=G at *
   generalize eE (true::q)=S at *
   generalize O (s++c::t)=y at *
   simp[bE,bv,d,g,a,p,u,gH,I,L,M,bz,eU]
 rw[ai f];have F:(((⟨#[c]⟩:Str)=Str.ofString ")")=False)\/(((⟨#[c]⟩:Str)=Str.ofString ")")=True)/\AO (mF q.head?) (.lst [.str ("(":Str)])=some false:=by
  by_cases r:c=41
  .rw [cT (λz=>f ⟨r,z⟩)]at u;exact .inr ⟨by rw[BB];exact gP r,u⟩
  .exact .inl (by rw[BB];exact fX r)
 by_cases E:pH c=true/\k=false/\q.head?≠some true
 .rw [ae E];obtain⟨T,e⟩:=C (ax Gv Att Y Rs Tb (n+1)) (ax Gv Att Y Rs Tb n) (di Gv Att Y Rs Tb (n+1)) E.1 E.2.2;rw[E.2.1,show kS false=Str.ofString "first" from rfl];generalize Fb c t s.length=v at *
  generalize O (s++c::t)=y at *
  generalize mF q.head? = P at *
  generalize eE q=S at *
  rcases F with a|⟨a,i⟩
  .simp [bE,bv,d,g,a,e,bz]
  .simp [bE,bv,d,g,a,i,p,e,bz]
 rw[ai E];by_cases H:k=true/\q.head?≠some true
 .rw [ae H];rw[H.1,show kS true=Str.ofString "second" from rfl];rw[cT H.2]at x;generalize (lz c t s.length q).1=v at *
  generalize eE (lz c t s.length q).2=G at *
  generalize O (s++c::t)=y at *
  generalize mF q.head? = P at *
  generalize eE q=S at *
  rcases F with a|⟨a,i⟩
  .simp [bE,bv,aS,d,g,a,p,x,o,K,bz]
  .simp [bE,bv,aS,d,g,a,i,p,x,o,K,bz]
 rw[ai H];cases k with
 |true=>
  have j:q.head? = some true:=Classical.not_not.mp λz=>H ⟨rfl,z⟩;rw[gn j]at x;rw[show kS true=Str.ofString "second" from rfl];generalize O (s++c::t)=y at *
  generalize mF q.head? = P at *
  generalize eE q=S at *
  rcases F with a|⟨a,i⟩
  .simp [bE,bv,aS,d,g,a,p,x,bz,eU]
  .simp [bE,bv,aS,d,g,a,i,p,x,bz,eU]
 |false=>
  rw[show kS false=Str.ofString "first" from rfl];by_cases j:q.head? = some true
  .rw [gn j]at x;generalize O (s++c::t)=y at *
   generalize mF q.head? = P at *
   generalize eE q=S at *
   rcases F with a|⟨a,i⟩
   .simp [bE,bv,aS,d,g,a,p,x,bz,eU]
   .simp [bE,bv,aS,d,g,a,i,p,x,bz,eU]
  .have B:pH c=false:=by
    cases h:pH c with
    |false=>rfl
    |true=>exact absurd ⟨h,rfl,j⟩ E
   rw[B]at w;rw[cT j]at x;generalize O (s++c::t)=y at *
   generalize mF q.head? = P at *
   generalize eE q=S at *
   rcases F with a|⟨a,i⟩
   .simp [bE,bv,aS,d,g,a,p,x,w,bz,eU]
   .simp [bE,bv,aS,d,g,a,i,p,x,w,bz,eU]
end
end My
namespace My
open PySem L2 Ev
noncomputable def lI:Wst->Str
 | .pt=>"part"
 | .op=>"operand"
 | .be=>"behind"
 | .dn=>"done"
def WL(s:List Nat)(E:Str)(i:Nat)(b:Bool)(q:Str)(x:Option D):Lc:=[qs (O s),qs E,qr 0,qi (i:Int),qp (.bl b),qs q,x]
def Jt:EB:=bV (cy je (b9 aC))
def R4:ES:=bY (aJ (U (aL cr je)) (U (vt " "))) (ag (aG 4 (U (vC (.bl false)))) (ag (aG 3 (U (ac je cz))) Mx)) df
def Qt:ES:=bY (cH (bT Bh) (bV (cQ gk (U (aL cr je)) (U (vt "abcdefghijklmnopqrstuvwxyz0123456789"))))) (br nl) df
def xE (h:Str->GF):ES:=bY (aJ dD (U (vt "part"))) (ag (aG 5 (U (vt "first")))
  (aG 6 (U (fZ (h "_law_part") (IN aC nl ib))))) (bY (aJ dD (U (vt "operand"))) (aG 6 (U (fZ (h "_law_operand") (IN aC nl ib)))) (bY (aJ dD (U (vt "behind"))) (aG 6 (U (fZ (h "_law_behind") (R1 aC nl ib rf)))) (aG 6 (U (fZ (h "_law_done") (IN aC nl ib))))))
def IQ:ES:=ag (G8 (wU [gI 1,gI 3,gI 4]) rW) (ag (bY (aJ dD (U (vt "no"))) (br nl) df)
  (bY (aJ dD (U (vt "second"))) (ag (aG 5 (U (vt "second"))) (aG 1 (U (vt "operand")))) df))
theorem Nh(h o:Str->GF)(G:Str->GX):aQ h o G=ag R4 (ag Qt (ag (xE h) IQ)):=rfl
variable{S:aV}
theorem wd(h:e L S=some (.nx,k,p)):ag e b L S=b k p:=by simp[ag,h]
section
variable{n:Nat}(o:Str->GF)(G:Str->GX){a t s:List Nat}{c i j:Nat}{x:Option D}{E v q H:Str}{b m:Bool}{S B:aV}
theorem AZ(h:s.length≤1000000):Jt (WL s E i b q x) S=some (decide (i < s.length),S):=by simp[Jt,WL,bR,cj,h]
theorem CU(e:Str->GF)(A:(a++32::t).length≤900):aQ e o G (WL (a++32::t) E a.length b q x) S=some (.ct,WL (a++32::t) E (a.length+1) false q x,S):=by
 have h:=bZ (u:=a++32::t) (by lia) (cP a 32 t);generalize a++32::t=s at *
 simp[aQ,WL,h,KR]
theorem uz(n:Str->GF):∀(m f:Nat)(a:List Nat)(b:Bool),(a++(List.replicate m 32++t)).length≤900 ->
  aY Jt (aQ n o G) (f+m) (WL (a++(List.replicate m 32++t)) E a.length b q x) S=aY Jt (aQ n o G) f (WL (a++(List.replicate m 32++t)) E (a.length+m) (b && decide (m=0)) q x) S
 |0,f,a,b,_=>by simp
 |m+1,f,a,b,A=>by have e:=uz n m f (a++[32]) false (by simp at A ⊢;lia);rw[dR,g9]at A ⊢;have h:=AZ (x:=x) (s:=a++32::(List.replicate m 32++t)) (E:=E) (i:=a.length) (b:=b) (q:=q) (S:=S) (by lia);rw[gn (by simp)]at h;rw[show f+(m+1)=(f+m)+1 by lia,p0 h (CU o G n A)];simp only[c_,g9,dv,aI,aA,eI,oV,ul]at e;rw[e];simp[Nat.add_assoc,zC 1 m]
theorem Af(A:(a++c::t).length≤900)(C:eP (a++c::t))(f:c≠32)(w:(bS c ||d7 c)=true)(e:Str->GF) :
  ∃L,aQ e o G (WL (a++c::t) E a.length true q x) S=some (.rt (.p (.int (a.length:Int))),L,S):=by
 have d:=bZ (u:=a++c::t) (by lia) (cP a c t);have h:=λS=>cn c "abcdefghijklmnopqrstuvwxyz0123456789" S;rw[(cR c (C c (by simp))).2.2.2.2.1,w]at h;generalize a++c::t=s at *
 exact⟨_,by simp[aQ,WL,d,KR,f,h];rfl⟩
theorem CT(A:(a++c::t).length≤900)(C:eP (a++c::t))(f:c≠32)(r:(b && (bS c ||d7 c))=false)(e:Str->GF):aQ e o G (WL (a++c::t) E a.length b q x) S=ag (xE e) IQ (WL (a++c::t) E a.length b q x) S:=by
 have d:=bZ (u:=a++c::t) (by lia) (cP a c t);have h:=λS=>cn c "abcdefghijklmnopqrstuvwxyz0123456789" S;rw[(cR c (C c (by simp))).2.2.2.2.1]at h;have n:((⟨#[c]⟩:Str)=Str.ofString " ")=False:=by rw[KR];exact fX f
 rw[Nh];generalize a++c::t=s at *
 refine(wd (k:=WL s E a.length b q x) (p:=S) (by simp[R4,WL,d,n])).trans ((wd (k:=WL s E a.length b q x) (p:=S) ?_).trans rfl);cases b with
 |false=>simp[Qt,WL]
 |true=>rw[oU]at r;rw[r]at h;simp[Qt,WL,d,h]
theorem IA(h:ax Gv Att Y Rs Tb n "_law_part" [.p (.str (O s)),.p (.int (i:Int)),.ref 0] S=some (.p e,B))(a:trunc S.length B=B):xE (ax Gv Att Y Rs Tb n) (WL s "part" i b q x) S=some (.nx,WL s "part" i b "first" (qp e),B):=by simp[xE,WL,h,a]
theorem RG(h:ax Gv Att Y Rs Tb n "_law_operand" [.p (.str (O s)),.p (.int (i:Int)),.ref 0] S=some (.p e,B))(a:trunc S.length B=B):xE (ax Gv Att Y Rs Tb n) (WL s "operand" i b q x) S=some (.nx,WL s "operand" i b q (qp e),B):=by simp[xE,WL,h,a]
theorem RI(h:ax Gv Att Y Rs Tb n "_law_behind" [.p (.str (O s)),.p (.int (i:Int)),.ref 0,.p (.str q)] S=some (.p e,B))(a:trunc S.length B=B):xE (ax Gv Att Y Rs Tb n) (WL s "behind" i b q x) S=some (.nx,WL s "behind" i b q (qp e),B):=by simp[xE,WL,h,a]
theorem RH(h:ax Gv Att Y Rs Tb n "_law_done" [.p (.str (O s)),.p (.int (i:Int)),.ref 0] S=some (.p e,B))(a:trunc S.length B=B):xE (ax Gv Att Y Rs Tb n) (WL s "done" i b q x) S=some (.nx,WL s "done" i b q (qp e),B):=by simp[xE,WL,h,a]
theorem Rt(w:Wst):IQ (WL s E i b q (qp (eU (lI w) j m))) S=some (.nx,WL s (lI w) j m q (qp (eU (lI w) j m)),S):=by cases w<;>simp[IQ,WL,eU,lI]
theorem OH:IQ (WL s E i b q (qp (eU "second" j m))) S=some (.nx,WL s (lI .op) j m (kS true) (qp (eU "second" j m)),S):=by simp[IQ,WL,eU,lI,kS]
theorem Rq:∃L,IQ (WL s E i b q (qp (eU "no" j m))) S=some (.rt (.p (.int (j:Int))),L,S):=⟨_,by simp[IQ,WL,eU];rfl⟩
end
def Ca(n:Nat)(o:Str->GF)(G:Str->GX)(a r:List Nat)(E:Str)(b:Bool)(l:List Bool)(q:Str)(x:Option D):Out->Prop
 | .bad j=>(∃L B,aQ (ax Gv Att Y Rs Tb n) o G (WL (a++r) E a.length b q x) (eE l)=some (.rt (.p (.int ((a.length+j:Nat):Int))),L,B)) \/
   (1≤j/\j < r.length/\(∃d u,r.drop j=d::u/\(bS d ||d7 d)=true)/\∃v H h,aQ (ax Gv Att Y Rs Tb n) o G (WL (a++r) E a.length b q x) (eE l)=some (.nx,WL (a++r) v (a.length+j) true H h,eE l))
 | .fin=>False
 | .go j w k m s=>1≤j/\j≤r.length/\s.length≤l.length+1/\∃H h,aQ (ax Gv Att Y Rs Tb n) o G (WL (a++r) E a.length b q x) (eE l)=some (.nx,WL (a++r) (lI w) (a.length+j) m H h,eE s)/\(w=.op\/w=.be->H=kS k)
theorem Aq:∀(r t:List Nat),(∀c ∈ t,bS c=true)->i7 r t=i7 (r.takeWhile bS) t
 | [],t,_=>rfl
 |a::r,[],_=>by rw[eK];split<;>rfl
 |a::r,b::t,h=>by
  by_cases x:a=b
  .subst x;rw[eK,ae (h a bi)];show(if a=a then _ else _)=(if a=a then _ else _);rw[ae rfl,ae rfl,Aq r t λc A=>h c (bn _ A)]
  .rw [eK];split
   .show (if a=b then _ else _)=(if a=b then _ else _);rw[ai x,ai x]
   .show (if a=b then _ else _)=_;rw[ai x];rfl
theorem v9:∀x:List Nat,i7 x x=x.length
 | []=>rfl
 |a::x=>by show(if a=a then _ else _)=_;rw[ae rfl,v9 x];rfl
theorem v_:∀(x t:List Nat),i7 x t=t.length->∃u,x=t++u
 |x,[],_=>⟨x,rfl⟩
 | [],b::t,h=>by cases h
 |a::x,b::t,h=>by
  by_cases e:a=b
  .have s:(if a=b then i7 x t+1 else 0)=t.length+1:=h;rw[ae e]at s;obtain⟨u,n⟩:=v_ x t (by lia);exact⟨u,by rw[e,n];rfl⟩
  .have s:(if a=b then i7 x t+1 else 0)=t.length+1:=h;rw[ai e]at s;lia
section
variable{n:Nat}{o:Str->GF}{G:Str->GX}{a t:List Nat}{c:Nat}{x:Option D}{E q H:Str}{b:Bool}{l:List Bool}(A:(a++c::t).length≤900)(C:eP (a++c::t))(f:c≠32)(r:(b && (bS c ||d7 c))=false)
include A C f r
theorem p9(e:xE (ax Gv Att Y Rs Tb n) (WL (a++c::t) E a.length b q x) (eE l)=some (.nx,WL (a++c::t) E a.length b H (qp (eU (lI h) j m)),B)):aQ (ax Gv Att Y Rs Tb n) o G (WL (a++c::t) E a.length b q x) (eE l)=some (.nx,WL (a++c::t) (lI h) j m H (qp (eU (lI h) j m)),B):=
 (CT o G A C f r _).trans ((wd e).trans (Rt h))
theorem Ni(h:xE (ax Gv Att Y Rs Tb n) (WL (a++c::t) E a.length b q x) (eE l)=some (.nx,WL (a++c::t) E a.length b H (qp (eU "second" j m)),B)):aQ (ax Gv Att Y Rs Tb n) o G (WL (a++c::t) E a.length b q x) (eE l)=some (.nx,WL (a++c::t) (lI .op) j m (kS true) (qp (eU "second" j m)),B):=
 (CT o G A C f r _).trans ((wd h).trans OH)
theorem xG(h:xE (ax Gv Att Y Rs Tb n) (WL (a++c::t) E a.length b q x) (eE l)=some (.nx,WL (a++c::t) E a.length b H (qp (eU "no" (a.length+j) m)),B)):Ca n o G a (c::t) E b l q x (.bad j):=by obtain⟨L,e⟩:=Rq (s:=a++c::t) (E:=E) (i:=a.length) (b:=b) (q:=H) (j:=a.length+j) (m:=m) (S:=B);exact .inl ⟨L,B,(CT o G A C f r _).trans ((wd h).trans e)⟩
theorem IS(Q:3≤h)(k:Bool)(I:l.length≤900)(m:H=kS k)(K:∀v B,ax Gv Att Y Rs Tb h "_law_operand" [.p (.str (O (a++c::t))),.p (.int (a.length:Int)),.ref 0] (eE l)=some (.p v,B)->trunc (eE l).length B=B->xE (ax Gv Att Y Rs Tb n) (WL (a++c::t) E a.length b q x) (eE l)=some (.nx,WL (a++c::t) E a.length b H (qp v),B)):Ca n o G a (c::t) E b l q x (Ci false c (c::t) k l):=by
 unfold Ci;by_cases F:d7 c=true
 .rw [ae F];have e:=p9 (o:=o) (G:=G) A C f r (h:=.be) (K _ _ (NY (n:=h) (by lia) A C F (eE l)) (mu ..));have p:(c::t).takeWhile d7++(c::t).dropWhile d7=c::t:=ee;have w:1≤((c::t).takeWhile d7).length:=by rw[eK,ae F,aA];lia
  have i:∀x ∈ (c::t).takeWhile d7,d7 x=true:=λx N=>jz N;have g:=dz dO p;rw[aI]at g;unfold num;generalize (c::t).takeWhile d7=run at *
  have S:1≤lh c run.length/\lh c run.length≤run.length:=by unfold lh;split<;>lia
  by_cases z:lh c run.length < run.length
  .rw [ae z];refine .inr ⟨S.1,by lia,?_,_,_,_,e⟩;rw[<- p,List.drop_append_of_le_length S.2];cases y:run.drop (lh c run.length) with
   |nil=>have:=dz dO y;rw[gB,eI]at this;lia
   |cons d u=>exact⟨d,u++(c::t).dropWhile d7,rfl,by rw[i d (zu (by rw[y];exact bi)),tM]⟩
  .rw [ai z];have M:lh c run.length=run.length:=by lia
   rw[M]at e;exact⟨w,by lia,by lia,_,_,e,λ_=>m⟩
 .rw [ai F];have P:d7 c=false:=by simpa using F
  by_cases s:c=40
  .subst s;rw[ai (by decide),ae rfl];exact⟨ar _,by simp,by simp,_,_,p9 A C f r (h:=.op) (K _ _ (KE (by lia) A I) (mu ..)),λ_=>m⟩
  .have e:=K _ _ (NX (n:=h) (by lia) A C P s (eE l)) (mu ..);by_cases L:bS c=true
   .rw [ae L]at e ⊢;have p:(c::t).takeWhile bS++(c::t).dropWhile bS=c::t:=ee;have w:1≤((c::t).takeWhile bS).length:=by rw[eK,ae L,aA];lia
    have g:=dz dO p;rw[aI]at g;unfold Ps;simp only[oV,g7,ig];generalize (c::t).takeWhile bS=run at *
    by_cases z:10 < run.length
    .rw [ae z]at e ⊢;exact xG A C f r e
    .rw [ai z]at e ⊢;by_cases D:Ch (O run)=true
     .rw [ae D]at e ⊢;exact xG A C f r e
     .rw [ai D]at e ⊢;exact⟨w,by lia,by lia,_,_,p9 A C f r (h:=.be) e,λ_=>m⟩
   .rw [ai L]at e ⊢;rw[ai s,ai (by simp)];exact xG A C f r (j:=0) e
theorem IR(e:xE (ax Gv Att Y Rs Tb n) (WL (a++c::t) E a.length b q x) (eE l)=some (.nx,WL (a++c::t) E a.length b H (some (.p (lz c t a.length l).1)),eE (lz c t a.length l).2)):Ca n o G a (c::t) E b l q x (Lf c (c::t) l):=by
 unfold lz at e;unfold Lf;by_cases h:c=97\/c=111
 .rw [ae h]at e ⊢;have L:=D5 (m:=iE c) (by have:=Jg c;lia);have K:=Aq (c::t) (iE c).tx L;dsimp only at e;unfold D9 at e;rw[K]at e;have w:(c::t).takeWhile bS++(c::t).dropWhile bS=c::t:=ee;have k:∀x ∈ (c::t).takeWhile bS,bS x=true:=λx P=>jz P;have g:1≤(iE c).tx.length:=by unfold iE;split<;>decide
  have v:=dz dO w;rw[aI]at v;generalize (c::t).takeWhile bS=run at *
  generalize (c::t).dropWhile bS=i at *
  by_cases p:run=(iE c).tx
  .rw [ae p];rw[p,v9,ae rfl]at e;rw[p]at v;exact⟨g,by lia,by lia,_,_,p9 A C f r (h:=.pt) e,λz=>by rcases z with z|z<;>cases z⟩
  .rw [ai p];by_cases y:i7 run (iE c).tx=(iE c).tx.length
   .rw [ae y]at e;obtain⟨u,S⟩:=v_ run _ y;rw[y];cases u with
    |nil=>exact absurd (by rw[S,fj]) p
    |cons d u=>have F:=dz dO S;rw[aI,aA]at F;refine .inr ⟨g,by lia,⟨d,u++i,?_,by rw[k d (by rw[S];simp),yY]⟩,_,_,_,p9 A C f r (h:=.pt) e⟩;rw[<- w,S,c_,List.drop_left];rfl
   .rw [ai y]at e;exact xG A C f r e
 .rw [ai h]at e ⊢;by_cases s:c=93/\l.head? = some false
  .rw [ae s]at e ⊢;exact⟨ar _,by simp,by simp;lia,_,_,p9 A C f r (h:=.dn) e,λz=>by rcases z with z|z<;>cases z⟩
  .rw [ai s]at e ⊢;exact xG A C f r (j:=0) e
end
variable{n:Nat}{w:Wst}{b:Bool}{q:Str}{x:Option D}
theorem GD(hn:5≤n)(o:Str->GF)(G:Str->GX)(A:(a++c::t).length≤900)(C:eP (a++c::t))(f:c≠32)(V:w=.op\/w=.be->q=kS k)(N:l.length≤900) :
  Ca n o G a (c::t) (lI w) b l q x (stp (c::t) w k b l):=by
 unfold stp;dsimp only;by_cases r:(b && (bS c ||d7 c))=true
 .rw [ae r];obtain⟨rfl,hw⟩:b=true/\(bS c ||d7 c)=true:=by simpa using r
  obtain⟨W,h⟩:=Af o G (x:=x) (E:=lI w) (q:=q) (S:=eE l) A C f hw (ax Gv Att Y Rs Tb n);exact .inl ⟨W,_,h⟩
 rw[ai r];rw[tP]at r;cases w with
 |op=>exact IS A C f r (h:=n) (by lia) k N (V (.inl rfl)) λv B i y=>RG i y
 |dn=>exact IR A C f r (RH (EU (by lia) A C) (mu ..))
 |be=>
  cases V (.inr rfl);have e:=RI (x:=x) (b:=b) (O0 (q:=l) (n:=n) (by lia) k A C) (mu ..);have R:=λh=>IR (o:=o) (G:=G) (q:=kS k) (H:=kS k) (E:="behind") (x:=x) (n:=n) (l:=l) A C f r h
  show Ca n o G a (c::t) "behind" b l (kS k) x (OY c (c::t) k l);unfold IF at e;unfold OY;by_cases T:wJ c=true
  .rw [ae T]at e ⊢;exact⟨ar _,by simp,by simp,_,_,p9 A C f r (h:=.op) e,λ_=>rfl⟩
  rw[ai T]at e ⊢;by_cases F:c=41/\l.head? = some true
  .rw [ae F]at e ⊢;exact⟨ar _,by simp,by simp;lia,_,_,p9 A C f r (h:=.be) e,λ_=>rfl⟩
  rw[ai F]at e ⊢;by_cases I:pH c=true/\k=false/\l.head?≠some true
  .rw [ae I]at e ⊢;rw[o6];dsimp only at e;unfold Fb at e;cases M:E_ c t with
   |some m=>rw[M]at e;obtain⟨_,i,y,_⟩:=E4 (f:=a) I.1 M;exact⟨i,y,by lia,_,_,Ni A C f r e,λ_=>rfl⟩
   |none=>rw[M]at e;exact xG A C f r e
  rw[ai I]at e ⊢;by_cases P:k=true/\l.head?≠some true
  .rw [ae P]at e ⊢;exact R e
  .rw [ai P]at e ⊢;exact xG A C f r (j:=0) e
 |pt=>
  show Ca n o G a (c::t) "part" b l q x (Ci true c (c::t) false l);by_cases s:c=91
  .subst s;exact⟨ar _,by simp,by simp,_,_,p9 A C f r (h:=.pt) (IA (Hs (by lia) A C N) (mu ..)),λz=>by rcases z with z|z<;>cases z⟩
  .obtain⟨i,y,X⟩:=KC (n:=n) (by lia) A C s (eE l);have Q:(c::t).takeWhile bS++(c::t).dropWhile bS=c::t:=ee;have p:=dz dO Q;rw[aI]at p;have K:(c::t).takeWhile bS≠[]->bS c=true/\d7 c=false:=λh=>by
    have L:bS c=true:=by
     cases L:bS c with
     |true=>rfl
     |false=>rw[eK,L]at h;exact absurd rfl h
    refine⟨L,?_⟩;cases Z:d7 c with
    |false=>rfl
    |true=>simp only[bS,d7,aE,gY]at L Z;lia
   by_cases d:(c::t).takeWhile bS=gv
   .obtain⟨D,g⟩:=K (by rw[d];decide);unfold Ci;rw[D,g,ai (by decide),ae rfl,d];rw[d]at p;exact⟨(by decide),by have:gv.length=4:=rfl;lia,by lia,_,_,p9 A C f r (h:=.dn) (IA (i d) (mu ..)),λz=>by rcases z with z|z<;>cases z⟩
   .by_cases u:(c::t).takeWhile bS=tNot
    .obtain⟨D,g⟩:=K (by rw[u];decide);unfold Ci;rw[D,g,ai (by decide),ae rfl,u];rw[u]at p;exact⟨(by decide),by have:tNot.length=3:=rfl;lia,by lia,_,_,p9 A C f r (h:=.pt) (IA (y u) (mu ..)),λz=>by rcases z with z|z<;>cases z⟩
    .have hf:Ci true c (c::t) false l=Ci false c (c::t) false l:=by
      unfold Ci Ps;simp[s,d,u]
     rw[hf];exact IS A C f r (H:="first") (h:=n-1) (by lia) false N rfl λv B D g=>IA (X d u v B D g) g
theorem Ag(hn:5≤n)(o:Str->GF)(G:Str->GX):∀(f:Nat)(a r:List Nat)(w:Wst)(k b:Bool)(l:List Bool)(q:Str)(x:Option D)(g:Nat),r.length < f->r.length < g->(a++r).length≤900->eP (a++r)->(∀c t,r=c::t->c≠32)->(w=.op\/w=.be->q=kS k)->l.length≤a.length ->
  match rD f a.length r w k b l with
  | .inl p=>(∃M B,aY Jt (aQ (ax Gv Att Y Rs Tb n) o G) g (WL (a++r) (lI w) a.length b q x) (eE l)=some (.rt (.p (.int (p:Int))),M,B))\/p=(a++r).length/\∃K m H P F,K.wn=true/\aY Jt (aQ (ax Gv Att Y Rs Tb n) o G) g (WL (a++r) (lI w) a.length b q x) (eE l)=some (.nx,WL (a++r) (lI K) (a++r).length m H P,eE F)
  | .inr (K,k',F)=>∃m H P,aY Jt (aQ (ax Gv Att Y Rs Tb n) o G) g (WL (a++r) (lI w) a.length b q x) (eE l)=some (.nx,WL (a++r) (lI K) (a++r).length m H P,eE F)/\K.wn=false/\(K=.op\/K=.be->H=kS k')
 |0,_,r,_,_,_,_,_,_,_,h,_,_,_,_,_,_=>absurd h (um _)
 |f+1,a,r,w,k,b,l,q,x,0,_,h,_,_,_,_,_=>absurd h (um _)
 |f+1,a,[],w,k,b,l,q,x,g+1,hf,hg,A,C,hh,T,ho=>by
  rw[fj]at A ⊢;have z:=AZ (x:=x) (s:=a) (E:=lI w) (i:=a.length) (b:=b) (q:=q) (S:=eE l) (by lia);rw[cT (by lia)]at z;cases w with
  |pt=>exact .inr ⟨rfl,_,_,_,_,_,rfl,bq z⟩
  |op=>exact .inr ⟨rfl,_,_,_,_,_,rfl,bq z⟩
  |be=>exact⟨_,_,_,bq z,rfl,T⟩
  |dn=>exact⟨_,_,_,bq z,rfl,T⟩
 |f+1,a,c::t,w,k,b,l,q,x,g+1,hf,hg,A,C,hh,T,ho=>by
  have hcl:a.length+(c::t).length≤900:=by rw[<- aI];exact A
  have V:=GD hn o G (x:=x) (b:=b) A C (hh c t rfl) T (l:=l) (by lia);have z:=AZ (x:=x) (s:=a++c::t) (E:=lI w) (i:=a.length) (b:=b) (q:=q) (S:=eE l) (by lia);rw[gn (by simp)]at z;unfold rD;generalize stp (c::t) w k b l=y at V;cases y with
  |bad j=>
   left;rcases V with ⟨M,B,h⟩|⟨h1,h2,⟨d,u,h3,N⟩,v,H,P,h⟩
   .exact⟨M,B,pZ z h⟩
   .rw [dI z h];have R:a++c::t=(a++(c::t).take j)++d::u:=by rw[<- h3,c_,ph]
    have X:a.length+j=(a++(c::t).take j).length:=by rw[aI,dQ,pu (by lia)]
    obtain⟨g,rfl⟩:∃L,g=L+1:=⟨g-1,by lia⟩;rw[R,X];have Q:d≠32:=λe=>by rw[e]at N;cases N
    obtain⟨M,h5⟩:=Af o G (x:=P) (by rw[<- R];exact A) (by rw[<- R];exact C) Q N (ax Gv Att Y Rs Tb n) (S:=eE l) (E:=v) (q:=H);have I:=AZ (x:=P) (s:=(a++(c::t).take j)++d::u) (E:=v) (i:=(a++(c::t).take j).length) (b:=true) (q:=H) (S:=eE l) (by rw[<- R];lia);rw[gn (by simp)]at I;exact⟨M,_,pZ I h5⟩
  |fin=>exact V.elim
  |go j K k' m F=>
   obtain⟨h1,h2,h3,H,P,h,N⟩:=V;have e:=AT (s:=a) (r:=c::t) j;have hsl:=wy ((c::t).drop j);rw[gB]at hsl;have Z:(a++(c::t).take j++List.replicate (nb ((c::t).drop j)) 32).length=a.length+j+nb ((c::t).drop j):=by simp only[aI,dQ,kW];lia
   have X:(a++(c::t).take j).length=a.length+j:=by rw[aI,dQ,pu h2]
   obtain⟨L,rfl⟩:∃L,g=L+nb ((c::t).drop j):=⟨g-nb ((c::t).drop j),by lia⟩;have ih:=Ag hn o G f (a++(c::t).take j++List.replicate (nb ((c::t).drop j)) 32) (sk ((c::t).drop j)) K k' (m && decide (nb ((c::t).drop j)=0)) F H P L (by lia) (by lia) (by rw[e];exact A) (by rw[e];exact C) (λd u hd W=>by have:=gc (p:=Lr) hd;rw[W]at this;cases this) N (by lia)
   rw[e,Z]at ih;have es:=uz o G (x:=P) (t:=sk ((c::t).drop j)) (ax Gv Att Y Rs Tb n) (E:=lI K) (S:=eE F) (q:=H) (nb ((c::t).drop j)) L (a++(c::t).take j) m (by rw[<- c_,e];exact A);rw[<- c_,e,X]at es;rw[dI z h,es];exact ih
theorem EA(l:List Bool):BN (.ref 0) (.p (.lst [])) (eE l)=some (.bl (decide (l=[]))):=by
 have h:eB (eE l) 9 (.ref 0)=some (.lst (l.reverse.map λb=>P.str (A8 b))):=by show(li (eB (eE l) 8) ((l.reverse.map λb=>P.str (A8 b)).map .p)).map P.lst=_;rw[AF];rfl
 unfold BN;rw[h,gA,uM,gA,HZ (cZ.mpr λx a=>by obtain⟨b,_,rfl⟩:=iJ.mp a;cases b<;>decide +kernel)]
 cases l with
 |nil=>rfl
 |cons b l=>rw[kT,iL];cases l.reverse<;>rfl
noncomputable def vP:Option Nat->P
 |some p=>.int (p:Int)
 |none=>.non
def rH:ES:=ag (bY (cH (aJ ib (U (fm gu))) (pJ (aJ dD (U (vt "done"))) (cH (aJ dD (U (vt "behind"))) (dc rf (U (vt "first")))))) (br (U (vC (.non)))) df)
  (br (U (b9 aC)))
variable{s:List Nat}
theorem AQ(h:s.length≤1000000)(v:Bool)(g:BN (.ref 0) (.p (.lst [])) S=some (.bl v))(a:w.wn=true\/v=false\/w=.be/\q=kS false):∃L B,rH (WL s (lI w) i b q x) S=some (.rt (.p (.int (s.length:Int))),L,B):=by
 refine⟨WL s (lI w) i b q x,S,?_⟩;cases v with
 |false=>simp[rH,WL,g,bR,cj,h]
 |true=>
  rcases a with a|a|⟨rfl,rfl⟩
  .cases w with
   |pt=>simp[rH,WL,lI,g,bR,cj,h]
   |op=>simp[rH,WL,lI,g,bR,cj,h]
   |be=>cases a
   |dn=>cases a
  .cases a
  .simp [rH,WL,lI,kS,g,bR,cj,h]
theorem Jq(h:BN (.ref 0) (.p (.lst [])) S=some (.bl true))(a:w=.dn\/w=.be/\q=kS true):∃L B,rH (WL s (lI w) i b q x) S=some (.rt (.p .non),L,B):=by
 rcases a with rfl|⟨rfl,rfl⟩
 .exact⟨_,_,by simp[rH,WL,lI,h];exact⟨rfl,rfl⟩⟩
 .exact⟨_,_,by simp[rH,WL,lI,kS,h];exact⟨rfl,rfl⟩⟩
theorem G0(Q:7≤n)(A:s.length≤900)(C:eP s):hZ (ax Gv Att Y Rs Tb n "_law_stop") [.str (O s),.str "part"]=some (vP (xH s)):=by
 obtain⟨n,rfl⟩:=dN (n:=n) (by first|assumption|lia);have Ew:=sj s;have M:=wy s;have d:=uz (ax Gv Att Y Rs Tb n) (di Gv Att Y Rs Tb (n+1)) (x:=none) (t:=sk s) (ax Gv Att Y Rs Tb (n+1)) (E:="part") (S:=eE []) (q:="first") (nb s) (1000-nb s) [] false (by rw[dv,<- Ew];exact A);have F:=Ag (n:=n+1) (by lia) (ax Gv Att Y Rs Tb n) (di Gv Att Y Rs Tb (n+1)) 1000 (List.replicate (nb s) 32) (sk s) .pt false false [] "first" none (1000-nb s) (by lia) (by lia) (by rw[<- Ew];exact A) (by rw[<- Ew];exact C) (λc t h e=>by have:=gc (p:=Lr) h;rw[e]at this;cases this) (λz=>by rcases z with z|z<;>cases z) (eh _)
 rw[<- Ew,kW]at F;rw[dv,<- Ew,eI,ul,Nat.sub_add_cancel (by lia)]at d;change aY _ _ _ _ _=aY _ _ _ (WL s (lI .pt) (nb s) false "first" none) _ at d;have f:s.length≤1000000:=by lia
 rw[vc,bL];have r:m7 (ax Gv Att Y Rs Tb (n+1)) (ax Gv Att Y Rs Tb n) (di Gv Att Y Rs Tb (n+1))=ag (aG 2 (mS gu)) (ag (aG 3 (U ii)) (ag (aG 4 (U (vC (.bl false)))) (ag (aG 5 (U (aL (fm (v2 (vt "first") (vt "only"))) (cU fK (v1 (cQ BN dD (U (vt "operand")))))))) (ag (aY Jt (aQ (ax Gv Att Y Rs Tb (n+1)) (ax Gv Att Y Rs Tb n) (di Gv Att Y Rs Tb (n+1))) 1000) rH)))):=rfl;have w:fK [.bl false]=some (.int 0):=rfl;rw[r];unfold xH;generalize rD 1000 (nb s) (sk s) .pt false false []=y at F ⊢;change aY _ _ _ [qs (O s),qs "part",qr 0,qi 0,qp (.bl false),qs "first",none] [.lst []]=_ at d;cases y with
 |inl p=>
  rcases F with ⟨L,B,h⟩|⟨rfl,K,m,H,G,k,N,h⟩
  .rw [h]at d;simp[w,d,vP]
  .rw [h]at d;obtain⟨L,B,e⟩:=AQ (x:=G) (i:=s.length) (b:=m) (q:=H) f _ (EA k) (.inl N);simp[w,d,vP,e]
 |inr o=>
  obtain⟨K,D,k⟩:=o;obtain⟨m,H,G,h,j,I⟩:=F;rw[h]at d;have g:=EA k;have P:∀v:Bool,HV K D k=v->∃L B,rH (WL s (lI K) s.length m H G) (eE k)=some (.rt (.p (vP (if v=true then none else some s.length))),L,B):=λv u=>by
   cases K with
   |pt=>cases j
   |op=>cases j
   |dn=>
    cases k with
    |nil=>cases u;exact Jq g (.inl rfl)
    |cons a l=>cases u;exact AQ f false g (.inr (.inl rfl))
   |be=>
    cases I (.inr rfl);cases k with
    |nil=>
     cases D with
     |true=>cases u;exact Jq g (.inr ⟨rfl,rfl⟩)
     |false=>cases u;exact AQ f _ g (.inr (.inr ⟨rfl,rfl⟩))
    |cons a l=>cases D<;>(cases u;exact AQ f false g (.inr (.inl rfl)))
  obtain⟨L,B,e⟩:=P _ rfl;dsimp only;simp[w,d,e]
theorem CV(a:2≤n)(i:Int):hZ (ax Gv Att Y Rs Tb n "_law_whole") [.int i]=some (.bl true):=by
 obtain⟨n,rfl⟩:=dN (n:=n) (by first|assumption|lia);have h:gR "int" (.int i)=true:=by first|rfl|kernel_rfl
 have x:gR "bool" (.int i)=false:=by first|rfl|kernel_rfl
 rw[rJ,bL];simp[lA,h,x]
theorem RR:nc Y Rs "NoText" "NoText"=some true:=by kernel_rfl
theorem RQ:nc Y Rs "ValueError" "NoText"=some true:=by kernel_rfl
theorem RN:nP Y Rs ["NoDeed","NoFact","NoLine","NoPlan","NoRow","NoThing","NotPossible","TooMany"] "NoText"=some false:=by kernel_rfl
theorem Rm:FM.lookup ("NoText":Str)=some ("place":Str):=by kernel_rfl
theorem xV(x:3≤n)(S:aV)(j p:Nat)(h:S[j]? = some (.exc "NoText" (some ("place",.int (p:Int))))):ax Gv Att Y Rs Tb n "_law_refused" [.ref j,.p (.int (p:Int))] S=some (.p (.bl true),S):=by obtain⟨n,rfl⟩:=dN (n:=n) (by first|assumption|lia);have e:=CV (n:=n+1) (by lia) (p:Int);rw[n9];simp[bE,jW,BJ,h,RR,RQ,RN,Rm,e,bz,BN]
theorem we(t:14≤n)(A:s.length≤900)(C:eP s):hZ (ax Gv Att Y Rs Tb n "_law_right") [.str (O s)]=some (.bl true):=by
 obtain⟨n,rfl⟩:=dN (n:=n) (by first|assumption|lia);have k:=G0 (n:=n+1) (by lia) A C;have e:=E3 (n:=n+1) (by lia) A C;have h:(Option.any (λa:LS=>decide (("RoadError":Str) ∈ a)) (dP ("NoText":Str) Y))=true:=by kernel_rfl
 rw[rK,bL];generalize xH s=v at k e;cases v with
 |none=>
  obtain⟨x,B,e⟩:=e;have f:hZ (ax Gv Att Y Rs Tb (n+1) "read_condition") [.str (O s)]=some (.tup x):=wf e;have c:gR "tuple" (.tup x)=true:=by first|rfl|kernel_rfl
  simp[jb,xT,k,f,vP,LA,AL,c]
 |some p=>
  obtain⟨r,B,m⟩:=e;have f:hZ (ax Gv Att Y Rs Tb (n+1) "read_condition") [.str (O s)]=none:=by unfold hZ;rw[show([.str (O s)]:List P).map D.p=[.p (.str (O s))] from rfl,r]
  have b:=xV (n:=n+1) (by lia) (B++[.exc "NoText" (some ("place",.int (p:Int)))]) B.length p (by simp);simp[jb,xT,k,f,m,vP,LA,AL,h,b]
end My
namespace My
open PySem L2 Ev
def T.trg:T->Prop
 | .num n=>n < 1000
 | .nam c=>Nam c
 | .bin m l r=>5≤m.mkl/\l.trg/\r.trg
def T.lv:T->Nat
 | .num _=>7
 | .nam _=>7
 | .bin m _ _=>m.mkl
def T.mkk:T->Str
 | .num _=>"number"
 | .nam _=>"name"
 | .bin m _ _=>m.mkk
def T.sz:T->Nat
 | .num _=>1
 | .nam _=>1
 | .bin _ l r=>1+l.sz+r.sz
def T.dp:T->Nat
 | .num _=>1
 | .nam _=>1
 | .bin _ l r=>1+max l.dp r.dp
theorem GN(a b:List Nat):O a++O b=O (a++b):=by show(⟨(O a).cps++(O b).cps⟩:Str)=_;simp[O]
def Sl(n:Nat):Bool:=!(dg n).isEmpty && decide ((dg n).length≤3) && (dg n).all (λc=>decide (48≤c) && decide (c < 58)) && (decide ((dg n)[0]? = some 48->(dg n).length=1))
theorem Ip:∀n < 1000,Sl n=true:=by decide +kernel
theorem J8(n:Nat):Str.ofString (toString (n:Int))=O (dg n):=by
 have h:=PySem.W.KIN.signs_num n;generalize Str.ofString (toString (n:Int))=x at *
 obtain⟨c⟩:=x;show(⟨c⟩:Str)=⟨(dg n).toArray⟩;have:c=(dg n).toArray:=by apply Array.toList_inj.mp;simpa[dg] using h
 rw[this]
variable{m:Mk}
theorem K1:¬m.mkk=("number":Str):=by cases m<;>decide +kernel
theorem K3:¬m.mkk=("name":Str):=by cases m<;>decide +kernel
theorem AN(h:5≤m.mkl)(a b:P):m.mkf a b=.tup [.str m.mkk,a,b]:=by
 have:¬m.mkl=4:=by lia
 simp[Mk.mkf,this]
variable{t:T}
theorem R9(h:t.trg):∃r,t.trp=.tup (.str t.mkk::r):=by
 cases t with
 |bin m l r=>exact⟨[l.trp,r.trp],AN h.1 _ _⟩
 |_=>exact⟨_,rfl⟩
theorem Rp(h:t.trg):lT t.trp (.int 0)=some (.str t.mkk):=by obtain⟨r,e⟩:=R9 h;rw[e];simp
theorem pB:(" ":Str)=O [32]:=by decide +kernel
theorem G7:("(":Str)=O [40]:=by decide +kernel
theorem NI:(")":Str)=O [41]:=by decide +kernel
theorem Fn{q:Nat}(h:q < 1000):n3 [.int (q:Int)]=some (.str (O (dg q))):=by
 rw [<- J8];simp only [n3];rw [ae (gn (by
  have:((q:Int)).natAbs=q:=by lia
  rw[this];by_cases x:q=0
  .subst x;decide
  .exact cg ((ui x).mpr (show q < 2 ^ 60 by lia)) (by decide)))]
theorem log2_small{i:Int}(h:i.natAbs < 2 ^ 60):i.natAbs.log2 < 60:=by
 by_cases e:i.natAbs=0
 .rw [e];decide
 .exact (ui e).mpr h
theorem fP{i j:Int}(h:i.natAbs < 2 ^ 60)(x:j.natAbs < 2 ^ 60):jU i j=true:=by unfold jU;have a:=log2_small h;have b:=log2_small x;exact gn (by lia)
variable{x:Type}
theorem q9(h:u≠[])(a:Int):∃x ∈ u,L2.atI u (a % (u.length:Int))=some x:=by
 have l:(0:Int) < (u.length:Int):=by cases u with|nil=>exact absurd rfl h|cons _ _=>simp
 have e:=d9 a (Int.ne_of_gt l);have s:=fh a l;have k:(a % (u.length:Int)).toNat < u.length:=by lia
 exact⟨u[(a % (u.length:Int)).toNat],List.getElem_mem _,dY e (by simp[k])⟩
theorem qZ{g:lB}{e:EV}{Inv:Lc->Prop}{Q:P->Prop}{S:aV}:∀{u:List P}{L:Lc},(∀v ∈ u,∀L,Inv L->∃x y,g v L=some x/\Inv x/\e x S=some (y,S)/\Q y)->Inv L ->
  ∃s,kG g Fu e u L S=some (s,S)/\(∀y ∈ s,Q y)/\s.length=u.length
 | [],L,_,h=>⟨[],rfl,λ_ z=>(by cases z),rfl⟩
 |v::r,L,a,h=>by obtain⟨x,y,n,i,k,q⟩:=a v bi L h;obtain⟨s,f,b,c⟩:=qZ (u:=r) (L:=x) (λw p=>a w (bn _ p)) i;exact⟨y::s,by simp[kG,n,k,f],λz m=>(ay.mp m).elim (λe=>e ▸ q) (b z),by simp[c]⟩
variable{n:Nat}
theorem ints_get{lo:Int}(h:(intsFrom lo n)[i]? = some r):r=.int (lo+i)/\i < n:=by
 unfold Ev.intsFrom at h;rw[kR]at h;cases e:(List.range n)[i]? with
 |none=>rw[e]at h;cases h
 |some j=>
  rw[e]at h;cases h;have:=bX.mp e
  obtain⟨x,a⟩:=this;simp at x a;subst a;exact⟨rfl,x⟩
theorem wM{lo:Int}(h:r ∈ intsFrom lo n):∃i:Nat,r=.int (lo+i)/\i < n:=by obtain⟨i,x,e⟩:=List.mem_iff_getElem.mp h;exact⟨i,ints_get (by rw[List.getElem?_eq_getElem x,e])⟩
theorem wN(lo:Int)(n:Nat):(intsFrom lo n).length=n:=by simp[Ev.intsFrom]
theorem D6(s n:Str->GF)(k:Str->GX)(u:List P):∀(a:Int)(p t q:Option D),∃(r:Int)(e:Option D),dX (gI 2) (iC s n k) u [qi a,p,t,q] []=some (.nx,[qi r,p,e,q],[]):=by
 induction u with
 |nil=>intro a p t q;exact⟨a,t,rfl⟩
 |cons x u i=>intro a p t q;obtain⟨r,e,h⟩:=i (a / 2147483648) p (qp x) q;exact⟨r,e,by simpa[dX,iC] using h⟩
theorem eF(j:2≤n)(a:Int){p:Int}(s:0≤p)(c:p < 1000):∃r:Int,0≤r/\hZ (ax Gv Att Y Rs Tb n "_law_mix") [.int a,.int p]=some (.int r):=by
 obtain⟨n,rfl⟩:=dN (n:=n) (by first|assumption|lia);by_cases h:(1000000000000:Int)≤a
 .obtain⟨r,l,e⟩:=D6 (ax Gv Att Y Rs Tb (n+1)) (ax Gv Att Y Rs Tb n) (di Gv Att Y Rs Tb (n+1)) (Ev.intsFrom 0 (p % 61).toNat) (a / 1000000000000-1) (qi p) none none;refine⟨r % 2147483648,d9 _ (by decide),?_⟩;have m:(p % 61).natAbs < 1000000:=by lia
  rw[nX,bL];simp[kK,h,m,e]
 .have k:0≤8 * p/\8 * p≤8000:=by lia
  have t:0≤8 * p * p/\8 * p * p≤8000000:=⟨Int.mul_nonneg k.1 s,Int.le_trans (Int.mul_le_mul k.2 (Int.le_of_lt c) s (by decide)) (by decide)⟩;have d:jU 8 p=true:=fP (by decide) (by lia);have w:jU (8 * p) p=true:=fP (by lia) (by lia);have u:jU (a % 2147483629+p+1) (8 * p * p+48271)=true:=fP (by lia) (by lia);generalize f:(a % 2147483629+p+1) * (8 * p * p+48271) % 2147483647=x;have q:0≤x/\x < 2147483647:=by subst f;exact⟨d9 _ (by decide),fh _ (by decide)⟩
  have g:jU x x=true:=fP (by lia) (by lia);generalize b:x * x % 2147483587=y;have v:0≤y/\y < 2147483587:=by subst b;exact⟨d9 _ (by decide),fh _ (by decide)⟩
  have i:jU y (y+2)=true:=fP (by lia) (by lia);refine⟨y * (y+2) % 2147483579,d9 _ (by decide),?_⟩;rw[nX,bL];simp[kK,h,d,w,u,f,g,b,i]
theorem ba(h:e.length+r.length≤1000000):bH (.str (O e)) (.str (O r))=some (.str (O (e++r))):=by rw[bF];simp only[vr,cM];rw[ae (by rw[fJ];exact h),GN]
theorem wD(h:t.trg):t.lv=5\/t.lv=6\/t.lv=7:=by
 cases t with
 |num n=>exact .inr (.inr rfl)
 |nam c=>exact .inr (.inr rfl)
 |bin m l r=>cases m<;>first|exact absurd h.1 (by decide)|exact .inl rfl|exact .inr (.inl rfl)
theorem T.pos(t:T):1≤t.sz:=by cases t<;>simp[T.sz];lia
theorem Oi(h:5≤m.mkl):m.mkl=5\/m.mkl=6:=by cases m<;>first|exact absurd h (by decide)|exact .inl rfl|exact .inr rfl
theorem EW(L:Lc)(S:aV):mn (eC "plus" cz (eC "minus" cz (eC "times" hI (eC "or" cz (eC "and" hI vp))))) L S=some (.dct [Sum.inr "plus",Sum.inr "minus",Sum.inr "times",Sum.inr "or",Sum.inr "and"] [.int 1,.int 1,.int 2,.int 1,.int 2],S):=by kernel_rfl
theorem TN(h:t.trg):(gL (Sum.inr t.mkk) [Sum.inr ("plus":Str),Sum.inr "minus",Sum.inr "times",Sum.inr "or",Sum.inr "and"] [P.int 1,.int 1,.int 2,.int 1,.int 2]).getD (.int 3)=.int ((t.lv-4:Nat):Int):=by
 cases t with
 |num n=>kernel_rfl
 |nam c=>kernel_rfl
 |bin m l r=>cases m<;>first|exact absurd h.1 (by decide)|kernel_rfl
theorem qI(x:2≤n)(h:t.trg):hZ (ax Gv Att Y Rs Tb n "_law_level") [t.trp]=some (.int ((t.lv-4:Nat):Int)):=by obtain⟨n,rfl⟩:=dN (n:=n) (by first|assumption|lia);have k:=Rp h;have w:=TN h;rw[ly,bL];simp[jd,k,EW,ku,w]
theorem LL(L:Lc)(S:aV):mn (eC "plus" (vt "+") (eC "minus" (vt "-") (eC "times" (vt "*") vp))) L S=some (.dct [Sum.inr "plus",Sum.inr "minus",Sum.inr "times"] [.str "+",.str "-",.str "*"],S):=by kernel_rfl
theorem OE(h:5≤m.mkl):gL (Sum.inr m.mkk) [Sum.inr ("plus":Str),Sum.inr "minus",Sum.inr "times"] [P.str "+",.str "-",.str "*"]=some (.str (O [m.mkc])):=by cases m<;>first|exact absurd h (by decide)|kernel_rfl
theorem NJ:("( ":Str)=O [40,32]:=by decide +kernel
theorem Ds:(" )":Str)=O [32,41]:=by decide +kernel
theorem Lx(d:Int):∃(q:Int)(g:Nat),g≤2/\L2.atI [P.int 0,.int 1,.int 1,.int 2] (d % 4)=some (.int q)/\kF (.str (O [32])) (.int q)=some (.str (O (List.replicate g 32))):=by
 have x:=d9 d (show(4:Int)≠0 by decide);have a:=fh d (show(0:Int) < 4 by decide);have:d % 4=0\/d % 4=1\/d % 4=2\/d % 4=3:=by lia
 rcases this with h|h|h|h<;>rw[h]
 .exact⟨0,0,by decide,by kernel_rfl,by kernel_rfl⟩
 .exact⟨1,1,by decide,by kernel_rfl,by kernel_rfl⟩
 .exact⟨1,1,by decide,by kernel_rfl,by kernel_rfl⟩
 .exact⟨2,2,by decide,by kernel_rfl,by kernel_rfl⟩
variable{S:aV}
theorem iP(h:f L S=some (.nx,e,w)):ag f g L S=g e w:=by show(match f L S with|some (.nx,e,w)=>g e w|r=>r)=_;rw[h]
def Wt(Q:Nat->P->Prop):List P->Nat->Prop
 | [],w=>w=0
 |x::u,w=>∃s h,Q s x/\Wt Q u h/\w=s+1+h
noncomputable def fO(f:Int->Str):Int->List P->List P
 |k,x::y::r=>.tup [.str (f k),x,y]::fO f (k+2) r
 |_,_=>[]
noncomputable def qE:List P->List P
 |_::_::r=>qE r
 | [x]=>[x]
 | []=>[]
variable{Q:Nat->P->Prop}
theorem wk(v:∀k a b x y,0≤k->Q a x->Q b y->Q (a+b+1) (.tup [.str (f k),x,y])):∀(u:List P)(k:Int)(w:Nat),0≤k->Wt Q u w->Wt Q (fO f k u++qE u) w
 | [],_,_,_,h=>h
 | [_],_,_,_,h=>h
 |x::y::r,k,w,m,h=>by obtain⟨s,p,q,⟨e,n,t,c,rfl⟩,rfl⟩:=h;have i:=wk v r (k+2) n (by lia) c;exact⟨s+e+1,n,v k s e x y m q t,i,by lia⟩
theorem pairs_len(f:Int->Str):∀(u:List P)(k:Int),(fO f k u++qE u).length=(u.length+1) / 2
 | [],_=>by simp[fO,qE]
 | [_],_=>by simp[fO,qE]
 |x::y::r,k=>by have:=pairs_len f r (k+2);simp only[fO,qE,g9,aA];lia
theorem qC(f:Int->Str):∀(u:List P)(k:Int),(fO f k u).length≤u.length
 | [],_=>by simp[fO]
 | [_],_=>by simp[fO]
 |x::y::r,k=>by have:=qC f r (k+2);simp only[fO,aA];lia
theorem wt:∀(u:List P),(u.length % 2=1->∃z,u.getLast? = some z/\qE u=[z])/\(u.length % 2=0->qE u=[])
 | []=>⟨λh=>by simp at h,λ_=>rfl⟩
 | [x]=>⟨λ_=>⟨x,rfl,rfl⟩,λh=>by simp at h⟩
 |x::y::r=>by
  have i:=wt r;refine⟨λh=>?_,λh=>?_⟩
  .simp only[aA]at h;obtain⟨z,a,s⟩:=i.1 (by lia);refine⟨z,?_,s⟩;have n:r≠[]:=λe=>by rw[e]at a;simp at a
   rw[List.getLast?_cons_cons,List.getLast?_cons_of_ne_nil n];exact a
  .simp only[aA]at h;exact i.2 (by lia)
variable{u:List P}
theorem B_(h:u.getLast? = some z):L2.atI u (-1)=some z:=by
 have n:u≠[]:=λe=>by rw[e]at h;simp at h
 have l:0 < u.length:=kU.mpr n;rw[List.getLast?_eq_getElem?]at h;unfold L2.atI L2.Cg;rw[ai (by lia),ae (by lia)];show u[((-1:Int)+u.length).toNat]? = _;rw[show((-1:Int)+u.length).toNat=u.length-1 by lia];exact h
noncomputable def sI(k:Int):Nat->List P
 |0=>[]
 |m+1=>.int k::sI (k+2) m
theorem u7(m:Nat):∀k:Int,i_ k 2 m=sI k m:=by
 induction m with
 |zero=>intro k;rfl
 |succ m h=>intro k;rw[sI,<- h];unfold i_;rw[List.range_succ_eq_map,aX,t6];refine congr (dz _ (by simp)) (List.map_congr_left λi _=>?_);show P.int (k+((i+1:Nat):Int) * 2)=P.int (k+2+(i:Int) * 2);congr 1;lia
def oE(d:Ev.D)(u:List P)(S:aV):Prop:=d=.p (.lst u)\/∃j,d=.ref j/\(S[j]? = some (.lst (u.map .p))\/S[j]? = some (.fz (.lst u)))
variable{d:Ev.D}
theorem oE.len(h:oE d u S):bR d S=some u.length:=by
 rcases h with rfl|⟨j,rfl,h|h⟩
 .rfl
 .simp [bR,h]
 .simp [bR,h,cj]
variable{k:Nat}
theorem oE.read(h:oE d u S)(a:d≠.ref k):∃x,uH 9 d S=some (.lst u,x)/\oE d u x/\x[k]? = S[k]?/\x.length=S.length:=by
 rcases h with rfl|⟨j,rfl,h|h⟩
 .exact⟨S,by simp,.inl rfl,rfl,rfl⟩
 .refine⟨S.set j (.fz (.lst u)),Al h,.inr ⟨j,rfl,.inr ?_⟩,?_,by simp⟩
  .rw [eM (bX.mp h).1]
  .rw [dC (λe=>a (by rw[e]))]
 .exact⟨S,by simp[uH,h],.inr ⟨j,rfl,.inr h⟩,rfl,rfl⟩
theorem uT(h:S[k]? = some (.lst e)):gH (.ref k) S=some (k,e):=by simp[gH,h]
section
variable{a:List P}{f:Int->Str}(p:∀k:Int,0≤k->L2.atI a (k % (a.length:Int))=some (.str (f k)))(b:0 < a.length)
include p b
theorem sg(s D:Str->GF)(E:Str->GX)(o:d≠.ref k)(V:u.length≤1000):∀(m n c:List P)(S:aV)(w:Option Ev.D),u=n++m->oE d u S->S[k]? = some (.lst (c.map .p))->c.length+m.length≤1000 ->
  ∃q t,dX (gI 3) (dG s D E) (sI n.length (m.length / 2))
   [some d,ql a,qr k,w] S=some (.nx,[some d,ql a,qr k,t],q)/\q[k]? = some (.lst ((c++fO f n.length m).map .p))/\oE d u q/\q.length=S.length
 | [],n,c,S,w,e,h,v,H=>⟨S,w,rfl,by simpa[fO] using v,h,rfl⟩
 | [x],n,c,S,w,e,h,v,H=>⟨S,w,by simp[sI,dX],by simpa[fO] using v,h,rfl⟩
 |x::y::r,n,c,S,w,e,h,v,H=>by
  obtain⟨S1,r1,T,W,l1⟩:=h.read o;obtain⟨l,r2,g,X,l2⟩:=T.read o;have Q:L2.atI u (n.length:Int)=some x:=dY (by lia) (by rw[e];simp);have R:L2.atI u ((n.length:Int)+1)=some y:=dY (by lia) (by rw[e,show((n.length:Int)+1).toNat=n.length+1 by lia];simp);have N:=p (n.length:Int) (by lia);have i:l[k]? = some (.lst (c.map .p)):=by rw[X,W];exact v
  have Z:k < l.length:=(bX.mp i).1;have K:(l.set k (.lst (c.map .p++[.p (.tup [.str (f n.length),x,y])])))[k]? = some (.lst ((c++[P.tup [.str (f n.length),x,y]]).map .p)):=by rw[eM Z];simp
  have F:oE d u (l.set k (.lst (c.map .p++[.p (.tup [.str (f n.length),x,y])]))):=by
   rcases g with g|⟨j,rfl,g⟩
   .exact .inl g
   .refine .inr ⟨j,rfl,?_⟩;rw[dC (λz=>o (by rw[z]))];exact g
  obtain⟨q,t,B,G,I,L⟩:=sg s D E o V r (n++[x,y]) (c++[.tup [.str (f n.length),x,y]]) _ (qi n.length) (by rw[e];simp) F K (by simp at H ⊢;lia);have M:(x::y::r).length / 2=r.length / 2+1:=by simp only[aA];lia
  have C:((n++[x,y]).length:Int)=(n.length:Int)+2:=by simp
  refine⟨q,t,?_,?_,I,by rw[L];simp[l1,l2]⟩
  .rw [M,sI];rw[C]at B;have o1:=uT v;have o2:=uT i;have A:c.length≤1000000:=by simp at H;lia
   refine(kA rfl ?_).trans B;rw[dG];simp[o1,bR,cj,N,r1,r2,Q,R,o2,b,A]
  .rw [G];simp only[fO,C,c_,List.singleton_append]
end
theorem wz{m:Nat}(h:2≤m):i8 0 ((m:Int)-1) 2=m / 2:=by unfold i8;rw[ae (by lia)];lia
section
variable{a:List P}{f:Int->Str}(p:∀k:Int,0≤k->L2.atI a (k % (a.length:Int))=some (.str (f k)))(b:0 < a.length){Q:Nat->P->Prop}(v:∀k a b x y,0≤k->Q a x->Q b y->Q (a+b+1) (.tup [.str (f k),x,y]))
include p b v
theorem BQ(s G:Str->GF)(I:Str->GX):∀(m:Nat)(u:List P)(w:Nat)(d:Ev.D)(S:aV)(C c:Option Ev.D),u≠[]->u.length≤m->u.length≤1000->oE d u S->Wt Q u w ->
  ∃E D q g z,aY (bV (jf (b9 aC) cz)) (gf s G I) m [some d,ql a,C,c] S=some (.nx,[some E,ql a,q,g],D)/\oE E [z] D/\Wt Q [z] w:=by
 intro m;induction m with
 |zero=>intro u w d S C c t hm;exact absurd (kY (by lia)) t
 |succ m ih=>
  intro u w d S C c t hm n F hW;by_cases h1:u.length=1
  .obtain⟨z,rfl⟩:∃z,u=[z]:=by
    cases u with
    |nil=>simp at h1
    |cons z r=>have:r=[]:=kY (by simpa using h1);subst this;exact⟨z,rfl⟩
   refine⟨d,S,C,c,z,?_,F,hW⟩;simp[aY,F.len]
  .have h2:2≤u.length:=by
    have:=kU.mpr t;lia
   have hd:d≠.ref S.length:=λe=>by
    subst e;rcases F with z|⟨j,z,x⟩
    .cases z
    .cases z;rcases x with x|x<;>simp at x
   have K:oE d u (S++[.lst []]):=by
    rcases F with z|⟨j,rfl,x⟩
    .exact .inl z
    .refine .inr ⟨j,rfl,?_⟩;have hj:j < S.length:=by
      rcases x with x|x<;>exact(bX.mp x).1
     rw[fF hj];exact x
   obtain⟨i,y,e1,o,H,l2⟩:=sg p b s G I hd n u [] [] (S++[.lst []]) c rfl K (by simp) (by simpa using n);simp only[eI,dv]at e1 o;have L:dX (gI 3) (dG s G I) (i_ 0 2 (i8 0 ((u.length:Int)-1) 2))
     [some d,ql a,qr S.length,c] (S++[.lst []])=some (.nx,[some d,ql a,qr S.length,y],i):=by
    rw[u7,wz h2];exact e1
   have hc:(1:Int) < (u.length:Int):=by lia
   have T:((u.length:Int)-1).natAbs < 1000000:=by lia
   obtain⟨o1,o2⟩:=wt u;have B:=pairs_len f u 0;have W:fO f 0 u++qE u≠[]:=λz=>by rw[z]at B;simp at B;lia
   have X:∃l,oE (.ref S.length) (fO f 0 u++qE u) l/\(ag (bY (aJ (U (bf (b9 aC) hI)) (U cz)) (aU (dw ib (U (aL cr (xh kE cz))))) df)
     (aG 0 ib)) [some d,ql a,qr S.length,y] i=some (.nx,[qr S.length,ql a,qr S.length,y],l):=by
    have lk:S.length < i.length:=(bX.mp o).1;by_cases A:u.length % 2=1
    .obtain⟨z,z1,x⟩:=o1 A;obtain⟨Z,r4,h4,k4,l4⟩:=H.read (k:=S.length) hd;have h:(u.length:Int) % 2=1:=by lia
     have R:Z[S.length]? = some (.lst ((fO f 0 u).map .p)):=by rw[k4];exact o
     have q1:=uT o;have q2:=uT R;have hpp:=qC f u 0;refine⟨Z.set S.length (.lst ((fO f 0 u).map .p++[.p z])),.inr ⟨_,rfl,.inl ?_⟩,?_⟩
     .rw [eM (by lia),x];simp
     .have V:(fO f 0 u).length≤1000000:=by lia
      simp[H.len,h,q1,q2,r4,B_ z1,V]
    .have h:¬(u.length:Int) % 2=1:=by lia
     refine⟨i,.inr ⟨_,rfl,.inl ?_⟩,?_⟩
     .rw [o,o2 (by lia)];simp
     .simp [H.len,h]
   obtain⟨l,M,e3⟩:=X;obtain⟨E,D,q,g,z,g1,g2,g3⟩:=ih (fO f 0 u++qE u) w (.ref S.length) l (qr S.length) y W (by lia) (by lia) M (wk v u 0 w (by lia) hW);refine⟨E,D,q,g,z,?_,g2,g3⟩;have e4:uP (yc ii (lG (b9 aC) cz) hI) (gI 3) (dG s G I)
     [some d,ql a,qr S.length,c] (S++[.lst []])=some (.nx,[some d,ql a,qr S.length,y],i):=by
    show cY (yc ii (lG (b9 aC) cz) hI [some d,ql a,qr S.length,c] (S++[.lst []])) _=_;have:yc ii (lG (b9 aC) cz) hI [some d,ql a,qr S.length,c] (S++[.lst []])=some (i_ 0 2 (i8 0 ((u.length:Int)-1) 2),S++[.lst []]):=by simp[yc,K.len,T]
    rw[this];exact L
   have N:(bV (jf (b9 aC) cz)) [some d,ql a,C,c] S=some (true,S):=by simp only[bV,rg,GI,Ro,vC,jq,F.len];rw[show PM (.int (u.length:Int)) (.int 1)=some (.bl (decide ((1:Int) < u.length))) from rfl,gn hc];rfl
   rw[dI (L2:=[qr S.length,ql a,qr S.length,y]) (x:=l) N]
   .exact g1
   .rw [gf,iP (e:=[some d,ql a,qr S.length,c]) (w:=S++[.lst []]) rfl,iP e4];exact e3
theorem BP(l:2≤n)(x:u≠[])(c:u.length≤1000)(W:Wt Q u w):∃z s,Q s z/\w=s+1/\hZ (ax Gv Att Y Rs Tb n "_law_folded") [.lst u,.lst a]=some z:=by
 obtain⟨n,rfl⟩:=dN (n:=n) (by first | assumption | lia);obtain⟨i,S,t,d,z,e,f,⟨s,o,q,m,rfl⟩⟩:=BQ p b v (ax Gv Att Y Rs Tb (n+1)) (ax Gv Att Y Rs Tb n) (di Gv Att Y Rs Tb (n+1)) 1000 u w (.p (.lst u)) [] none none x c c (.inl rfl) W;cases m;refine⟨z,s,q,rfl,?_⟩;obtain⟨g,r,_⟩:=f.read (k:=S.length) (fun e=>by
  subst e;rcases f with y|⟨j,y,h⟩
  .cases y
  .cases y;rcases h with h|h<;>simp at h)
 rw[qT,bL];simp[kL,eD,e,r]
end
theorem Wt.append:∀{u y:List P}{a b:Nat},Wt Q u a->Wt Q y b->Wt Q (u++y) (a+b)
 | [],y,a,b,h,g=>by have:a=0:=h;subst this;simpa using g
 |x::u,y,a,b,h,g=>by obtain⟨s,w,q,h,rfl⟩:=h;exact⟨s,w+b,q,h.append g,by lia⟩
theorem Wt.split:∀{u y:List P}{w:Nat},Wt Q (u++y) w->∃a b,Wt Q u a/\Wt Q y b/\w=a+b
 | [],y,w,h=>⟨0,w,rfl,h,by lia⟩
 |x::u,y,w,h=>by obtain⟨s,k,q,h,rfl⟩:=h;obtain⟨a,b,e,n,rfl⟩:=Wt.split h;exact⟨s+1+a,b,⟨s,a,q,e,rfl⟩,n,by lia⟩
theorem Wt.len:∀{u:List P}{w:Nat},Wt Q u w->u.length≤w
 | [],w,h=>by simp
 |x::u,w,h=>by
  obtain⟨s,a,q,h,rfl⟩:=h;have:=h.len
  simp only[aA];lia
theorem m_(p:List x)(v:x):L2.atI (p++[v]) (-1)=some v:=by unfold L2.atI L2.Cg;rw[ai (by lia),ae (by simp;lia)];show(p++[v])[((-1:Int)+((p++[v]).length:Nat)).toNat]? = _;rw[show((-1:Int)+((p++[v]).length:Nat)).toNat=p.length by simp;lia];simp
theorem Fw(p:List x)(u v:x):L2.atI (p++[u,v]) (-2)=some u:=by unfold L2.atI L2.Cg;rw[ai (by lia),ae (by simp;lia)];show(p++[u,v])[((-2:Int)+((p++[u,v]).length:Nat)).toNat]? = _;rw[show((-2:Int)+((p++[u,v]).length:Nat)).toNat=p.length by simp;lia];simp
theorem B9(p:List x)(u v:x):L2.atI (p++[u,v]) (-1)=some v:=by have:=m_ (p++[u]) v;simpa using this
theorem xR(h:u≠[]):∃p v,u=p++[v]:=⟨u.dropLast,u.getLast h,(List.dropLast_concat_getLast h).symm⟩
noncomputable def Qr:List P:=[.str "plus",.str "minus",.str "times"]
theorem Q4(k:Int):∃m:Mk,5≤m.mkl/\L2.atI Qr (k % 3)=some (.str m.mkk):=by
 have x:=d9 k (show(3:Int)≠0 by decide);have a:=fh k (show(0:Int) < 3 by decide);have:k % 3=0\/k % 3=1\/k % 3=2:=by lia
 rcases this with h|h|h<;>rw[h]
 .exact⟨.pl,by decide,by kernel_rfl⟩
 .exact⟨.mi,by decide,by kernel_rfl⟩
 .exact⟨.ti,by decide,by kernel_rfl⟩
noncomputable def f3(k:Int):Mk:=Classical.choose (Q4 k)
theorem Oy(k:Int):L2.atI Qr (k % 3)=some (.str (f3 k).mkk):=(oF (Q4 k)).2
theorem Oz(k:Int):5≤(f3 k).mkl:=(oF (Q4 k)).1
def NL(N:List (List Nat)):P:=.lst (N.map λc=>P.str (O c))
theorem AJ(r:2≤n)(x:N≠[])(g:∀c ∈ N,Nam c)(q:Int):∃t:T,t.trg/\t.sz=1/\hZ (ax Gv Att Y Rs Tb n "_law_leaf") [NL N,.int q]=some t.trp:=by
 obtain⟨n,rfl⟩:=dN (n:=n) (by first|assumption|lia);by_cases h:q % 2=0
 .obtain⟨c,k,e⟩:=q9 x (q / 2);have l:0 < N.length:=kU.mpr x;have s:L2.atI (N.map λc=>P.str (O c)) (q / 2 % (N.length:Int))=some (.str (O c)):=by
   unfold L2.atI at e ⊢;rw[eH];cases a:L2.Cg N.length (q / 2 % (N.length:Int)) with
   |none=>rw[a]at e;cases e
   |some j=>rw[a]at e;simp only[gA]at e ⊢;rw[kR,e];rfl
  refine⟨.nam c,g c k,rfl,?_⟩;rw[jJ,bL];simp[h_,NL,h,bR,cj,l,s,few,T.trp]
 .have f:0≤q / 2 % 10/\q / 2 % 10 < 10:=⟨d9 _ (by decide),fh _ (by decide)⟩;have b:0≤q / 20 % 1000/\q / 20 % 1000 < 1000:=⟨d9 _ (by decide),fh _ (by decide)⟩;have m:0≤q / 16 % 4/\q / 16 % 4 < 4:=⟨d9 _ (by decide),fh _ (by decide)⟩;have d:q / 16 % 4 / 3=0\/q / 16 % 4 / 3=1:=by lia
  rcases d with d|d
  .refine⟨.num (q / 2 % 10).toNat,show(q / 2 % 10).toNat < 1000 by lia,rfl,?_⟩;have e:((q / 2 % 10).toNat:Int)=q / 2 % 10:=by lia
   rw[jJ,bL];simp[h_,NL,h,d,few,T.trp,e]
  .refine⟨.num (q / 20 % 1000).toNat,show(q / 20 % 1000).toNat < 1000 by lia,rfl,?_⟩;have e:((q / 20 % 1000).toNat:Int)=q / 20 % 1000:=by lia
   rw[jJ,bL];simp[h_,NL,h,d,few,T.trp,e]
theorem Ji(x:List P):gR "tuple" (.tup x)=true:=by first|rfl|kernel_rfl
theorem Om(x:Int):gR "tuple" (.int x)=false:=by first|rfl|kernel_rfl
theorem Jj(x:Str):gR "tuple" (.str x)=false:=by first|rfl|kernel_rfl
theorem GV(h:t.trg):gR "tuple" t.trp=true:=by obtain⟨r,e⟩:=R9 h;rw[e];exact Ji _
theorem LY(x y:P):fC (.tup [x,y]) (some 1) none=some (.tup [y]):=by kernel_rfl
theorem ON(x y z:P):fC (.tup [x,y,z]) (some 1) none=some (.tup [y,z]):=by kernel_rfl
theorem HE(a:Nat):jV [.int 0,.int (a:Int)]=some (.int (a:Int)):=by
 simp only[jV];first
  |(rw[ai (by lia)])
  |(congr 2;lia)
theorem K4(a b:Nat):jV [.int (a:Int),.int (b:Int)]=some (.int ((max a b:Nat):Int)):=by
 simp only[jV];split
 .congr 2;lia
 .congr 2;lia
theorem mV:∀(t:T),t.trg->∀(n:Nat),t.dp+2≤n->hZ (ax Gv Att Y Rs Tb n "_law_depth") [t.trp]=some (.int (t.dp:Int))
 | .num k,_,n,x=>by obtain⟨n,rfl⟩:=dN (n:=n) (by first|assumption|lia);rw[dL,bL];simp[dh,cD,T.trp,T.dp,bM,cW,LY,dX,Om]
 | .nam k,_,n,x=>by obtain⟨n,rfl⟩:=dN (n:=n) (by first|assumption|lia);rw[dL,bL];simp[dh,cD,T.trp,T.dp,bM,cW,LY,dX,Jj]
 | .bin m l r,h,n,x=>by simp only[T.dp]at x;obtain⟨n,rfl⟩:=dN (n:=n) (by first|assumption|lia);have e:=mV l h.2.1 (n+1) (by lia);have a:=mV r h.2.2 (n+1) (by lia);have i:=GV h.2.1;have s:=GV h.2.2;have f:=HE l.dp;have b:=K4 l.dp r.dp;rw[dL,bL];simp[dh,cD,T.trp,AN h.1,T.dp,bM,cW,ON,dX,i,s,e,a,f,b]
theorem PD:∀t:T,2 * t.dp≤t.sz+1
 | .num _=>by simp[T.dp,T.sz]
 | .nam _=>by simp[T.dp,T.sz]
 | .bin _ l r=>by
  have h:=PD l;have x:=PD r;have:=l.pos
  have:=r.pos;simp only[T.dp,T.sz];lia
inductive Cnd0 where
 |tru|no (c:Cnd0)|is (m:Mk) (l r:T)|bin (m:Mk) (l r:Cnd0)
def Cnd0.trp:Cnd0->P
 | .tru=>.tup [.str "true"]
 | .no c=>.tup [.str "not",c.trp]
 | .is m l r=>m.mkf l.trp r.trp
 | .bin m l r=>m.mkf l.trp r.trp
def Cnd0.trg:Cnd0->Prop
 | .tru=>True
 | .no c=>c.trg
 | .is m l r=>m.mkl=4/\l.trg/\r.trg
 | .bin m l r=>(1≤m.mkl/\m.mkl≤2)/\l.trg/\r.trg
def Cnd0.lv:Cnd0->Nat
 | .tru=>4
 | .no _=>3
 | .is _ _ _=>4
 | .bin m _ _=>m.mkl
noncomputable def Cnd0.sz:Cnd0->Nat
 | .tru=>1
 | .no c=>2+c.sz
 | .is _ l r=>1+l.sz+r.sz
 | .bin _ l r=>1+l.sz+r.sz
theorem Cnd0.pos(c:Cnd0):1≤c.sz:=by cases c<;>simp[Cnd0.sz]<;>lia
theorem AU:∀t:T,t.dp≤t.sz
 | .num _=>ar _
 | .nam _=>ar _
 | .bin _ l r=>by
  have:=AU l;have:=AU r
  simp only[T.dp,T.sz];lia
noncomputable def Cnd0.mkk:Cnd0->Str
 | .tru=>"true"
 | .no _=>"not"
 | .is _ _ _=>"is"
 | .bin m _ _=>m.mkk
theorem HY(h:m.mkl=4)(a b:P):m.mkf a b=.tup [.str "is",.str m.mks,a,b]:=by simp[Mk.mkf,h]
theorem EK(h:m.mkl≤2)(a b:P):m.mkf a b=.tup [.str m.mkk,a,b]:=by
 have:¬m.mkl=4:=by lia
 simp[Mk.mkf,this]
variable{c:Cnd0}
theorem Sm(h:c.trg):∃r,c.trp=.tup (.str c.mkk::r):=by
 cases c with
 |tru=>exact⟨_,rfl⟩
 |no c=>exact⟨_,rfl⟩
 |is m l r=>exact⟨_,HY h.1 _ _⟩
 |bin m l r=>exact⟨_,EK h.1.2 _ _⟩
theorem Io(h:c.trg):lT c.trp (.int 0)=some (.str c.mkk):=by obtain⟨r,e⟩:=Sm h;rw[e];simp
theorem R5(m:Mk):m.tx.length≤3:=by cases m<;>decide
theorem Ke:("[":Str)=O [91]:=by decide +kernel
theorem Kb:("]":Str)=O [93]:=by decide +kernel
theorem Kc:("not ":Str)=O (tNot++[32]):=by decide +kernel
theorem Rb(h:1≤m.mkl)(x:m.mkl≤2):¬m.mkk=("true":Str)/\¬m.mkk=("not":Str)/\¬m.mkk=("is":Str):=by cases m<;>first|exact absurd h (by decide)|exact absurd x (by decide)|(refine⟨?_,?_,?_⟩<;>decide +kernel)
theorem Ra(h:1≤m.mkl)(x:m.mkl≤2):m.mkk=O m.tx:=by cases m<;>first|exact absurd h (by decide)|exact absurd x (by decide)|decide +kernel
theorem TQ(h:c.trg):(gL (Sum.inr c.mkk) [Sum.inr ("plus":Str),Sum.inr "minus",Sum.inr "times",Sum.inr "or",Sum.inr "and"] [P.int 1,.int 1,.int 2,.int 1,.int 2]).getD (.int 3)=.int ((min c.lv 3:Nat):Int):=by
 cases c with
 |tru=>kernel_rfl
 |no c=>kernel_rfl
 |is m l r=>kernel_rfl
 |bin m l r=>cases m<;>first|exact absurd h.1.1 (by decide)|exact absurd h.1.2 (by decide)|kernel_rfl
theorem jm(x:2≤n)(h:c.trg):hZ (ax Gv Att Y Rs Tb n "_law_level") [c.trp]=some (.int ((min c.lv 3:Nat):Int)):=by
 obtain⟨n,rfl⟩:=dN (n:=n) (by first|assumption|lia);have k:=Io h;have w:=TQ h;generalize ((min c.lv 3:Nat):Int)=i at *
 rw[ly,bL];simp[jd,k,EW,ku,w]
noncomputable def Cnd0.dp:Cnd0->Nat
 | .tru=>1
 | .no c=>1+c.dp
 | .is _ l r=>1+max l.dp r.dp
 | .bin _ l r=>1+max l.dp r.dp
theorem Fe:∀c:Cnd0,2 * c.dp≤c.sz+1
 | .tru=>by simp[Cnd0.dp,Cnd0.sz]
 | .no c=>by have:=Fe c;simp only[Cnd0.dp,Cnd0.sz];lia
 | .is _ l r=>by
  have h:=PD l;have x:=PD r;have:=l.pos
  have:=r.pos;simp only[Cnd0.dp,Cnd0.sz];lia
 | .bin _ l r=>by
  have h:=Fe l;have x:=Fe r;have:=l.pos
  have:=r.pos;simp only[Cnd0.dp,Cnd0.sz];lia
theorem JX(h:c.trg):gR "tuple" c.trp=true:=by obtain⟨r,e⟩:=Sm h;rw[e];exact Ji _
theorem RC(x:P):fC (.tup [x]) (some 1) none=some (.tup []):=by kernel_rfl
theorem RB(x y z w:P):fC (.tup [x,y,z,w]) (some 1) none=some (.tup [y,z,w]):=by kernel_rfl
theorem jo:∀(c:Cnd0),c.trg->∀(n:Nat),c.dp+2≤n->hZ (ax Gv Att Y Rs Tb n "_law_depth") [c.trp]=some (.int (c.dp:Int))
 | .tru,_,n,x=>by obtain⟨n,rfl⟩:=dN (n:=n) (by first|assumption|lia);rw[dL,bL];simp[dh,Cnd0.trp,Cnd0.dp,bM,cW,RC,dX]
 | .no c,h,n,x=>by simp only[Cnd0.dp]at x;obtain⟨n,rfl⟩:=dN (n:=n) (by first|assumption|lia);have b:c.trg:=h;have e:=jo c b (n+1) (by lia);have i:=JX b;have a:=HE c.dp;rw[dL,bL];simp[dh,cD,Cnd0.trp,Cnd0.dp,bM,cW,LY,dX,i,e,a]
 | .is m l r,h,n,x=>by simp only[Cnd0.dp]at x;obtain⟨n,rfl⟩:=dN (n:=n) (by first|assumption|lia);have e:=mV l h.2.1 (n+1) (by lia);have s:=mV r h.2.2 (n+1) (by lia);have i:=GV h.2.1;have k:=GV h.2.2;have a:=HE l.dp;have f:=K4 l.dp r.dp;have p:(Cnd0.is m l r).trp=.tup [.str "is",.str m.mks,l.trp,r.trp]:=HY h.1 _ _;rw[p,dL,bL];simp[dh,cD,Cnd0.dp,bM,cW,RB,dX,Jj,i,k,e,s,a,f]
 | .bin m l r,h,n,x=>by simp only[Cnd0.dp]at x;obtain⟨n,rfl⟩:=dN (n:=n) (by first|assumption|lia);have e:=jo l h.2.1 (n+1) (by lia);have s:=jo r h.2.2 (n+1) (by lia);have i:=JX h.2.1;have k:=JX h.2.2;have a:=HE l.dp;have f:=K4 l.dp r.dp;have p:(Cnd0.bin m l r).trp=.tup [.str m.mkk,l.trp,r.trp]:=EK h.1.2 _ _;rw[p,dL,bL];simp[dh,cD,Cnd0.dp,bM,cW,ON,dX,i,k,e,s,a,f]
def AA(s:Str->GF):ES:=aG 2 (U (eN (vt " ") (aL (fm (v3 ii cz hI)) (bf (dS (s "_law_mix") (v2 ck lf)) rX))))
def lK (s:Str->GF):ES:=(bY (aJ (U (aL cr ii)) (U (vt "true"))) (aG 3 (U (vt "true"))) (bY (aJ (U (aL cr ii)) (U (vt "is"))) (ag (aG 4 (U (dS (s "_law_written") (v2 (aL cr hI) (dS (s "_law_mix") (v2 ck (vi 5)))))))
  (aG 3 (U (ac (ac (ac (ac n6 hG) (aL cr cz)) hG) (dS (s "_law_written") (v2 (aL cr rX) (dS (s "_law_mix") (v2 ck Ac)))))))) (ag (aG 4 (U (dS (s "_law_otherwise") (v2 (aL cr cz) (dS (s "_law_mix") (v2 ck (vi 7)))))))
  (ag (bY (bV (cy (dS (s "_law_level") (v1 (aL cr cz))) (dS (s "_law_level") (v1 cr)))) (aG 4 (U (ac (ac (ac (vt "[") hG) n6) (vt "]")))) df)
  (aG 3 (U (ac (ac (vt "not ") hG) n6)))))))
def wm:ES:=(ag (bY (aJ (U (bf ck (vi 7))) (U ii)) (br (U (ac (ac (vt "[") je) (vt "]")))) df)
  (br nl))
theorem NW(s h:Str->GF)(x:Str->GX):iU s h x=ag (AA s) (ag (lK s) (ag (bx s h x) wm)):=rfl
theorem HX(d:Int):∃(q:Int)(g:Nat),g≤2/\L2.atI [P.int 0,.int 1,.int 2] (d % 3)=some (.int q)/\kF (.str (O [32])) (.int q)=some (.str (O (List.replicate g 32))):=by
 have x:=d9 d (show(3:Int)≠0 by decide);have a:=fh d (show(0:Int) < 3 by decide);have:d % 3=0\/d % 3=1\/d % 3=2:=by lia
 rcases this with h|h|h<;>rw[h]
 .exact⟨0,0,by decide,by kernel_rfl,by kernel_rfl⟩
 .exact⟨1,1,by decide,by kernel_rfl,by kernel_rfl⟩
 .exact⟨2,2,by decide,by kernel_rfl,by kernel_rfl⟩
section
variable{s:Str->GF}{h:P}{q:Int}
theorem mz{d:Int}(m:hZ (s "_law_mix") [.int q,.int 4]=some (.int d)):∃g:Nat,g≤2/\AA s [qp h,qi q,none,none,none,none] []=some (.nx,[qp h,qi q,qs (O (List.replicate g 32)),none,none,none],[]):=by
 obtain⟨n,g,e,x,a⟩:=HX d;refine⟨g,e,?_⟩;generalize List.replicate g 32=G at *
 simp[AA,m,pB,x,a]
theorem nS{c:P}{k:Str}{d i x:Int}{X G:List Nat}(a:lT h (.int 0)=some (.str k))(t:¬k="true")(b:¬k="is")(n:lT h (.int 1)=some c)(m:hZ (s "_law_mix") [.int q,.int 7]=some (.int d))(w:hZ (s "_law_otherwise") [c,.int d]=some (.str (O X)))(v:hZ (s "_law_level") [c]=some (.int i))(l:hZ (s "_law_level") [h]=some (.int x))(F:X.length≤300000)(S:G.length≤2) :
  lK s [qp h,qi q,qs (O G),none,none,none] []=some (.nx,[qp h,qi q,qs (O G),qs (O (tNot++32::(G++(if i < x then 91::(G++(X++[93])) else X)))),qs (O (if i < x then 91::(G++(X++[93])) else X)),none],[]):=by
 have f:bH (.str (O (tNot++[32]))) (.str (O G))=some (.str (O (tNot++32::G))):=by rw[ba (by simp[tNot];lia)];simp
 have r:=Kc;by_cases e:i < x
 .simp only[e,fW];have j:bH (.str (O [91])) (.str (O G))=some (.str (O (91::G))):=ba (by simp;lia);have y:bH (.str (O (91::G))) (.str (O X))=some (.str (O (91::(G++X)))):=ba (by simp;lia);have z:bH (.str (O (91::(G++X)))) (.str (O [93]))=some (.str (O (91::(G++(X++[93]))))):=by rw[ba (by simp;lia)];simp
  have p:bH (.str (O (tNot++32::G))) (.str (O (91::(G++(X++[93])))))=some (.str (O (tNot++32::(G++91::(G++(X++[93])))))):=by rw[ba (by simp[tNot];lia)];simp
  generalize tNot++32::(G++91::(G++(X++[93])))=W at *
  generalize 91::(G++(X++[93]))=o at *
  generalize 91::(G++X)=H at *
  generalize tNot++32::G=u at *
  generalize tNot++[32]=g at *
  simp[lK,a,t,b,n,m,w,v,l,e,Ke,Kb,r,-bF,f,j,y,z,p]
 .simp only[e,ig];have p:bH (.str (O (tNot++32::G))) (.str (O X))=some (.str (O (tNot++32::(G++X)))):=by rw[ba (by simp[tNot];lia)];simp
  generalize tNot++32::(G++X)=W at *
  generalize tNot++32::G=u at *
  generalize tNot++[32]=g at *
  simp[lK,a,t,b,n,m,w,v,l,e,r,-bF,f,p]
theorem OW(h:c.trg)(S:aV):gk (.p (.str c.mkk)) (.p (.tup [.str "and",.str "or"])) S=some (.bl (decide (c.lv≤2))):=by
 cases c with
 |tru=>kernel_rfl
 |no c=>kernel_rfl
 |is m l r=>kernel_rfl
 |bin m l r=>cases m<;>first|exact absurd h.1.1 (by decide)|exact absurd h.1.2 (by decide)|kernel_rfl
theorem qD(a:Str->GF)(n:Str->GX)(h:c.trg)(l:3≤c.lv)(d:Lc)(S:aV):bx s a n (qp c.trp::d) S=some (.nx,qp c.trp::d,S):=by
 have k:=Io h;have x:=OW h;have e:¬c.lv≤2:=by lia
 simp[bx,k,x,e]
theorem Ht(P:Str->GF)(A:Str->GX)(h:(Cnd0.bin m l r).trg){d a n:Int}(u:hZ (s "_law_mix") [.int q,.int 8]=some (.int d))(w:hZ (s "_law_otherwise") [r.trp,.int d]=some (.str (O i)))(x:hZ (s "_law_level") [r.trp]=some (.int a))(v:hZ (s "_law_level") [(Cnd0.bin m l r).trp]=some (.int n))(E:g.length≤300010)(I:i.length≤300000)(D:G.length≤2)(o:Option Ev.D) :
  bx s P A [some (.p (Cnd0.bin m l r).trp),qi q,qs (O G),o,qs (O g),none] []=some (.nx,[some (.p (Cnd0.bin m l r).trp),qi q,qs (O G),qs (O (g++32::(G++(m.tx++(G++32::(if a≤n then 91::(i++(G++[93])) else i)))))),qs (O g),qs (O (if a≤n then 91::(i++(G++[93])) else i))],[]):=by
 have k:=OW h;have p:(Cnd0.bin m l r).lv≤2:=h.1.2;have L:=R5 m;have T:(Cnd0.bin m l r).trp=.tup [.str m.mkk,l.trp,r.trp]:=EK h.1.2 _ _;rw[T]at v ⊢;simp only[Cnd0.mkk]at k;have b:bH (.str (O g)) (.str (O [32]))=some (.str (O (g++[32]))):=ba (by simp;lia);have f2:bH (.str (O (g++[32]))) (.str (O G))=some (.str (O (g++32::G))):=by rw[ba (by simp;lia)];simp
 have f3:bH (.str (O (g++32::G))) (.str m.mkk)=some (.str (O (g++32::(G++m.tx)))):=by rw[Ra h.1.1 h.1.2,ba (by simp;lia)];simp
 have c:bH (.str (O (g++32::(G++m.tx)))) (.str (O G))=some (.str (O (g++32::(G++(m.tx++G))))):=by rw[ba (by simp;lia)];simp
 have t:bH (.str (O (g++32::(G++(m.tx++G))))) (.str (O [32]))=some (.str (O (g++32::(G++(m.tx++(G++[32])))))):=by rw[ba (by simp;lia)];simp
 by_cases e:a≤n
 .simp only[e,fW];have S:bH (.str (O [91])) (.str (O i))=some (.str (O (91::i))):=ba (by simp;lia);have F:bH (.str (O (91::i))) (.str (O G))=some (.str (O (91::(i++G)))):=ba (by simp;lia);have K:bH (.str (O (91::(i++G)))) (.str (O [93]))=some (.str (O (91::(i++(G++[93]))))):=by rw[ba (by simp;lia)];simp
  have f:bH (.str (O (g++32::(G++(m.tx++(G++[32])))))) (.str (O (91::(i++(G++[93])))))=some (.str (O (g++32::(G++(m.tx++(G++32::91::(i++(G++[93])))))))):=by rw[ba (by simp;lia)];simp
  generalize g++32::(G++(m.tx++(G++32::91::(i++(G++[93])))))=W at *
  generalize 91::(i++(G++[93]))=B at *
  generalize 91::(i++G)=C at *
  generalize g++32::(G++(m.tx++(G++[32])))=j at *
  generalize g++32::(G++(m.tx++G))=y at *
  generalize g++32::(G++m.tx)=z at *
  generalize g++32::G=H at *
  simp[bx,k,p,u,w,x,v,e,Ke,Kb,pB,-bF,S,F,K,b,f2,f3,c,t,f]
 .simp only[e,ig];have f:bH (.str (O (g++32::(G++(m.tx++(G++[32])))))) (.str (O i))=some (.str (O (g++32::(G++(m.tx++(G++32::i)))))):=by rw[ba (by simp;lia)];simp
  generalize g++32::(G++(m.tx++(G++32::i)))=W at *
  generalize g++32::(G++(m.tx++(G++[32])))=j at *
  generalize g++32::(G++(m.tx++G))=y at *
  generalize g++32::(G++m.tx)=z at *
  generalize g++32::G=H at *
  simp[bx,k,p,u,w,x,v,e,pB,-bF,b,f2,f3,c,t,f]
end
end My
namespace My
open PySem L2 Ev
def wB(c:List Nat):Bool:=match Jk (.str (O c)) (.tup [.str "or",.str "and",.str "not",.str "true"]) with
 |some b=>!b
 |none=>false
def Iq(c:List Nat):Bool:=!c.isEmpty && decide (c.length≤10) && c.all (λx=>decide (97≤x) && decide (x < 123)) && wB c
theorem u4:∀c < 123,97≤c->eY c "abcdefghijklmnopqrstuvwxyz"=true/\eY c "0123456789"=false/\eY c " "=false:=by decide +kernel
theorem DZ(h:Iq c=true):Nam c:=by
 simp only[Iq,aE,gY,cZ,oX]at h;obtain⟨⟨⟨k,f⟩,s⟩,n⟩:=h;refine⟨λx a=>(by have:=s x a;lia),λz=>(by rw[z]at k;cases k),f,λx a=>(u4 x (s x a).2 (s x a).1).1,λx a=>(u4 x (s x a).2 (s x a).1).2.1,λx a=>(u4 x (s x a).2 (s x a).1).2.2,λS=>?_⟩;show(Jk (.str (O c)) (.tup [.str "or",.str "and",.str "not",.str "true"])).map P.bl=some (.bl false);unfold wB at n;cases e:Jk (.str (O c)) (.tup [.str "or",.str "and",.str "not",.str "true"]) with
 |none=>rw[e]at n;cases n
 |some b=>
  rw[e]at n;cases b with
  |false=>rfl
  |true=>cases n
theorem EQ:∀k:Nat,k < 8->∀a:Nat,a < 9->∀s:Nat,s < 3->Iq (List.replicate (a+1) (97+k)++[[120,118,122].getD s 0])=true:=by decide +kernel
theorem Hz:∀k:Nat,k < 8->∀p:Nat,p < 10->Iq (List.replicate p 109++((97+k)::List.replicate (9-p) 109))=true:=by decide +kernel
theorem Q8:∀k:Nat,k < 8->lT (.str "abcdefgh") (.int (k:Int))=some (.str (O [97+k])):=by
 intro k h;match k,h with
 |0,_=>kernel_rfl
 |1,_=>kernel_rfl
 |2,_=>kernel_rfl
 |3,_=>kernel_rfl
 |4,_=>kernel_rfl
 |5,_=>kernel_rfl
 |6,_=>kernel_rfl
 |7,_=>kernel_rfl
theorem QI:∀s:Nat,s < 3->lT (.str "xvz") (.int (s:Int))=some (.str (O [[120,118,122].getD s 0])):=by
 intro k h;match k,h with
 |0,_=>kernel_rfl
 |1,_=>kernel_rfl
 |2,_=>kernel_rfl
theorem uQ(c:Nat):∀a:Nat,a < 11->kF (.str (O [c])) (.int (a:Int))=some (.str (O (List.replicate a c))):=by
 intro k h;match k,h with
 |0,_=>kernel_rfl
 |1,_=>kernel_rfl
 |2,_=>kernel_rfl
 |3,_=>kernel_rfl
 |4,_=>kernel_rfl
 |5,_=>kernel_rfl
 |6,_=>kernel_rfl
 |7,_=>kernel_rfl
 |8,_=>kernel_rfl
 |9,_=>kernel_rfl
 |10,_=>kernel_rfl
theorem Th:("m":Str)=O [109]:=by decide +kernel
theorem D3(q:Int)(m:Nat)(e:0 < m):∃a:Nat,a < m/\q % (m:Int)=(a:Int):=by have h:=d9 q (show(m:Int)≠0 by lia);have x:=fh q (show(0:Int) < (m:Int) by lia);exact⟨(q % (m:Int)).toNat,by lia,by lia⟩
theorem DY{n:Nat}(z:2≤n){k:Nat}(b:k < 8)(q:Int):∃c,Nam c/\hZ (ax Gv Att Y Rs Tb n "_law_named") [.int (k:Int),.int q]=some (.str (O c)):=by
 obtain⟨n,rfl⟩:=dN (n:=n) (by first|assumption|lia);have m:=Q8 k b;by_cases d:q % 2=0
 .obtain⟨a,g,r⟩:=D3 (q / 2) 9 (by decide);obtain⟨s,w,v⟩:=D3 (q / 18) 3 (by decide);have x:=QI s w;have e:=uQ (97+k) (a+1) (by lia);have h:((a+1:Nat):Int)=1+(a:Int):=by lia
  rw[h]at e;have f:bH (.str (O (List.replicate (a+1) (97+k)))) (.str (O [[120,118,122].getD s 0]))=some (.str (O (List.replicate (a+1) (97+k)++[[120,118,122].getD s 0]))):=ba (by simp;lia);refine⟨_,DZ (EQ k b a g s w),?_⟩;rw[show((9:Nat):Int)=9 from rfl]at r;rw[show((3:Nat):Int)=3 from rfl]at v;rw[lx,bL];generalize [120,118,122].getD s 0=sc at *
  generalize List.replicate (a+1) (97+k)=R at *
  simp[jc,d,m,r,v,x,e,-bF,f]
 .obtain⟨p,i,t⟩:=D3 (q / 2) 10 (by decide);have x:=uQ 109 p (by lia);have e:=uQ 109 (9-p) (by lia);have h:((9-p:Nat):Int)=9-(p:Int):=by lia
  rw[h]at e;have f:bH (.str (O (List.replicate p 109))) (.str (O [97+k]))=some (.str (O (List.replicate p 109++[97+k]))):=ba (by simp;lia);have u:bH (.str (O (List.replicate p 109++[97+k]))) (.str (O (List.replicate (9-p) 109)))=some (.str (O (List.replicate p 109++((97+k)::List.replicate (9-p) 109)))):=by rw[ba (by simp;lia)];simp
  refine⟨_,DZ (Hz k b p i),?_⟩;rw[show((10:Nat):Int)=10 from rfl]at t;rw[lx,bL];generalize List.replicate p 109++((97+k)::List.replicate (9-p) 109)=R2 at *
  generalize List.replicate p 109++[97+k]=l at *
  generalize List.replicate p 109=j at *
  generalize List.replicate (9-p) 109=y at *
  simp[jc,d,m,t,Th,x,e,-bF,f,u]
noncomputable def Dq(n:List Int):P:=.ro (n.map .int)
variable{n:Nat}
theorem Fv(b:2≤n)(s:List Int){k:Int}(x:0≤k)(f:k < 1000):∃r:Int,hZ (ax Gv Att Y Rs Tb n "_law_at") [Dq s,.int k]=some (.int r):=by
 obtain⟨n,rfl⟩:=dN (n:=n) (by first|assumption|lia);have m:jU 23 k=true:=fP (by decide) (by lia);by_cases h:k < (s.length:Int)
 .have a:k.toNat < s.length:=by lia
  refine⟨s[k.toNat],?_⟩;have e:L2.atI (s.map P.int) k=some (.int s[k.toNat]):=dY x (by simp[a]);rw[qV,bL];simp[lW,Dq,bR,cj,h,e]
 .refine⟨23 * k+6,?_⟩;rw[qV,bL];simp[lW,Dq,bR,cj,h,m]
theorem Ij(f:h->e)(x:List h)(a b:Option Int):Ev.cut (x.map f) a b=(Ev.cut x a b).map f:=by unfold Ev.cut;rw[eH,List.map_take,List.map_drop]
theorem Ik(x:List h)(a b:Option Int):(Ev.cut x a b).length≤x.length:=by unfold Ev.cut;rw[dQ,gB];lia
theorem x5(H:2≤n)(q:Int)(m:Nat)(G:m≤8)(L:Lc)(o:L.length=6)(w:L[1]? = some (qi q)) :
  ∃N:List (List Nat),N.length=m/\(∀c ∈ N,Nam c)/\kG (gI 4) Fu (dS (ax Gv Att Y Rs Tb n "_law_named") (v2 n6 (bo ck lf))) (Ev.intsFrom 0 m) L []=some (N.map λc=>P.str (O c),[]):=by
 obtain⟨s,e,u,j⟩:=qZ (g:=gI 4) (e:=dS (ax Gv Att Y Rs Tb n "_law_named") (v2 n6 (bo ck lf))) (S:=[]) (Inv:=fun t=>∃d,t=L.set 4 d) (Q:=fun y=>∃c,Nam c/\y=.str (O c)) (u:=Ev.intsFrom 0 m) (L:=L) (fun v F t l=>by
   obtain⟨d,rfl⟩:=l;obtain⟨i,rfl,E⟩:=wM F;obtain⟨c,a,p⟩:=DY H (k:=i) (by lia) (q / 4);simp only[Int.zero_add];have D:((L.set 4 d).set 4 (qi (i:Int)))[4]? = some (qi (i:Int)):=by rw[eM (by simp[o])]
   have C:((L.set 4 d).set 4 (qi (i:Int)))[1]? = some (qi q):=by rw[dC (by decide),dC (by decide)];exact w
   exact⟨_,.str (O c),rfl,⟨_,zj ..⟩,by simp[-zj,D,C,p],c,a,rfl⟩) ⟨L[4],(List.set_getElem_self (by lia)).symm⟩
 have f:∀s:List P,(∀y ∈ s,∃c,Nam c/\y=.str (O c))->∃N:List (List Nat),N.length=s.length/\(∀c ∈ N,Nam c)/\s=N.map λc=>P.str (O c):=by
  intro s;induction s with
  |nil=>intro _;exact⟨[],rfl,λ_ z=>(by cases z),rfl⟩
  |cons y s B=>
   intro h;obtain⟨c,a,rfl⟩:=h y bi;obtain⟨N,b,r,rfl⟩:=B λz A=>h z (bn _ A)
   exact⟨c::N,by simpa using b,λx K=>(ay.mp K).elim (λe=>e ▸ a) (r x),rfl⟩
 obtain⟨N,b,r,rfl⟩:=f s u;exact⟨N,by rw[b,j,wN],r,e⟩
theorem bI(h:eP a)(g:eP b):eP (a++b):=λc x=>(kQ.mp x).elim (h c) (g c)
theorem b'(h:c < 128)(g:eP a):eP (c::a):=λd x=>(ay.mp x).elim (λe=>e ▸ h) (g d)
theorem gG:eP []:=λ_ h=>nomatch h
theorem na(g:Nat):eP (List.replicate g 32):=λc h=>by rw[(zo.mp h).2];decide
theorem Mi(h:n < 1000):eP (dg n)/\(dg n).length≤3:=by have c:=Ip n h;simp only[Sl,aE,gY,cZ,oX]at c;obtain⟨⟨⟨_,a⟩,e⟩,_⟩:=c;exact⟨λx s=>zF (e x s).2 (by decide),a⟩
theorem II(h:Nam c):eP c:=h.lt
theorem yi(a:eP h)(q:Int)(l:h.length≤900):∃s,eP s/\s.length≤h.length+3/\(q % 7=0->bH (.str (O [40])) (.str (O h))=some (.str (O (40::h)))/\bH (.str (O (40::h))) (.str (O [32,41]))=some (.str (O s)))/\(¬q % 7=0->s=h):=by
 by_cases c:q % 7=0
 .exact⟨(40::h)++[32,41],bI (b' (by decide) a) (b' (by decide) (b' (by decide) gG)),by simp,λ_=>⟨ba (by simp;lia),ba (by simp;lia)⟩,λz=>absurd c z⟩
 .exact⟨h,a,by lia,λz=>absurd z c,λ_=>rfl⟩
def GC(h:Str->GF):ES:=bY (bV (cy (dS (h "_law_level") (v1 (aL cr cz))) (dS (h "_law_level") (v1 cr)))) (aG 4 (U (ac (ac (vt "(") n6) (vt ")")))) df
def GB(h:Str->GF):ES:=bY (cH (bV (CM (dS (h "_law_level") (v1 (aL cr hI))) (dS (h "_law_level") (v1 cr)))) (bV (cy (dS (h "_law_level") (v1 (aL cr hI))) rX))) (aG 5 (U (ac (ac (vt "( ") (vv 5)) (vt ")")))) df
def Pf:ES:=ag (bY (aJ (U (bf ck (vi 7))) (U ii)) (br (U (ac (ac (vt "(") hG) (vt " )")))) df) (br ib)
def Qs(h:Str->GF):ES:=ag (aG 3 (U (eN (vt " ") (aL (fm (v4 ii cz cz hI)) (bf (dS (h "_law_mix") (v2 ck cz)) lf)))))
  (ag (aG 4 (U (dS (h "_law_written") (v2 (aL cr cz) (dS (h "_law_mix") (v2 ck hI))))))
  (ag (aG 5 (U (dS (h "_law_written") (v2 (aL cr hI) (dS (h "_law_mix") (v2 ck rX))))))
  (ag (GC h) (ag (GB h) (aG 2 (U (ac (ac (ac (ac n6 je) (aL (mn (eC "plus" (vt "+") (eC "minus" (vt "-") (eC "times" (vt "*") vp)))) (aL cr ii))) je) (vv 5))))))))
theorem Ae:∀(t:T),t.trg->t.sz≤30->∀n,t.dp+3≤n->∀q:Int,∃b,eP b/\b.length+13≤26 * t.sz/\hZ (ax Gv Att Y Rs Tb n "_law_written") [t.trp,.int q]=some (.str (O b))
 | .num k,h,L,n,I,q=>by
  obtain⟨n,rfl⟩:=dN (n:=n) (by first|assumption|lia);have R:=Fn h;obtain⟨a1,a2⟩:=Mi h;obtain⟨b,i,M,j,o⟩:=yi a1 q (by lia);refine⟨b,i,by simp[T.sz];lia,?_⟩;rw[gS,bL];by_cases c:q % 7=0
  .obtain⟨s,f⟩:=j c;simp[dB,T.trp,R,c,G7,Ds,-bF,s,f]
  .have d:=o c;simp[dB,T.trp,R,c,d]
 | .nam k,h,L,n,I,q=>by
  obtain⟨n,rfl⟩:=dN (n:=n) (by first|assumption|lia);have hle:=Nam.le h;obtain⟨b,i,M,j,o⟩:=yi (II h) q (by lia);refine⟨b,i,by simp[T.sz];lia,?_⟩;rw[gS,bL];by_cases c:q % 7=0
  .obtain⟨s,f⟩:=j c;simp[dB,T.trp,c,G7,Ds,-bF,s,f]
  .have d:=o c;simp[dB,T.trp,c,d]
 | .bin m l r,h,L,n,I,q=>by
  simp only[T.dp]at I;simp only[T.sz]at L;obtain⟨n,rfl⟩:=dN (n:=n) (by first|assumption|lia);obtain⟨s,_,m1⟩:=eF (n:=n+1) (by lia) q (p:=1) (by decide) (by decide);obtain⟨f,_,m2⟩:=eF (n:=n+1) (by lia) q (p:=2) (by decide) (by decide);obtain⟨d3,_,m3⟩:=eF (n:=n+1) (by lia) q (p:=3) (by decide) (by decide);obtain⟨x,Z,l1,w1⟩:=Ae l h.2.1 (by lia) (n+1) (by lia) f;obtain⟨y,s2,l2,w2⟩:=Ae r h.2.2 (by lia) (n+1) (by lia) d3;obtain⟨gq,g,hg,g1,g2⟩:=Lx s;have H:=qI (n:=n+1) (by lia) h.2.1;have S:=qI (n:=n+1) (by lia) h.2.2;have v:=qI (n:=n+1) (by lia) (t:=.bin m l r) h;have K:=Oi h.1;have cl:=wD h.2.1;have N:=wD h.2.2;have k3:=@K1 m;have k4:=@K3 m;have kd:=OE h.1;have E:m.mkc < 128:=by cases m<;>decide
  obtain⟨u,au,hu,P,B⟩:∃u:List Nat,eP u/\u.length≤x.length+2/\(l.lv < m.mkl->bH (.str (O [40])) (.str (O x))=some (.str (O (40::x)))/\bH (.str (O (40::x))) (.str (O [41]))=some (.str (O u)))/\(¬l.lv < m.mkl->u=x):=by
   by_cases c:l.lv < m.mkl
   .exact⟨(40::x)++[41],bI (b' (by decide) Z) (b' (by decide) gG),by simp,λ_=>⟨ba (by simp;lia),ba (by simp;lia)⟩,λz=>absurd c z⟩
   .exact⟨x,Z,by lia,λz=>absurd z c,λ_=>rfl⟩
  obtain⟨z,az,hz',C,D⟩:∃u:List Nat,eP u/\u.length≤y.length+3/\(r.lv≤m.mkl->bH (.str (O [40,32])) (.str (O y))=some (.str (O (40::32::y)))/\bH (.str (O (40::32::y))) (.str (O [41]))=some (.str (O u)))/\(¬r.lv≤m.mkl->u=y):=by
   by_cases c:r.lv≤m.mkl
   .exact⟨(40::32::y)++[41],bI (b' (by decide) (b' (by decide) s2)) (b' (by decide) gG),by simp,λ_=>⟨ba (by simp;lia),ba (by simp;lia)⟩,λz=>absurd c z⟩
   .exact⟨y,s2,by lia,λz=>absurd z c,λ_=>rfl⟩
  have j1:bH (.str (O u)) (.str (O (List.replicate g 32)))=some (.str (O (u++List.replicate g 32))):=ba (by simp;lia);have j2:bH (.str (O (u++List.replicate g 32))) (.str (O [m.mkc]))=some (.str (O (u++List.replicate g 32++[m.mkc]))):=ba (by simp;lia);have j3:bH (.str (O (u++List.replicate g 32++[m.mkc]))) (.str (O (List.replicate g 32)))=some (.str (O (u++List.replicate g 32++[m.mkc]++List.replicate g 32))):=ba (by simp;lia);have j4:bH (.str (O (u++List.replicate g 32++[m.mkc]++List.replicate g 32))) (.str (O z))=some (.str (O (u++List.replicate g 32++[m.mkc]++List.replicate g 32++z))):=ba (by simp;lia);have w:eP (u++List.replicate g 32++[m.mkc]++List.replicate g 32++z):=bI (bI (bI (bI au (na g)) (b' E gG)) (na g)) az;have Q:(u++List.replicate g 32++[m.mkc]++List.replicate g 32++z).length≤x.length+y.length+10:=by simp;lia
  obtain⟨b,i,M,j,o⟩:=yi w q (by lia);refine⟨b,i,by simp only[T.sz];lia,?_⟩;have V:((l.lv-4:Nat):Int) < ((m.mkl-4:Nat):Int)↔l.lv < m.mkl:=by rcases K with e|e<;>rcases cl with a|a|a<;>rw[e,a]<;>decide
  have W:(((r.lv-4:Nat):Int)≤((m.mkl-4:Nat):Int)/\((r.lv-4:Nat):Int) < 3)↔r.lv≤m.mkl:=by rcases K with e|e<;>rcases N with a|a|a<;>rw[e,a]<;>decide
  change hZ _ _=some (.int ((m.mkl-4:Nat):Int)) at v;generalize u++List.replicate g 32++[m.mkc]++List.replicate g 32++z=A at *
  generalize u++List.replicate g 32++[m.mkc]++List.replicate g 32=A4 at *
  generalize u++List.replicate g 32++[m.mkc]=A3 at *
  generalize u++List.replicate g 32=A2 at *
  generalize List.replicate g 32=G at *
  rw[show(T.bin m l r).trp=.tup [.str m.mkk,l.trp,r.trp] from AN h.1 _ _]at v ⊢;rw[gS,bL];have q1:∀ψ ι υ,dB ψ ι υ=ag (bY (aJ (U (aL cr ii)) (U (vt "number"))) (aG 2 (U (cU n3 (v1 (aL cr cz))))) (bY (aJ (U (aL cr ii)) (U (vt "name"))) (aG 2 (U (aL cr cz))) (Qs ψ))) Pf:=λ_ _ _=>rfl;have e5:Pf [qt [.str m.mkk,l.trp,r.trp],qi q,qs (O A),qs (O G),qs (O u),qs (O z)] []=some (.rt (.p (.str (O b))),[qt [.str m.mkk,l.trp,r.trp],qi q,qs (O A),qs (O G),qs (O u),qs (O z)],[]):=by
   by_cases c:q % 7=0
   .obtain⟨s,f⟩:=j c;simp[Pf,c,G7,Ds,-bF,s,f]
   .have d:=o c;simp[Pf,c,d]
  have e1:GC (ax Gv Att Y Rs Tb (n+1)) [qt [.str m.mkk,l.trp,r.trp],qi q,none,qs (O G),qs (O x),qs (O y)] []=some (.nx,[qt [.str m.mkk,l.trp,r.trp],qi q,none,qs (O G),qs (O u),qs (O y)],[]):=by
   by_cases c:l.lv < m.mkl
   .obtain⟨s,f⟩:=P c;simp[GC,H,v,V.mpr c,G7,NI,-bF,s,f]
   .have d:=B c;have F:=mt V.mp c;simp[GC,H,v,F,d]
  have e2:GB (ax Gv Att Y Rs Tb (n+1)) [qt [.str m.mkk,l.trp,r.trp],qi q,none,qs (O G),qs (O u),qs (O y)] []=some (.nx,[qt [.str m.mkk,l.trp,r.trp],qi q,none,qs (O G),qs (O u),qs (O z)],[]):=by
   by_cases c:r.lv≤m.mkl
   .obtain⟨s,f⟩:=C c;have X:=W.mpr c;simp[GB,S,v,X.1,X.2,NJ,NI,-bF,s,f]
   .have d:=D c;have F:¬((r.lv-4:Nat):Int)≤((m.mkl-4:Nat):Int):=λz=>c (W.mp ⟨z,by rcases K with e|e<;>rcases N with a|a|a<;>rw[e,a]at z<;>rw[a]<;>first|decide|exact absurd z (by decide)⟩);simp[GB,S,v,F,d]
  have e3:Qs (ax Gv Att Y Rs Tb (n+1)) [qt [.str m.mkk,l.trp,r.trp],qi q,none,none,none,none] []=some (.nx,[qt [.str m.mkk,l.trp,r.trp],qi q,qs (O A),qs (O G),qs (O u),qs (O z)],[]):=by
   have f1:aG 3 (U (eN (vt " ") (aL (fm (v4 ii cz cz hI)) (bf (dS (ax Gv Att Y Rs Tb (n+1) "_law_mix") (v2 ck cz)) lf)))) [qt [.str m.mkk,l.trp,r.trp],qi q,none,none,none,none] []=some (.nx,[qt [.str m.mkk,l.trp,r.trp],qi q,none,qs (O G),none,none],[]):=by simp[m1,g1,pB,g2]
   rw[Qs,iP f1];rw[iP (e:=[qt [.str m.mkk,l.trp,r.trp],qi q,none,qs (O G),qs (O x),none]) (w:=[]) (by simp[m2,w1])];rw[iP (e:=[qt [.str m.mkk,l.trp,r.trp],qi q,none,qs (O G),qs (O x),qs (O y)]) (w:=[]) (by simp[m3,w2])];rw[iP e1,iP e2];simp[LL,kd,-bF,j1,j2,j3,j4]
  rw[q1];simp only[aA,eI,aX,ed,g9,dv,pq,List.replicate,pk,fW];rw[iP (e:=[qt [.str m.mkk,l.trp,r.trp],qi q,qs (O A),qs (O G),qs (O u),qs (O z)]) (w:=[]) (by simp[k3,k4,e3]),e5];rfl
def Cnd0.sm:Cnd0->Prop
 | .tru=>True
 | .no c=>c.sm
 | .is _ l r=>l.sz≤3/\r.sz≤3
 | .bin _ l r=>l.sm/\r.sm
theorem Fx(m:Mk):eP m.tx:=by unfold eP;cases m<;>decide
theorem O4:eP gv:=by unfold eP;decide
theorem O5:eP tNot:=by unfold eP;decide
theorem QK(m:Mk):m.mks=O m.tx:=(AD m).symm
theorem mB{q:Int}(a:eP X)(l:X.length≤1000)(G o x:Option Ev.D):∃h,eP h/\h.length≤X.length+2/\wm [qp t,qi q,G,qs (O X),o,x] []=some (.rt (.p (.str (O h))),[qp t,qi q,G,qs (O X),o,x],[]):=by
 by_cases c:q % 7=0
 .refine⟨91::X++[93],bI (b' (by decide) a) (b' (by decide) gG),by simp,?_⟩;have p:bH (.str (O [91])) (.str (O X))=some (.str (O (91::X))):=ba (by simp;lia);have e:bH (.str (O (91::X))) (.str (O [93]))=some (.str (O (91::X++[93]))):=ba (by simp;lia);generalize 91::X++[93]=Wst at *
  simp[wm,c,Ke,Kb,-bF,p,e]
 .refine⟨X,a,by lia,?_⟩;simp[wm,c]
theorem my{q:Int}(G:AA (ax Gv Att Y Rs Tb (n+1)) [qp t,qi q,none,none,none,none] []=some (.nx,L,[]))
  (A:lK (ax Gv Att Y Rs Tb (n+1)) L []=some (.nx,L2,[])) (h:bx (ax Gv Att Y Rs Tb (n+1)) (ax Gv Att Y Rs Tb n) (di Gv Att Y Rs Tb (n+1)) L2 []=some (.nx,x,[])) (F:wm x []=some (.rt (.p (.str v)),a,[])) :
  hZ (ax Gv Att Y Rs Tb (n+2) "_law_otherwise") [t,.int q]=some (.str v):=by
 rw[mP,bL,NW];simp[G,A,h,F]
theorem AB:∀(c:Cnd0),c.trg->c.sm->c.sz≤40->∀n,c.sz+4≤n->∀q:Int,∃K,eP K/\K.length+14≤22 * c.sz/\hZ (ax Gv Att Y Rs Tb n "_law_otherwise") [c.trp,.int q]=some (.str (O K))
 | .tru,h,d,z,n,i,q=>by obtain⟨n,rfl⟩:=dN (n:=n) (by first|assumption|lia);obtain⟨P,_,w⟩:=eF (n:=n+1) (by lia) q (p:=4) (by decide) (by decide);obtain⟨g,s,b⟩:=mz (h:=Cnd0.trp .tru) w;obtain⟨R,T,C,f⟩:=mB (t:=Cnd0.trp .tru) (q:=q) (X:=gv) O4 (by decide) (qs (O (List.replicate g 32))) none none;refine⟨R,T,by simp[Cnd0.sz,gv]at C ⊢;lia,?_⟩;rw[qy]at f;exact my b (by simp[lK,Cnd0.trp]) (qD _ _ h (show 3≤4 by decide) _ _) f
 | .is m l r,h,d,z,n,i,q=>by
  simp only[Cnd0.sz]at i z;obtain⟨n,rfl⟩:=dN (n:=n) (by first|assumption|lia);have ss:l.sz≤3/\r.sz≤3:=d;have dl:=AU l;have dr:=AU r;have pl:=l.pos;have pr:=r.pos;obtain⟨P,_,w⟩:=eF (n:=n+1) (by lia) q (p:=4) (by decide) (by decide);obtain⟨d5,_,m5⟩:=eF (n:=n+1) (by lia) q (p:=5) (by decide) (by decide);obtain⟨d6,_,m6⟩:=eF (n:=n+1) (by lia) q (p:=6) (by decide) (by decide);obtain⟨g,s,b⟩:=mz (h:=(Cnd0.is m l r).trp) w;obtain⟨X,k,Q,H⟩:=Ae l h.2.1 (by lia) (n+1) (by lia) d5;obtain⟨e,S,l2,I⟩:=Ae r h.2.2 (by lia) (n+1) (by lia) d6;have hm:m.tx.length≤2:=by have:=h.1;cases m<;>first|decide|exact absurd this (by decide)
  have t:(List.replicate g 32).length≤2:=by simpa using s
  have a:=na g;generalize List.replicate g 32=G at *
  obtain⟨Z,j,o,f⟩:=mB (t:=(Cnd0.is m l r).trp) (q:=q) (X:=X++(G++(m.tx++(G++e)))) (bI k (bI a (bI (Fx m) (bI a S)))) (by simp;lia) (qs (O G)) (qs (O X)) none;refine⟨Z,j,by simp only[Cnd0.sz];simp at o;lia,?_⟩;have hp:(Cnd0.is m l r).trp=.tup [.str "is",.str m.mks,l.trp,r.trp]:=HY h.1 _ _;refine my b ?_ (qD _ _ h (show 3≤4 by decide) _ _) f;rw[hp,QK];have k1:¬("is":Str)="true":=by decide +kernel
  have f1:bH (.str (O X)) (.str (O G))=some (.str (O (X++G))):=ba (by lia);have f2:bH (.str (O (X++G))) (.str (O m.tx))=some (.str (O (X++(G++m.tx)))):=by rw[ba (by simp;lia)];simp
  have f3:bH (.str (O (X++(G++m.tx)))) (.str (O G))=some (.str (O (X++(G++(m.tx++G))))):=by rw[ba (by simp;lia)];simp
  have f4:bH (.str (O (X++(G++(m.tx++G))))) (.str (O e))=some (.str (O (X++(G++(m.tx++(G++e)))))):=by rw[ba (by simp;lia)];simp
  generalize X++(G++(m.tx++(G++e)))=W1 at *
  generalize X++(G++(m.tx++G))=W2 at *
  generalize X++(G++m.tx)=W3 at *
  generalize X++G=W4 at *
  simp[lK,k1,m5,m6,H,I,-bF,f1,f2,f3,f4]
 | .no c,h,d,z,n,i,q=>by
  simp only[Cnd0.sz]at i z;obtain⟨n,rfl⟩:=dN (n:=n) (by first|assumption|lia);have M:c.trg:=h;have pc:=c.pos;obtain⟨P,_,w⟩:=eF (n:=n+1) (by lia) q (p:=4) (by decide) (by decide);obtain⟨A,_,D⟩:=eF (n:=n+1) (by lia) q (p:=7) (by decide) (by decide);obtain⟨g,s,b⟩:=mz (h:=(Cnd0.no c).trp) w;obtain⟨X,k,Q,H⟩:=AB c M d (by lia) (n+1) (by lia) A;have u:=jm (n:=n+1) (by lia) M;have v:=jm (n:=n+1) (by lia) (c:=.no c) h;have y:=nS (q:=q) (G:=List.replicate g 32) (Io (c:=.no c) h) (show ¬("not":Str)="true" by decide +kernel) (show ¬("not":Str)="is" by decide +kernel) (show lT (Cnd0.no c).trp (.int 1)=some c.trp by simp[Cnd0.trp]) D H u v (by lia) (by simpa using s);have t:(List.replicate g 32).length≤2:=by simpa using s
  have a:=na g;generalize List.replicate g 32=G at *
  obtain⟨x,F,lU,B⟩:∃x,eP x/\x.length≤X.length+4/\(if ((min c.lv 3:Nat):Int) < ((min (Cnd0.no c).lv 3:Nat):Int) then 91::(G++(X++[93])) else X)=x:=by
   refine⟨_,?_,?_,rfl⟩
   .split
    .exact b' (by decide) (bI a (bI k (b' (by decide) gG)))
    .exact k
   .split
    .simp;lia
    .lia
  rw[B]at y;obtain⟨Z,j,o,f⟩:=mB (t:=(Cnd0.no c).trp) (q:=q) (X:=tNot++32::(G++x)) (bI O5 (b' (by decide) (bI a F))) (by simp[tNot];lia) (qs (O G)) (qs (O x)) none;refine⟨Z,j,by simp only[Cnd0.sz];simp[tNot]at o;lia,?_⟩;exact my b y (qD _ _ h (show 3≤3 by decide) _ _) f
 | .bin m l r,h,d,z,n,i,q=>by
  simp only[Cnd0.sz]at i z;obtain⟨n,rfl⟩:=dN (n:=n) (by first|assumption|lia);have pl:=l.pos;have pr:=r.pos;obtain⟨P,_,w⟩:=eF (n:=n+1) (by lia) q (p:=4) (by decide) (by decide);obtain⟨A,_,D⟩:=eF (n:=n+1) (by lia) q (p:=7) (by decide) (by decide);obtain⟨d8,_,m8⟩:=eF (n:=n+1) (by lia) q (p:=8) (by decide) (by decide);obtain⟨g,s,b⟩:=mz (h:=(Cnd0.bin m l r).trp) w;obtain⟨X,k,Q,H⟩:=AB l h.2.1 d.1 (by lia) (n+1) (by lia) A;obtain⟨e,S,l2,I⟩:=AB r h.2.2 d.2 (by lia) (n+1) (by lia) d8;have u:=jm (n:=n+1) (by lia) h.2.1;have E:=jm (n:=n+1) (by lia) h.2.2;have v:=jm (n:=n+1) (by lia) (c:=.bin m l r) h;obtain⟨nt,_,ni⟩:=Rb h.1.1 h.1.2;have hT:(Cnd0.bin m l r).trp=.tup [.str m.mkk,l.trp,r.trp]:=EK h.1.2 _ _;have hm:=R5 m;have y:=nS (q:=q) (G:=List.replicate g 32) (Io (c:=.bin m l r) h) nt ni (show lT (Cnd0.bin m l r).trp (.int 1)=some l.trp by rw[hT];simp) D H u v (by lia) (by simpa using s);have t:(List.replicate g 32).length≤2:=by simpa using s
  have a:=na g;generalize List.replicate g 32=G at *
  generalize ((min l.lv 3:Nat):Int)=i1 at *
  generalize ((min r.lv 3:Nat):Int)=i2 at *
  generalize ((min (Cnd0.bin m l r).lv 3:Nat):Int)=N at *
  obtain⟨x,F,lU,B⟩:∃x,eP x/\x.length≤X.length+4/\(if i1 < N then 91::(G++(X++[93])) else X)=x:=by
   refine⟨_,?_,?_,rfl⟩
   .split
    .exact b' (by decide) (bI a (bI k (b' (by decide) gG)))
    .exact k
   .split
    .simp;lia
    .lia
  rw[B]at y;have L:=Ht (q:=q) (G:=G) (g:=x) (ax Gv Att Y Rs Tb n) (di Gv Att Y Rs Tb (n+1)) h m8 I E v (by lia) (by lia) t (qs (O (tNot++32::(G++x))));obtain⟨V,W,lV,hV⟩:∃V,eP V/\V.length≤e.length+4/\(if i2≤N then 91::(e++(G++[93])) else e)=V:=by
   refine⟨_,?_,?_,rfl⟩
   .split
    .exact b' (by decide) (bI S (bI a (b' (by decide) gG)))
    .exact S
   .split
    .simp;lia
    .lia
  rw[hV]at L;obtain⟨Z,j,o,f⟩:=mB (t:=(Cnd0.bin m l r).trp) (q:=q) (X:=x++32::(G++(m.tx++(G++32::V)))) (bI F (b' (by decide) (bI a (bI (Fx m) (bI a (b' (by decide) W)))))) (by simp;lia) (qs (O G)) (qs (O x)) (qs (O V));refine⟨Z,j,by simp only[Cnd0.sz];simp at o;lia,?_⟩;exact my b y L f
end My
namespace My
open PySem L2 Ev
theorem RE(k:Int):∃m:Mk,m.mkl=4/\L2.atI [P.str "=",.str "!=",.str "<",.str "<=",.str ">",.str ">="] (k % 6)=some (.str m.mks):=by
 have x:=d9 k (show(6:Int)≠0 by decide);have a:=fh k (show(0:Int) < 6 by decide);have:k % 6=0\/k % 6=1\/k % 6=2\/k % 6=3\/k % 6=4\/k % 6=5:=by lia
 rcases this with h|h|h|h|h|h<;>rw[h]
 .exact⟨.eq,rfl,by kernel_rfl⟩
 .exact⟨.ne,rfl,by kernel_rfl⟩
 .exact⟨.lt,rfl,by kernel_rfl⟩
 .exact⟨.le,rfl,by kernel_rfl⟩
 .exact⟨.gt,rfl,by kernel_rfl⟩
 .exact⟨.ge,rfl,by kernel_rfl⟩
noncomputable def FJ:List P:=[.str "or",.str "and"]
theorem Rf(k:Int):∃m:Mk,(1≤m.mkl/\m.mkl≤2)/\L2.atI FJ (k % 2)=some (.str m.mkk):=by
 have h0:=d9 k (show(2:Int)≠0 by decide);have h1:=fh k (show(0:Int) < 2 by decide);have:k % 2=0\/k % 2=1:=by lia
 rcases this with h|h<;>rw[h]
 .exact⟨.or,by decide,by kernel_rfl⟩
 .exact⟨.an,by decide,by kernel_rfl⟩
noncomputable def f2(k:Int):Mk:=Classical.choose (Rf k)
theorem Jo(k:Int):L2.atI FJ (k % 2)=some (.str (f2 k).mkk):=(oF (Rf k)).2
theorem OA(k:Int):1≤(f2 k).mkl/\(f2 k).mkl≤2:=(oF (Rf k)).1
def Qc(s:Nat)(p:P):Prop:=∃c:Cnd0,c.trg/\c.sm/\c.sz=s/\p=c.trp
theorem Qc.bin{m:Mk}(e:1≤m.mkl/\m.mkl≤2)(h:Qc a x)(g:Qc b y):Qc (a+b+1) (.tup [.str m.mkk,x,y]):=by obtain⟨t,k,f,r,rfl⟩:=h;obtain⟨u,s,n,c,rfl⟩:=g;exact⟨.bin m t u,⟨e,k,s⟩,⟨f,n⟩,by simp only[Cnd0.sz];lia,(EK e.2 _ _).symm⟩
theorem Qc.no(h:Qc a x):Qc (a+2) (.tup [.str "not",x]):=by obtain⟨t,e,s,n,rfl⟩:=h;exact⟨.no t,e,s,by simp only[Cnd0.sz];lia,rfl⟩
def cA:EB:=cH (bV (cy (bf (vv 9) Ac) hI)) (cH (bV (cy (vv 7) je)) (bV (cy (vv 10) Ac)))
def cJ(h:Str->GF):EB:=cH (bV (jf (b9 rf) cz)) (cH (bV (cy (bf (vv 9) Ac) lf)) (bV (cy (cU jV (v2 (vv 10) (dS (h "_law_depth") (v1 (vE (mU rf (xh kE hI))))))) (vi 7))))
def OS (h:Str->GF):ES:=(ag (aG 9 (U (dS (h "_law_mix") (v2 (vv 8) lf))))
  (ag (aG 10 (U (dS (h "_law_depth") (v1 (vE (mU rf (xh kE cz)))))))
  (bY cA (ag (aU (dw rf (U (cf (v2 (vt "not") (vE (j_ rf)))))))
  (aG 7 (U (ac (vv 7) cz)))) (bY (cJ h) (ag (aG 11 (j_ rf))
  (aU (dw rf (U (cf (v3 (aL n6 (bf (bo (vv 9) Ac) hI)) (vE (j_ rf)) (vv 11))))))) (bY (bV (cy rW hG)) (ag (aG 6 (U (ac rW cz)))
  (aU (dw rf (U (dS (h "_law_test") (v3 cr (bo (vv 9) Ac) (dS (h "_law_mix") (v2 (vv 8) (vi 5))))))))) df)))))
theorem OR(ψ ι:Str->GF)(υ:Str->GX):dH ψ ι υ=OS ψ:=rfl
section
variable{N:List (List Nat)}(hk:N≠[])(hg:∀c ∈ N,Nam c)
include hk hg
theorem v0(hn:3≤n)(q:Int):∃t:T,t.trg/\t.sz≤3/\hZ (ax Gv Att Y Rs Tb n "_law_small") [NL N,.int q]=some t.trp:=by
 obtain⟨n,rfl⟩:=dN (n:=n) (by first|assumption|lia);obtain⟨t,t1,t2,et⟩:=AJ (n:=n+1) (by lia) hk hg (q / 4);obtain⟨u,u1,u2,eu⟩:=AJ (n:=n+1) (by lia) hk hg (q / 16384);by_cases h:0 < q % 4
 .refine⟨t,t1,by lia,?_⟩;rw[lw,bL];simp[ja,et,h]
 .refine⟨.bin (f3 (q / 4096)) t u,⟨Oz _,t1,u1⟩,by simp only[T.sz];lia,?_⟩;have hT:(T.bin (f3 (q / 4096)) t u).trp=.tup [.str (f3 (q / 4096)).mkk,t.trp,u.trp]:=AN (Oz _) _ _;have e3:=Oy (q / 4096);unfold Qr at e3;rw[hT,lw,bL];simp[ja,et,eu,h,e3]
theorem Am(hn:4≤n)(q o:Int):∃c:Cnd0,c.trg/\c.sm/\c.sz≤7/\hZ (ax Gv Att Y Rs Tb n "_law_test") [NL N,.int q,.int o]=some c.trp:=by
 obtain⟨n,rfl⟩:=dN (n:=n) (by first|assumption|lia);obtain⟨t,t1,t3,et⟩:=v0 (n:=n+1) hk hg (by lia) (q / 64);obtain⟨u,u1,u3,eu⟩:=v0 (n:=n+1) hk hg (by lia) o;obtain⟨m,hm,em⟩:=RE (q / 8);by_cases h:q % 8=0
 .refine⟨.tru,trivial,trivial,by simp[Cnd0.sz],?_⟩;rw[mN,bL];simp[jO,h,Cnd0.trp]
 .refine⟨.is m t u,⟨hm,t1,u1⟩,⟨t3,u3⟩,by simp only[Cnd0.sz];lia,?_⟩;have hp:(Cnd0.is m t u).trp=.tup [.str "is",.str m.mks,t.trp,u.trp]:=HY hm _ _;rw[hp,mN,bL];simp[jO,h,em,et,eu]
theorem BX(ι:Str->GF)(υ:Str->GX)(hn:100≤n){most den:Int}(hm:most≤4)(hd:den≤4)(a:Int){many nots:Int}(num dep oth:Option Ev.D)(h1:xs≠[])(h2:Wt Qc xs w)(h3:(w:Int)≤8 * many+2 * nots)(h4:many≤most)(h5:nots≤den) :
  ∃(xs':List P)(w':Nat)(many' nots':Int)(num' dep' oth':Option Ev.D),dH (ax Gv Att Y Rs Tb n) ι υ [qp (NL N),qp cl,qi most,qi den,ql FJ,qr 0,qi many,qi nots,qi a,num,dep,oth] [.lst (xs.map .p)] =
   some (.nx,[qp (NL N),qp cl,qi most,qi den,ql FJ,qr 0,qi many',qi nots',qi a,num',dep',oth'],[.lst (xs'.map .p)])/\xs'≠[]/\Wt Qc xs' w'/\(w':Int)≤8 * many'+2 * nots'/\many'≤most/\nots'≤den:=by
 obtain⟨r,r0,er⟩:=eF (n:=n) (by lia) a (p:=4) (by lia) (by lia);obtain⟨r5,_,er5⟩:=eF (n:=n) (by lia) a (p:=5) (by lia) (by lia);obtain⟨pre,v,rfl⟩:=xR h1;have hlen:=h2.len;have hl6:pre.length+1≤1000000:=by simp at hlen;lia
 have hl7:pre.length≤1000000:=by lia
 obtain⟨t,t1,t2,t3,et⟩:=Am hk hg (n:=n) (by lia) (r / 6) r5;have htest:Wt Qc (pre++[v]++[t.trp]) (w+(t.sz+1)):=h2.append ⟨t.sz,0,⟨t,t1,t2,rfl,rfl⟩,rfl,rfl⟩;obtain⟨wa,wb,p1,⟨s1,w1,q1,q1',rfl⟩,rfl⟩:=h2.split;have q1'':w1=0:=q1';subst q1'';obtain⟨x1,x2,x2',x3,rfl⟩:=id q1;obtain⟨d1,ed1⟩:∃d:Int,hZ (ax Gv Att Y Rs Tb n "_law_depth") [x1.trp]=some (.int d):=⟨_,jo x1 x2 n (by have:=Fe x1;lia)⟩;obtain⟨bA,eA,hA⟩:∃b,cA [qp (NL N),qp cl,qi most,qi den,ql FJ,qr 0,qi many,qi nots,qi a,qi r,qi d1,oth] [.lst ((pre++[x1.trp]).map .p)]=some (b,[.lst ((pre++[x1.trp]).map .p)])/\(b=true->nots < den):=by
  by_cases a1:r % 6 < 2
  .by_cases a2:nots < den
   .exact⟨decide (d1 < 6),by simp[cA,a1,a2],λ_=>a2⟩
   .exact⟨false,by simp[cA,a1,a2],λz=>nomatch z⟩
  .exact⟨false,by simp[cA,a1],λz=>nomatch z⟩
 obtain⟨bJ,eJ,hJ⟩:∃b,cJ (ax Gv Att Y Rs Tb n) [qp (NL N),qp cl,qi most,qi den,ql FJ,qr 0,qi many,qi nots,qi a,qi r,qi d1,oth] [.lst ((pre++[x1.trp]).map .p)]=some (b,[.lst ((pre++[x1.trp]).map .p)])/\(b=true->pre≠[]):=by
  by_cases c1:pre=[]
  .subst c1;exact⟨false,by simp[cJ,bR],λz=>nomatch z⟩
  .obtain⟨pre',u,rfl⟩:=xR c1;obtain⟨wa,wb,p1,⟨s2,w2,q2,q2',rfl⟩,rfl⟩:=p1.split;have q2'':w2=0:=q2';subst q2'';obtain⟨y1,y2,y2',y3,rfl⟩:=id q2;obtain⟨d2,ed2⟩:∃d:Int,hZ (ax Gv Att Y Rs Tb n "_law_depth") [y1.trp]=some (.int d):=⟨_,jo y1 y2 n (by have:=Fe y1;lia)⟩;have hi:(1:Int) < (pre'.length:Int)+1+1:=by lia
   have hi2:(1:Int) < (pre'.length:Int)+2:=by lia
   by_cases a1:r % 6 < 4
   .exact⟨decide ((if d1 < d2 then d2 else d1) < 7),by simp[cJ,bR,hi,hi2,a1,Fw,ed2,jV],λ_=>c1⟩
   .exact⟨false,by simp[cJ,bR,hi,hi2,a1],λz=>nomatch z⟩
 have mapA:(pre++[x1.trp]).map Ev.D.p=pre.map .p++[.p x1.trp]:=by simp
 rw[mapA]at eA eJ ⊢;rw[OR];cases bA with
 |true=>have:=hA rfl;refine⟨pre++[.tup [.str "not",x1.trp]],wa+(s1+2+1+0),many,nots+1,qi r,qi d1,oth,?_,by simp,p1.append ⟨s1+2,0,Qc.no q1,rfl,by lia⟩,by lia,h4,by lia⟩;simp[OS,er,bR,m_,ed1,eA,gH,hl7]
 |false=>
  cases bJ with
  |true=>
   obtain⟨pre',u,rfl⟩:=xR (hJ rfl);obtain⟨wa',wb',p1',⟨s2,w2,q2,q2',rfl⟩,rfl⟩:=p1.split;have q2'':w2=0:=q2';subst q2'';obtain⟨y1,y2,y2',y3,rfl⟩:=id q2;have hl8:pre'.length≤1000000:=by simp at hl7;lia
   refine⟨pre'++[.tup [.str (f2 (r / 6)).mkk,y1.trp,x1.trp]],wa'+(s2+1+0+(s1+1+0)),many,nots,qi r,qi d1,qp x1.trp,?_,by simp,p1'.append ⟨s2+s1+1,0,Qc.bin (OA _) q2 q1,rfl,by lia⟩,by lia,h4,h5⟩;have e2:=Jo (r / 6);simp only[iL,aX,ed,c_,g9,dv]at eA eJ ⊢;simp[OS,er,bR,B9,ed1,eA,eJ,gH,hl8,e2]
  |false=>
   by_cases hmm:many < most
   .refine⟨pre++[x1.trp]++[t.trp],wa+(s1+1+0)+(t.sz+1),many+1,nots,qi r,qi d1,oth,?_,by simp,htest,by lia,by lia,h5⟩;simp[OS,er,er5,bR,m_,ed1,eA,eJ,gH,hmm,et,hl6]
   .refine⟨pre++[x1.trp],wa+(s1+1+0),many,nots,qi r,qi d1,oth,?_,h1,h2,h3,h4,h5⟩;simp[OS,er,bR,m_,ed1,eA,eJ,gH,hmm]
theorem BY(ι:Str->GF)(υ:Str->GX)(hn:100≤n){most den:Int}(hm:most≤4)(hd:den≤4):∀(cs:List Int)(xs:List P)(w:Nat)(many nots:Int)(c num dep oth:Option Ev.D),xs≠[]->Wt Qc xs w->(w:Int)≤8 * many+2 * nots->many≤most->nots≤den ->
  ∃(xs':List P)(w':Nat)(many' nots':Int)(c' num' dep' oth':Option Ev.D),dX (gI 8) (dH (ax Gv Att Y Rs Tb n) ι υ) (cs.map .int)
   [qp (NL N),qp cl,qi most,qi den,ql FJ,qr 0,qi many,qi nots,c,num,dep,oth] [.lst (xs.map .p)] =
   some (.nx,[qp (NL N),qp cl,qi most,qi den,ql FJ,qr 0,qi many',qi nots',c',num',dep',oth'],[.lst (xs'.map .p)])/\xs'≠[]/\Wt Qc xs' w'/\(w':Int)≤8 * many'+2 * nots'/\many'≤most/\nots'≤den:=by
 intro cs;induction cs with
 |nil=>intro xs w many nots c num dep oth h1 h2 h3 h4 h5;exact⟨xs,w,many,nots,c,num,dep,oth,rfl,h1,h2,h3,h4,h5⟩
 |cons a cs ih=>intro xs w many nots c num dep oth h1 h2 h3 h4 h5;obtain⟨xo,wo,mo,no,nu,de,oo,eo,o1,o2,o3,o4,o5⟩:=BX hk hg ι υ hn (cl:=cl) hm hd a num dep oth h1 h2 h3 h4 h5;obtain⟨xi,wi,mi,ni,ci,nui,dei,oi,ei,i1⟩:=ih xo wo mo no (qi a) nu de oo o1 o2 o3 o4 o5;exact⟨xi,wi,mi,ni,ci,nui,dei,oi,(kA rfl eo).trans ei,i1⟩
theorem vu(hn:102≤n)(cs:List Int)(hcs:cs.length≤100):∃c:Cnd0,c.trg/\c.sm/\c.sz≤37/\hZ (ax Gv Att Y Rs Tb n "_law_condition") [NL N,.lst (cs.map .int),.int 4,.int 3]=some (c.trp):=by obtain⟨n,rfl⟩:=dN (n:=n) (by first|assumption|lia);obtain⟨r,r0,er⟩:=eF (n:=n+1) (by lia) (cs.length:Int) (p:=8) (by lia) (by lia);obtain⟨t,t1,t2,t3,et⟩:=Am hk hg (n:=n+1) (by lia) r 5;obtain⟨xs,w,many,nots,c',num',dep',oth',e,h1,h2,h3,h4,h5⟩:=BY hk hg (ax Gv Att Y Rs Tb n) (di Gv Att Y Rs Tb (n+1)) (n:=n+1) (by lia) (cl:=.lst (cs.map .int)) (most:=4) (den:=3) (by lia) (by lia) cs [t.trp] (t.sz+1) 1 0 none none none none (by simp) ⟨t.sz,0,⟨t,t1,t2,rfl,rfl⟩,rfl,rfl⟩ (by lia) (by lia) (by lia);have hl:=h2.len;obtain⟨z,s,⟨t',g1,g2,g3,rfl⟩,g4,g5⟩:=BP (a:=FJ) (f:=λk=>(f2 k).mkk) (λk _=>Jo k) (by decide) (λk a b x y _ hx hy=>Qc.bin (OA _) hx hy) (n:=n+1) (by lia) h1 (by lia) h2;refine⟨t',g1,g2,by lia,?_⟩;have hm:uH 9 (.ref 0) [.lst (xs.map .p)]=some (.lst xs,[.fz (.lst xs)]):=Al rfl;unfold FJ at e g5;rw[mQ,bL];simp only[aX,ed]at e;simp[iV,bR,cj,er,et,e,hm,g5]
end
variable{cs:List Nat}
theorem uO(hc:cs.length≤900)(k:Nat)(hk:k≤cs.length):fC (.str (O cs)) (some (k:Int)) none=some (.str (O (cs.drop k))):=by have h:=FP (x:=O cs) (i:=(k:Int)) ⟨by lia,by rw[ki];lia⟩;have e:Txt.slice (O cs) (some (k:Int)) none=g6 (O cs) (some (k:Int)) none:=rfl;simp only[fC,cM];rw[ae (by rw[fJ];lia),e,h,ki,show((cs.length:Int)-(k:Int)).toNat=cs.length-k by lia,show((k:Int)).toNat=k by lia,zy (by rw[gB];lia)];rfl
theorem G2(hc:cs.length≤900):fC (.str (O cs)) (some ((cs.length+1:Nat):Int)) none=some (.str (O [])):=by
 have h:=uO hc cs.length (ar _);rw[t8]at h;rw[<- h];have e:Txt.slice (O cs) (some ((cs.length+1:Nat):Int)) none=Txt.slice (O cs) (some (cs.length:Int)) none:=by
  show g6 (O cs) (some ((cs.length+1:Nat):Int)) none=g6 (O cs) (some (cs.length:Int)) none;have e2:kP (some ((cs.length+1:Nat):Int)) none 1 (O cs).length=kP (some (cs.length:Int)) none 1 (O cs).length:=by rw[cM];unfold kP;simp;congr 2;rw[ai (by lia),ai (by lia)];lia
  unfold g6;rw[e2]
 simp only[fC,cM];rw[ae (by rw[fJ];lia),ae (by rw[fJ];lia),e]
theorem Fy(h:eP cs)(k:Nat):eP (cs.take k):=λc hc=>h c (pf hc)
theorem xg(h:eP cs)(k:Nat):eP (cs.drop k):=λc hc=>h c (zu hc)
theorem Dm(hc:cs.length≤900)(ha:eP cs)(k:Nat)(hk:k≤cs.length):∃ds,fC (.str (O cs)) (some ((k:Int)+1)) none=some (.str (O ds))/\eP ds/\ds.length+k≤cs.length:=by
 rw[show(k:Int)+1=((k+1:Nat):Int) by lia];by_cases h:k=cs.length
 .subst h;exact⟨[],G2 hc,gG,by simp⟩
 .exact⟨cs.drop (k+1),uO hc (k+1) (by lia),xg ha _,by rw[gB];lia⟩
noncomputable def A1:Str:=" !\"#$&'()*+,-./0123456789:;<=>?@ABCDEFGHIJKLMNOPQRSTUVWXYZ[\\]^_`"
noncomputable def A2:Str:="abcdefghijklmnopqrstuvwxyz{|}~"
theorem Dh:(A1++A2).cps.toList.length=94/\(A1++A2).cps.toList.all (λc=>decide (c < 128))=true:=by decide +kernel
theorem G1(c:Int):∃x,x < 128/\lT (.str (A1++A2)) (.int (c % 94))=some (.str (O [x])):=by
 obtain⟨h1,h2⟩:=Dh;obtain⟨x,hx,e⟩:=q9 (u:=(A1++A2).cps.toList) (λz=>by rw[z]at h1;cases h1) c;rw[h1]at e;have h3:(A1++A2).length=94:=by rw[<- h1];simp[kO]
 refine⟨x,bP (cZ.mp h2 x hx),?_⟩;rw[show((94:Nat):Int)=94 from rfl]at e;unfold lT;dsimp only;rw[h3,ae (by decide),e];rfl
noncomputable def MN:List P:=[.str "a",.str "o",.str "0",.str "9",.str "+",.str "-",.str "*",.str "(",.str ")",.str "[",.str "]",.str "=",.str "<",.str "!",.str " ",.str "or",.str "not",.str "true"]
noncomputable def O9:List (List Nat):=[[97],[111],[48],[57],[43],[45],[42],[40],[41],[91],[93],[61],[60],[33],[32],[111,114],[110,111,116],[116,114,117,101]]
theorem JK:MN=O9.map λc=>P.str (O c):=by kernel_rfl
theorem GH:O9.all (λc=>decide (c.length≤4) && c.all λx=>decide (x < 128))=true:=by decide +kernel
theorem JL(q:Int):∃m,eP m/\m.length≤4/\L2.atI MN (q % 18)=some (.str (O m)):=by
 obtain⟨x,hx,e⟩:=q9 (u:=MN) (λz=>nomatch z) q;rw[JK]at hx;obtain⟨m,hm,rfl⟩:=iJ.mp hx;have:=cZ.mp GH m hm
 rw[aE]at this;exact⟨m,λc hc=>bP (cZ.mp this.2 c hc),bP this.1,e⟩
def PR:ES:=bY (bV (jf (bf ck lf) ii)) (ag (aG 5 (U (fm (aZ (vt "a") (aZ (vt "o") (aZ (vt "0") (aZ (vt "9") (aZ (vt "+") (aZ (vt "-") (aZ (vt "*") (aZ (vt "(") (aZ (vt ")") (aZ (vt "[") (v8 (vt "]") (vt "=") (vt "<") (vt "!") (vt " ") (vt "or") (vt "not") (vt "true"))))))))))))))) (aG 4 (U (aL (vv 5) (bf (bo ck lf) (vi 18)))))) df
def MK:ES:=ag (bY (aJ (gm 7) (U ii)) (br (U (gQ cr cW (bM rW)))) df)
  (ag (bY (aJ (gm 7) (U cz)) (br (U (ac (ac (gQ cr cW (bM rW)) n6) (gQ cr (bM rW) cW)))) df)
  (ag (bY (aJ (gm 7) (U hI)) (br (U (ac (ac (gQ cr cW (bM rW)) n6) (gQ cr (bM (ac rW cz)) cW)))) df)
  (br (U (ac (gQ cr cW (bM rW)) (gQ cr (bM (ac rW cz)) cW))))))
theorem L7(hc:cs.length≤890)(ha:eP cs)(hm:eP m)(hl:m.length≤4)(k:Nat)(hk:k≤cs.length)(j:Int)(hj:0≤j/\j < 4):∃cs',eP cs'/\cs'.length≤cs.length+4/\∃L',MK [qs (O cs),d1,d2,d3,qs (O m),d5,qi (k:Int),qi j] []=some (.rt (.p (.str (O cs'))),L',[]):=by
 have e1:=Dj (f:=cs) (by lia) k;have e2:=uO (by lia) k hk;obtain⟨ds,e3,a3,l3⟩:=Dm (by lia) ha k hk;have lt:(cs.take k).length=k:=by rw[dQ];lia
 have ld:(cs.drop k).length=cs.length-k:=gB;have p1:bH (.str (O (cs.take k))) (.str (O m))=some (.str (O (cs.take k++m))):=ba (by lia);have p2:bH (.str (O (cs.take k++m))) (.str (O (cs.drop k)))=some (.str (O (cs.take k++m++cs.drop k))):=ba (by rw[aI];lia);have p3:bH (.str (O (cs.take k++m))) (.str (O ds))=some (.str (O (cs.take k++m++ds))):=ba (by rw[aI];lia);have p4:bH (.str (O (cs.take k))) (.str (O ds))=some (.str (O (cs.take k++ds))):=ba (by lia);have a1:=Fy ha k;have a2:=xg ha k;have b2:eP (cs.take k++m++cs.drop k)/\(cs.take k++m++cs.drop k).length≤cs.length+4:=⟨bI (bI a1 hm) a2,by rw[aI,aI];lia⟩;have b3:eP (cs.take k++m++ds)/\(cs.take k++m++ds).length≤cs.length+4:=⟨bI (bI a1 hm) a3,by rw[aI,aI];lia⟩;have b4:eP (cs.take k++ds)/\(cs.take k++ds).length≤cs.length+4:=⟨bI a1 a3,by rw[aI];lia⟩;have b1:eP (cs.take k)/\(cs.take k).length≤cs.length+4:=⟨a1,by lia⟩;generalize cs.take k++m++cs.drop k=X2 at *
 generalize cs.take k++m++ds=X3 at *
 generalize cs.take k++ds=X4 at *
 generalize cs.take k++m=X1 at *
 generalize cs.take k=X0 at *
 have hj4:j=0\/j=1\/j=2\/j=3:=by lia
 rcases hj4 with rfl|rfl|rfl|rfl
 .exact⟨X0,b1.1,b1.2,_,by simp[MK,e1];rfl⟩
 .exact⟨X2,b2.1,b2.2,_,by simp[MK,e1,e2,-bF,p1,p2];rfl⟩
 .exact⟨X3,b3.1,b3.2,_,by simp[MK,e1,e3,-bF,p1,p3];rfl⟩
 .exact⟨X4,b4.1,b4.2,_,by simp[MK,e1,e3,-bF,p4];rfl⟩
variable{n:Nat}
theorem IE(hn:2≤n)(hc:cs.length≤890)(ha:eP cs)(q c:Int):∃cs',eP cs'/\cs'.length≤cs.length+4/\hZ (ax Gv Att Y Rs Tb n "_law_bent") [.str (O cs),.int q,.int c]=some (.str (O cs')):=by
 obtain⟨n,rfl⟩:=dN (n:=n) (by first|assumption|lia);obtain⟨x,hx,ex⟩:=G1 c;have hA:bH (.str A1) (.str A2)=some (.str (A1++A2)):=by kernel_rfl
 obtain⟨w,w1,w2,ew⟩:=JL (q / 4);have hW:P.lst MN=.lst [.str "a",.str "o",.str "0",.str "9",.str "+",.str "-",.str "*",.str "(",.str ")",.str "[",.str "]",.str "=",.str "<",.str "!",.str " ",.str "or",.str "not",.str "true"]:=rfl;obtain⟨m,hm1,hm2,d5,e4⟩:∃m,eP m/\m.length≤4/\∃d5,PR [qs (O cs),qi q,qi c,qs (A1++A2),qs (O [x]),none,none,none] []=some (.nx,[qs (O cs),qi q,qi c,qs (A1++A2),qs (O m),d5,none,none],[]):=by
  generalize A1++A2=A at *
  by_cases h:0 < q % 4
  .refine⟨w,w1,w2,ql MN,?_⟩;unfold MN at ew ⊢;simp[PR,h,ew]
  .exact⟨[x],b' hx gG,by simp,none,by simp[PR,h]⟩
 obtain⟨k,hk,ek⟩:=D3 (q / 128) (cs.length+1) (by lia);have hj0:=d9 (q / 524288) (show(4:Int)≠0 by decide);have hj1:=fh (q / 524288) (show(0:Int) < 4 by decide);obtain⟨cs',b1,b2,L',e5⟩:=L7 (cs:=cs) (m:=m) hc ha hm1 hm2 k (by lia) (q / 524288 % 4) ⟨hj0,hj1⟩ (d1:=qi q) (d2:=qi c) (d3:=qs (A1++A2)) (d5:=d5);refine⟨cs',b1,b2,?_⟩;have hcap:cs.length≤1000000:=by lia
 rw[vf,bL];have hb:∀ψ ι υ,m9 ψ ι υ=ag (aG 3 (U (vt A1))) (ag (aG 3 (U (ac je (vt A2)))) (ag (aG 4 (U (aL je (bf hG (vi 94))))) (ag PR (ag (aG 6 (U (bf (bo ck (vi 128)) (ac (b9 aC) cz)))) (ag (aG 7 (U (bf (bo ck (vi 524288)) lf))) MK))))):=λ_ _ _=>rfl;rw[hb];rw[show((cs.length+1:Nat):Int)=(cs.length:Int)+1 by lia]at ek;generalize A1++A2=A at *
 generalize A1=B1 at *
 generalize A2=B2 at *
 generalize O [x]=x1 at *
 have hem:((cs.length:Int)+1=0)=False:=fX (by lia);simp[-bF,hA,ex,e4,bR,cj,hcap,ek,e5,Ig,vq,hem]
theorem Eb(hc:cs.length≤890)(ha:eP cs):∀(xs:List P),(∀x ∈ xs,∃k:Nat,x=.int (k:Int)/\k < 3)->∀(d4 d5:Option D),∃d4' d5',dX (gI 4) (lX (ax Gv Att Y Rs Tb 199) (ax Gv Att Y Rs Tb 198) (di Gv Att Y Rs Tb 199)) xs [qp (Dq ns),d1,d2,qs (O cs),d4,d5] []=some (.nx,[qp (Dq ns),d1,d2,qs (O cs),d4',d5'],[]):=by
 intro xs;induction xs with
 |nil=>intro _ d4 d5;exact⟨d4,d5,rfl⟩
 |cons v xs ih=>
  intro h d4 d5;obtain⟨k,rfl,hk⟩:=h v bi;obtain⟨c,a0⟩:=Fv (n:=199) (by lia) ns (k:=2+(k:Int)) (by lia) (by lia);obtain⟨q,_,m1⟩:=eF (n:=199) (by lia) c (p:=9) (by decide) (by decide);obtain⟨cs',b1,b2,eb⟩:=IE (n:=199) (by lia) hc ha q c;have er:=we (n:=199) (by lia) (s:=cs') (by lia) b1;obtain⟨d4',d5',e⟩:=ih (λx hx=>h x (bn _ hx)) (qi (k:Int)) (qs (O cs'));refine⟨d4',d5',?_⟩;rw[kA rfl (L2:=[qp (Dq ns),d1,d2,qs (O cs),qi (k:Int),qs (O cs')]) (x:=[]) ?_]
  .exact e
  .generalize Dq ns=sc at *
   generalize O cs'=t' at *
   generalize O cs=t at *
   simp[lX,a0,m1,eb,er]
theorem HJ(ns:List Int)(hl:ns.length≤63):hZ (ax Gv Att Y Rs Tb 200 "law") [Dq ns]=some (.bl true):=by
 obtain⟨c0,a0⟩:=Fv (n:=199) (by lia) ns (k:=0) (by decide) (by decide);obtain⟨c1,a1⟩:=Fv (n:=199) (by lia) ns (k:=1) (by decide) (by decide);obtain⟨q,q0,m1⟩:=eF (n:=199) (by lia) c0 (p:=1) (by decide) (by decide);obtain⟨q5,_,m5⟩:=eF (n:=199) (by lia) c1 (p:=5) (by decide) (by decide);obtain⟨m,hm,em⟩:=D3 q 4 (by decide);rw[show((4:Nat):Int)=4 from rfl]at em;obtain⟨N,n1,n2,en⟩:=x5 (n:=199) (by lia) q (m+1) (by lia) [qp (Dq ns),qi q,none,none,none,none] rfl rfl;have hN:N≠[]:=λz=>by rw[z]at n1;simp at n1
 obtain⟨t,tg,tsm,ts,et⟩:=vu hN n2 (n:=199) (by lia) (Ev.cut ns (some 2) (some 32)) (by have:=Ik ns (some 2) (some 32);lia);obtain⟨cs,b1,b2,ew⟩:=AB t tg tsm (by lia) 199 (by lia) q5;have er:=we (n:=199) (by lia) (s:=cs) (by lia) b1;have hq:(1+q % 4).natAbs < 1000000:=by lia
 have hq2:(1+q % 4).toNat=m+1:=by lia
 have hml:m+1≤1000000:=by lia
 have hc:fC (Dq ns) (some 2) (some 32)=some (.lst ((Ev.cut ns (some 2) (some 32)).map .int)):=by show some (P.lst (Ev.cut (ns.map P.int) (some 2) (some 32)))=_;rw[Ij]
 obtain⟨d4',d5',ef⟩:=Eb (ns:=ns) (cs:=cs) (by lia) b1 (d1:=qi q) (d2:=ql (N.map λc=>P.str (O c))) (Ev.intsFrom 0 3) (λx hx=>by obtain⟨i,rfl,hi⟩:=wM hx;exact⟨i,by simp,hi⟩) none none
 rw[H_,bL];generalize O cs=told at *
 generalize hts:t.trp=tp at *
 generalize hsc:Dq ns=sc at *
 unfold NL at et;generalize (N.map λc=>P.str (O c))=NP at *
 generalize (Ev.cut ns (some 2) (some 32)).map P.int=CP at *
 simp[A9,a0,a1,m1,m5,mq,hq,hq2,wN,hml,Cf,en,hc,et,ew,er,ef]
theorem Ea{n:List Int}(l:n.length≤63)(h:Cd H)(S:j6 K H a (n.map V.int)):rz K (ax Gv Att Y Rs Tb 200 "law") [.ref a] H (λv _=>v=.bl true) E:=K_ h S (HJ n l)
end My
set_option tactic.hygienic true
namespace PySem.W.Fast
def tw14286196539721869257:=Nat
def tw8132017088741623472:=Nat
def tw1530076421273901055:=Nat
def tw6777797465681894181:=Nat
def tw15257285359354966357:=Nat
def tw14519415573398479934:=Nat
def tw16864305391174327479:=Nat
def tw4800754365129455319:=Nat
def tw8419667077046878774:=Nat
def tw3396203367210220001:=Nat
def tw17087634539011577263:=Nat
def tw4917774708280687960:=Nat
def tw7806984636183460080:=Nat
def tw4012018699086025597:=Nat
def tw7709142616827569726:=Nat
def tw12445297605523107179:=Nat
def tw12362163860363261026:=Nat
def tw5263727832727503966:=Nat
def tw17512164805174205190:=Nat
def tw1078513910202495196:=Nat
def tw10758021619968811096:=Nat
def tw16897959676880305749:=Nat
def tw2606628607591791248:=Nat
def tw6595981487673196994:=Nat
def tw11285137891620942259:=Nat
def tw9723673033699980112:=Nat
def tw2176887049988162872:=Nat
def tw12100195824678852920:=Nat
def tw13898882791526815010:=Nat
def tw5615121516816954253:=Nat
def tw7088479624748646133:=Nat
def tw7508958804853403350:=Nat
def tw13767237781538898593:=Nat
def tw16981138747075692745:=Nat
def tw4880663657803103102:=Nat
def tw9201873908363466816:=Nat
def tw2053687551020603547:=Nat
def tw15209355044992505433:=Nat
def tw16169026973354562061:=Nat
def tw11318274691554341583:=Nat
def tw17549001966438070587:=Nat
def tw7794933859298195891:=Nat
def tw3646246805127062862:=Nat
def tw10794589829503099490:=Nat
def tw15555711692639062788:=Nat
def tw12146953711928756906:=Nat
def tw7808435490699098936:=Nat
def tw6899704109317011276:=Nat
def tw14856920719416655978:=Nat
def tw13717430991453323046:=Nat
def tw17240926862108508560:=Nat
def tw13389023010266395237:=Nat
def tw4353013352665670659:=Nat
def tw13058042675171253292:=Nat
def tw8610138702704499827:=Nat
def tw12781029257350741322:=Nat
def tw12239854340609226705:=Nat
def tw2366577867804842233:=Nat
def tw16593087903890211252:=Nat
def tw15793667690207666843:=Nat
def tw3312608653507572465:=Nat
def tw510081987552348226:=Nat
def tw850966958451127951:=Nat
def tw15569273346671035333:=Nat
def tw5678451960800897686:=Nat
def tw7851789107292845631:=Nat
def tw18255170881554375184:=Nat
def tw14090017849928352246:=Nat
def tw1865429259696821867:=Nat
def tw3507926854606121762:=Nat
def tw10599597385834111133:=Nat
def tw6705805881758239182:=Nat
def tw1380001020855028884:=Nat
def tw2967698165367604620:=Nat
def tw1732212857209044298:=Nat
def tw13308790377241660112:=Nat
def tw6218211938198035334:=Nat
def tw4797270880771716345:=Nat
def tw2658047388951065983:=Nat
def tw3864891355594105245:=Nat
def tw15800419056779530621:=Nat
def tw18420696093485122435:=Nat
def tw17592613023687910374:=Nat
def tw14193706412139666465:=Nat
def tw12697135693963467303:=Nat
def tw8249570586587144592:=Nat
def tw7640737253284915507:=Nat
def tw10589430094047023257:=Nat
def tw16666723276416022465:=Nat
def tw10310932063691123567:=Nat
def tw9056287444378709489:=Nat
def tw11896867890865743712:=Nat
def tw2196172073352301150:=Nat
def tw10918087597472589401:=Nat
def tw17419043848457074816:=Nat
def tw4748308421534055652:=Nat
def tw11271969761313826579:=Nat
def tw2923138107291968323:=Nat
def tw11193208278056054334:=Nat
def tw4033980432436938539:=Nat
def tw3059036052137255067:=Nat
def tw3604516377432560047:=Nat
def tw6163681552396159032:=Nat
def tw3157076310912820272:=Nat
def tw5476516348677454735:=Nat
def tw16209099291528037424:=Nat
def tw2279441564073310482:=Nat
def tw4445370651997772331:=Nat
def tw15193521859733753021:=Nat
def tw18307592065798222522:=Nat
def tw12912705750381146448:=Nat
def tw8098658153185398169:=Nat
def tw12596432895896867637:=Nat
def tw1238057447570751661:=Nat
def tw10653337551504180963:=Nat
def tw8835265278244643024:=Nat
def tw9730141555884256183:=Nat
def tw6216119460860852626:=Nat
def tw8294119274881740182:=Nat
def tw11522012691252188678:=Nat
def tw4491699149947159726:=Nat
def tw13681127737137948733:=Nat
def tw14088933558424324193:=Nat
def tw14441977012834991763:=Nat
def tw18169216943826485128:=Nat
def tw436698779091826267:=Nat
def tw6426541861655514157:=Nat
def tw14800652187999143562:=Nat
def tw2101094110564742786:=Nat
def tw9850527523315958812:=Nat
def tw12383672877387179888:=Nat
def tw9507942904329688900:=Nat
def tw13349061535617148668:=Nat
def tw5116040078843355139:=Nat
def tw51473741056226296:=Nat
def tw3144331393999023150:=Nat
def tw16924985390293803537:=Nat
def tw6954926312883917747:=Nat
def tw16240893343247648360:=Nat
def tw4878479653261151297:=Nat
def tw11736006720628986007:=Nat
def tw7021245445090829151:=Nat
def tw431448334328101060:=Nat
def tw16696852649321093601:=Nat
def tw4427558195031464606:=Nat
def tw8632185916627613245:=Nat
def tw8832821117465333812:=Nat
def tw5836954430621976832:=Nat
def tw18241348028765757403:=Nat
def tw255886718713777841:=Nat
def tw4291659099542100668:=Nat
def tw15747194185562012998:=Nat
def tw6484074969943936006:=Nat
def tw2551009409139103462:=Nat
def tw2820861001843989300:=Nat
def tw14790506974541748845:=Nat
def tw6178333944098136978:=Nat
def tw12509215516403667820:=Nat
def tw11714134110274589615:=Nat
def tw4547263832165376980:=Nat
def tw3906750129765763751:=Nat
def tw17094511596619024864:=Nat
def tw17214938632963776391:=Nat
def tw11518039581944249922:=Nat
def tw7796068178978671340:=Nat
def tw3440228430134837183:=Nat
def tw1185308884890217950:=Nat
def tw16157134526520150942:=Nat
def tw18187821075352450374:=Nat
def tw3658752221582825952:=Nat
def tw14711532961908305270:=Nat
def tw11732851907750207469:=Nat
def tw13336781512756514747:=Nat
def tw12326000083678204554:=Nat
def tw9605635620916156928:=Nat
def tw6303763601413878317:=Nat
def tw17119371809847691533:=Nat
def tw6875684987879260157:=Nat
def tw18272237279240091524:=Nat
def tw7144833559892828481:=Nat
def tw6025281605039298538:=Nat
def tw9535555156378908671:=Nat
def tw15674254031811041613:=Nat
def tw16043862043824810237:=Nat
def tw13588782188071559203:=Nat
def tw13097709542174311842:=Nat
def tw16854154392522471404:=Nat
def tw5390526222860432594:=Nat
def tw8815492789612113422:=Nat
def tw5495992257366262810:=Nat
def tw14899609833535147373:=Nat
def tw2168003093268100378:=Nat
def tw3762163064049099869:=Nat
def tw11602477922514868125:=Nat
def tw15248071329877467971:=Nat
def tw17090824854516324974:=Nat
def tw1979645079204198216:=Nat
def tw14341749913133178432:=Nat
def tw702632296233396032:=Nat
def tw7514124504386324154:=Nat
def tw1563576760120410672:=Nat
def tw5369738164018068515:=Nat
def tw1731536031064639629:=Nat
def tw1618426517548001256:=Nat
def tw1592365849438475841:=Nat
def tw14391668026716136219:=Nat
def tw16350085790014291008:=Nat
def tw1196399733001485317:=Nat
def tw4093485232288330859:=Nat
def tw218109413368153845:=Nat
def tw10248894339118848982:=Nat
def tw5149328130238100004:=Nat
def tw11013492802854344172:=Nat
def tw14772155275737593214:=Nat
def tw4536370386225121881:=Nat
def tw12289574025904174528:=Nat
def tw1687264855229477251:=Nat
def tw10854680892835415609:=Nat
def tw16945755671521695708:=Nat
def tw1072573700581244010:=Nat
def tw12827665495169073730:=Nat
def tw13762246440845875919:=Nat
def tw15292525092610604512:=Nat
def tw8069625398162572901:=Nat
def tw13321505767527396268:=Nat
def tw8901761484136008098:=Nat
def tw12292656139321794722:=Nat
def tw7340279206603464261:=Nat
def tw3325552148156687101:=Nat
def tw6320823008452346248:=Nat
def tw16598183610832232764:=Nat
def tw12823821320347353645:=Nat
def tw3464264689328060226:=Nat
def tw15809324768476872083:=Nat
def tw14679036818371267673:=Nat
def tw12143928327621031210:=Nat
def tw15826756823927968039:=Nat
def tw13362739211343239576:=Nat
def tw7155562133442350533:=Nat
def tw15815813475779972887:=Nat
def tw2174173995209014149:=Nat
def tw14823135467130996634:=Nat
def tw18341016489640706901:=Nat
def tw3171764939988900147:=Nat
def tw9752824334060285017:=Nat
def tw13697107382461475687:=Nat
def tw7971589283042380788:=Nat
def tw10563000361746970983:=Nat
def tw9067214793243683460:=Nat
def tw59387881075475865:=Nat
def tw16495529707214073962:=Nat
def tw17707200452722892628:=Nat
def tw11757773542940761732:=Nat
def tw2029249883452303332:=Nat
def tw15956208112485189479:=Nat
def tw9469410752535681933:=Nat
def tw6459998137921402276:=Nat
def tw17853201417951401788:=Nat
def tw18123034929580882617:=Nat
def tw16643437135669758971:=Nat
def tw685332947744646688:=Nat
def tw8592048323863622221:=Nat
def tw14089483381955485426:=Nat
def tw10045083424957236327:=Nat
def tw2902219107364484171:=Nat
def tw7370757488771113578:=Nat
def tw3233172932512406883:=Nat
def tw18280749200353795231:=Nat
def tw312741358541042332:=Nat
def tw7601781791807826804:=Nat
def tw2252363546631315558:=Nat
def tw11765171772050287695:=Nat
def tw5493074952046125317:=Nat
def tw18148834101209648311:=Nat
def tw14344027286379965092:=Nat
def tw5615431635792321515:=Nat
def tw738693342716878111:=Nat
def tw296981999132986014:=Nat
def tw2413548506133221351:=Nat
def tw14189367010598052855:=Nat
def tw17871497307338155033:=Nat
def tw4230505561790748337:=Nat
def tw15868369733802511012:=Nat
def tw6650094853284074442:=Nat
def tw17021048233942908090:=Nat
def tw1323865021897188807:=Nat
def tw1742875532647841996:=Nat
def tw12503512521177453372:=Nat
def tw13297381035620080776:=Nat
def tw17966336341032652818:=Nat
def tw16541187010138717901:=Nat
def tw17173764559876268196:=Nat
def tw14637358902497857214:=Nat
def tw259969830778483442:=Nat
def tw12782080867950101688:=Nat
def tw14748717521408594551:=Nat
def tw10722411014097074599:=Nat
def tw11516479753215180199:=Nat
def tw15159318630184256455:=Nat
def tw11161401703129268151:=Nat
def tw1533679462911975735:=Nat
def tw12519532054183870783:=Nat
def tw7136064448981540897:=Nat
def tw16740050649946628461:=Nat
def tw13906758752285232969:=Nat
def tw13141867874020466161:=Nat
def tw1886397565670240539:=Nat
def tw4278728572837259042:=Nat
def tw13784088425318368425:=Nat
def tw5213423606596142068:=Nat
def tw14114014641061324935:=Nat
def tw12461090246717504056:=Nat
def tw4190144597149994333:=Nat
def tw11891910292695588742:=Nat
def tw15245838364530762287:=Nat
def tw8010125234485584413:=Nat
def tw8761492292443639974:=Nat
end PySem.W.Fast
open PySem PySem.W PyProof.Rows
set_option maxRecDepth 100000 in
set_option maxHeartbeats 0 in
theorem PySem.Challenge.cw_roadsall_k04_no_conditions_holds : PySem.Challenge.rw_roadsall_k04_no_conditions.Holds := by
 w_on;o_law;k_head;(case hw=>w_witness2)
 k_fill
 refine L2.CW (l:=PySem.Challenge.rw_roadsall_k04_no_conditions) (n:=63) (k:=200) (x:="_law_script") (CX:=L2.re) (sp:=fun K=>Ev.rz K (Ev.ax My.Gv My.Att My.Y My.Rs My.Tb 200 "law")) rfl (by decide) rfl ⟨rfl,by decide,by decide⟩ (fun w h Y=>PySem.W.kIn_of Y) ?F ?S ?C
 case F=>
  intro w mg fa h KX G hmg
  have T:Ev.TOk w My.Gv My.Att My.Y My.Rs My.Tb (L2.Sv KX) mg:=by
   dsimp only [L2.Sv]
   refine' My.Ml KX G ?ca0 ?cb0 ?cc0 ?cd0' ?ce0 ?cf0 ?cg0 ?na0_0 ?na0_1 ?na0_2 ?na0_3 ?na0_4 ?na0_5 ?a0 ?l0 ?c0 ?k0 ?a1 ?l1 ?c1 ?k1 ?a2 ?l2 ?c2 ?k2 ?a3 ?l3 ?c3 ?k3 ?a4 ?l4 ?c4 ?k4 ?a5 ?l5 ?c5 ?k5 ?a6 ?l6 ?c6 ?k6 ?a7 ?l7 ?c7 ?k7 ?a8 ?l8 ?c8 ?k8 ?a9 ?l9 ?c9 ?k9 ?a10 ?l10 ?c10 ?k10 ?a11 ?l11 ?c11 ?k11 ?a12 ?l12 ?c12 ?k12 ?a13 ?l13 ?c13 ?k13 ?a14 ?l14 ?c14 ?k14 ?a15 ?l15 ?c15 ?k15 ?a16 ?l16 ?c16 ?k16 ?a17 ?l17 ?c17 ?k17 ?a18 ?l18 ?c18 ?k18 ?a19 ?l19 ?c19 ?k19 ?a20 ?l20 ?c20 ?k20 ?a21 ?w21 ?l21 ?c21 ?k21 ?a22 ?w22 ?l22 ?c22 ?k22 ?a23 ?w23 ?l23 ?c23 ?k23 ?a24 ?w24 ?l24 ?c24 ?k24 ?a25 ?w25 ?l25 ?c25 ?k25 ?a26 ?w26 ?l26 ?c26 ?k26 ?a27 ?w27 ?l27 ?c27 ?k27 ?a28 ?w28 ?l28 ?c28 ?k28 ?a29 ?w29 ?l29 ?c29 ?k29 ?a30 ?w30 ?l30 ?c30 ?k30 ?a31 ?w31 ?l31 ?c31 ?k31 ?a32 ?w32 ?l32 ?c32 ?k32 ?a33 ?w33 ?l33 ?c33 ?k33 ?a34 ?w34 ?l34 ?c34 ?k34 ?a35 ?l35 ?c35 ?k35 ?a36 ?w36 ?l36 ?c36 ?k36 ?a37 ?w37 ?l37 ?c37 ?k37 ?a38 ?w38 ?l38 ?c38 ?k38 ?a39 ?w39 ?l39 ?c39 ?k39 ?a40 ?w40 ?l40 ?c40 ?k40 ?a41 ?w41 ?l41 ?c41 ?k41 ?a42 ?l42 ?c42 ?k42 ?a43 ?l43 ?c43 ?k43 ?a44 ?l44 ?c44 ?k44 ?a45 ?l45 ?c45 ?k45 ?glb0 ?glt0 ?glb1 ?glb2 ?glb3 ?glt3 ?gq3_0 ?gq3_1 ?gq3_2 ?gq3_3 ?gq3_4 ?glb4 ?glb5 ?glt5 ?gq5_0 ?gq5_1 ?gq5_2 ?gq5_3 ?gq5_4 ?gq5_5 ?gq5_6 ?gq5_7 ?gq5_8 ?gq5_9 ?gq5_10 ?gq5_11 ?gq5_12 ?gq5_13 ?glb6 ?glb7 ?glb8 ?glb9 ?glb10 ?glt10 ?glb11 ?glt11 ?z (My.LI KX G ?ea0 ?en0 ?ea1 ?en1 ?ea2 ?en2 ?ea3 ?en3 ?ea4 ?en4 ?ea5 ?en5 ?ea6 ?en6 ?ea7 ?en7 ?ea8 ?en8 ?ea9 ?en9 ?ev ?env ?xg1 ?xh1 ?dD ?xc1 ?xb1 ?fS ?xo1 ?cz ?xs1 ?ck ?xr1 ?xk1_0 ?xm1_0 ?xk1_1 ?xm1_1 ?xk1_2 ?xk1_3 ?xk1_4 ?xk1_5 ?xk1_6 ?xk1_7 ?xk1_8 ?xk1_9)
   (case ea0=>first | k_is | rfl | kernel_rfl)
   (case en0=>first | k_is | rfl | kernel_rfl)
   (case ea1=>first | k_is | rfl | kernel_rfl)
   (case en1=>first | k_is | rfl | kernel_rfl)
   (case ea2=>first | k_is | rfl | kernel_rfl)
   (case en2=>first | k_is | rfl | kernel_rfl)
   (case ea3=>first | k_is | rfl | kernel_rfl)
   (case en3=>first | k_is | rfl | kernel_rfl)
   (case ea4=>first | k_is | rfl | kernel_rfl)
   (case en4=>first | k_is | rfl | kernel_rfl)
   (case ea5=>first | k_is | rfl | kernel_rfl)
   (case en5=>first | k_is | rfl | kernel_rfl)
   (case ea6=>first | k_is | rfl | kernel_rfl)
   (case en6=>first | k_is | rfl | kernel_rfl)
   (case ea7=>first | k_is | rfl | kernel_rfl)
   (case en7=>first | k_is | rfl | kernel_rfl)
   (case ea8=>first | k_is | rfl | kernel_rfl)
   (case en8=>first | k_is | rfl | kernel_rfl)
   (case ea9=>first | k_is | rfl | kernel_rfl)
   (case en9=>first | k_is | rfl | kernel_rfl)
   (case ev=>first | k_is | rfl | kernel_rfl)
   (case env=>first | k_is | rfl | kernel_rfl)
   (case xg1=>first | k_is | rfl | kernel_rfl)
   (case xh1=>first | k_is | rfl | kernel_rfl)
   (case dD=>first | k_is | rfl | kernel_rfl)
   (case xc1=>first | k_is | rfl | kernel_rfl)
   (case xb1=>first | k_is | rfl | kernel_rfl)
   (case fS=>first | k_is | rfl | kernel_rfl)
   (case xo1=>first | k_is | rfl | kernel_rfl)
   (case cz=>first | k_is | rfl | kernel_rfl)
   (case xs1=>first | k_is | rfl | kernel_rfl)
   (case ck=>first | k_is | rfl | kernel_rfl)
   (case xr1=>exact My.HS ⟨⟨_,by k_is,by first|rfl|kernel_rfl,by first|rfl|kernel_rfl⟩,by k_is,by k_is⟩ ⟨_,_,_,_,_,_,_,_,_,_,_,_,by k_is,⟨_,_,_,_,_,_,_,_,_,_,_,_,_,_,by rfl⟩,by first|k_is|kernel_rfl,by first|k_is|kernel_rfl,by k_is,by k_is,by k_is,by k_is⟩)
   (case xk1_0=>first | k_is | rfl | kernel_rfl)
   (case xm1_0=>first | k_is | rfl | kernel_rfl)
   (case xk1_1=>first | k_is | rfl | kernel_rfl)
   (case xm1_1=>first | k_is | rfl | kernel_rfl)
   (case xk1_2=>first | k_is | rfl | kernel_rfl)
   (case xk1_3=>first | k_is | rfl | kernel_rfl)
   (case xk1_4=>first | k_is | rfl | kernel_rfl)
   (case xk1_5=>first | k_is | rfl | kernel_rfl)
   (case xk1_6=>first | k_is | rfl | kernel_rfl)
   (case xk1_7=>first | k_is | rfl | kernel_rfl)
   (case xk1_8=>first | k_is | rfl | kernel_rfl)
   (case xk1_9=>first | k_is | rfl | kernel_rfl)
   (case ca0=>k_is)
   (case cb0=>k_is)
   (case cc0=>k_is)
   (case cd0'=>k_is)
   (case ce0=>k_is)
   (case cf0=>k_is)
   (case cg0=>k_is)
   (case na0_0=>k_is)
   (case na0_1=>k_is)
   (case na0_2=>k_is)
   (case na0_3=>k_is)
   (case na0_4=>k_is)
   (case na0_5=>k_is)
   (case a0=>k_is)
   (case l0=>k_is)
   (case c0=>k_is)
   (case k0=>k_is)
   (case a1=>k_is)
   (case l1=>k_is)
   (case c1=>k_is)
   (case k1=>k_is)
   (case a2=>k_is)
   (case l2=>k_is)
   (case c2=>k_is)
   (case k2=>k_is)
   (case a3=>k_is)
   (case l3=>k_is)
   (case c3=>k_is)
   (case k3=>k_is)
   (case a4=>k_is)
   (case l4=>k_is)
   (case c4=>k_is)
   (case k4=>k_is)
   (case a5=>k_is)
   (case l5=>k_is)
   (case c5=>k_is)
   (case k5=>k_is)
   (case a6=>k_is)
   (case l6=>k_is)
   (case c6=>k_is)
   (case k6=>k_is)
   (case a7=>k_is)
   (case l7=>k_is)
   (case c7=>k_is)
   (case k7=>k_is)
   (case a8=>k_is)
   (case l8=>k_is)
   (case c8=>k_is)
   (case k8=>k_is)
   (case a9=>k_is)
   (case l9=>k_is)
   (case c9=>k_is)
   (case k9=>k_is)
   (case a10=>k_is)
   (case l10=>k_is)
   (case c10=>k_is)
   (case k10=>k_is)
   (case a11=>k_is)
   (case l11=>k_is)
   (case c11=>k_is)
   (case k11=>k_is)
   (case a12=>k_is)
   (case l12=>k_is)
   (case c12=>k_is)
   (case k12=>k_is)
   (case a13=>k_is)
   (case l13=>k_is)
   (case c13=>k_is)
   (case k13=>k_is)
   (case a14=>k_is)
   (case l14=>k_is)
   (case c14=>k_is)
   (case k14=>k_is)
   (case a15=>k_is)
   (case l15=>k_is)
   (case c15=>k_is)
   (case k15=>k_is)
   (case a16=>k_is)
   (case l16=>k_is)
   (case c16=>k_is)
   (case k16=>k_is)
   (case a17=>k_is)
   (case l17=>k_is)
   (case c17=>k_is)
   (case k17=>k_is)
   (case a18=>k_is)
   (case l18=>k_is)
   (case c18=>k_is)
   (case k18=>k_is)
   (case a19=>k_is)
   (case l19=>k_is)
   (case c19=>k_is)
   (case k19=>k_is)
   (case a20=>k_is)
   (case l20=>k_is)
   (case c20=>k_is)
   (case k20=>k_is)
   (case a21=>k_is)
   (case w21=>k_is)
   (case l21=>k_is)
   (case c21=>k_is)
   (case k21=>k_is)
   (case a22=>k_is)
   (case w22=>k_is)
   (case l22=>k_is)
   (case c22=>k_is)
   (case k22=>k_is)
   (case a23=>k_is)
   (case w23=>k_is)
   (case l23=>k_is)
   (case c23=>k_is)
   (case k23=>k_is)
   (case a24=>k_is)
   (case w24=>k_is)
   (case l24=>k_is)
   (case c24=>k_is)
   (case k24=>k_is)
   (case a25=>k_is)
   (case w25=>k_is)
   (case l25=>k_is)
   (case c25=>k_is)
   (case k25=>k_is)
   (case a26=>k_is)
   (case w26=>k_is)
   (case l26=>k_is)
   (case c26=>k_is)
   (case k26=>k_is)
   (case a27=>k_is)
   (case w27=>k_is)
   (case l27=>k_is)
   (case c27=>k_is)
   (case k27=>k_is)
   (case a28=>k_is)
   (case w28=>k_is)
   (case l28=>k_is)
   (case c28=>k_is)
   (case k28=>k_is)
   (case a29=>k_is)
   (case w29=>k_is)
   (case l29=>k_is)
   (case c29=>k_is)
   (case k29=>k_is)
   (case a30=>k_is)
   (case w30=>k_is)
   (case l30=>k_is)
   (case c30=>k_is)
   (case k30=>k_is)
   (case a31=>k_is)
   (case w31=>k_is)
   (case l31=>k_is)
   (case c31=>k_is)
   (case k31=>k_is)
   (case a32=>k_is)
   (case w32=>k_is)
   (case l32=>k_is)
   (case c32=>k_is)
   (case k32=>k_is)
   (case a33=>k_is)
   (case w33=>k_is)
   (case l33=>k_is)
   (case c33=>k_is)
   (case k33=>k_is)
   (case a34=>k_is)
   (case w34=>k_is)
   (case l34=>k_is)
   (case c34=>k_is)
   (case k34=>k_is)
   (case a35=>k_is)
   (case l35=>k_is)
   (case c35=>k_is)
   (case k35=>k_is)
   (case a36=>k_is)
   (case w36=>k_is)
   (case l36=>k_is)
   (case c36=>k_is)
   (case k36=>k_is)
   (case a37=>k_is)
   (case w37=>k_is)
   (case l37=>k_is)
   (case c37=>k_is)
   (case k37=>k_is)
   (case a38=>k_is)
   (case w38=>k_is)
   (case l38=>k_is)
   (case c38=>k_is)
   (case k38=>k_is)
   (case a39=>k_is)
   (case w39=>k_is)
   (case l39=>k_is)
   (case c39=>k_is)
   (case k39=>k_is)
   (case a40=>k_is)
   (case w40=>k_is)
   (case l40=>k_is)
   (case c40=>k_is)
   (case k40=>k_is)
   (case a41=>k_is)
   (case w41=>k_is)
   (case l41=>k_is)
   (case c41=>k_is)
   (case k41=>k_is)
   (case a42=>k_is)
   (case l42=>k_is)
   (case c42=>k_is)
   (case k42=>k_is)
   (case a43=>k_is)
   (case l43=>k_is)
   (case c43=>k_is)
   (case k43=>k_is)
   (case a44=>k_is)
   (case l44=>k_is)
   (case c44=>k_is)
   (case k44=>k_is)
   (case a45=>k_is)
   (case l45=>k_is)
   (case c45=>k_is)
   (case k45=>k_is)
   (case glb0=>k_is)
   (case glt0=>k_is)
   (case glb1=>k_is)
   (case glb2=>k_is)
   (case glb3=>k_is)
   (case glt3=>k_is)
   (case gq3_0=>first | rfl | k_is)
   (case gq3_1=>first | rfl | k_is)
   (case gq3_2=>first | rfl | k_is)
   (case gq3_3=>first | rfl | k_is)
   (case gq3_4=>first | rfl | k_is)
   (case glb4=>k_is)
   (case glb5=>k_is)
   (case glt5=>k_is)
   (case gq5_0=>first | rfl | k_is)
   (case gq5_1=>first | rfl | k_is)
   (case gq5_2=>first | rfl | k_is)
   (case gq5_3=>first | rfl | k_is)
   (case gq5_4=>first | rfl | k_is)
   (case gq5_5=>first | rfl | k_is)
   (case gq5_6=>first | rfl | k_is)
   (case gq5_7=>first | rfl | k_is)
   (case gq5_8=>first | rfl | k_is)
   (case gq5_9=>first | rfl | k_is)
   (case gq5_10=>first | rfl | k_is)
   (case gq5_11=>first | rfl | k_is)
   (case gq5_12=>first | rfl | k_is)
   (case gq5_13=>first | rfl | k_is)
   (case glb6=>k_is)
   (case glb7=>k_is)
   (case glb8=>k_is)
   (case glb9=>k_is)
   (case glb10=>k_is)
   (case glt10=>k_is)
   (case glb11=>k_is)
   (case glt11=>k_is)
   case z=>
    intro x hx
    simp only [Ev.IC,List.mem_cons,List.not_mem_nil,or_false] at hx
    rcases hx with rfl | rfl | rfl | rfl | rfl | rfl | rfl | rfl | rfl | rfl | rfl | rfl | rfl | rfl | rfl | rfl | rfl | rfl | rfl <;> k_is
  obtain⟨f,fd,h1⟩:=T.fn My.vo (by simp [My.Tb])
  have e0:=hmg.symm.trans (h1.gl (by decide +kernel))
  cases e0
  refine⟨fd,?_,fun base kb nb=>((Ev.AV T 200).1 My.vo (by simp [My.Tb]) _ fd h1.fn).1⟩
  obtain⟨oc,od,kV,doc,pm,an,cdv,ct,osl,rfl,lk,hcd⟩:=h1.fn.ex
  exact fun s v=>.of_eq rfl
 case S=>exact fun w H a ns hl hO hS=>My.Ea hl hO hS
 case C=>exact fun _ _ _ _ z=>z
